import Derived.Test.YtmaegladkjcmdaaS4
namespace Go.Proofs.Ytmaegladkjcmdaa.Vg
set_option maxRecDepth 100000
set_option maxHeartbeats 4000000
set_option linter.unusedVariables false
set_option linter.unusedSimpArgs false
open Go Go.Proofs.Ytmaegladkjcmdaa.Ev Go.Proofs.Ytmaegladkjcmdaa.Vv
open List (flatMap length_cons length_nil length_map length_append map_cons map_nil length_replicate)
structure Zc where
 Level : Int
 From : Int
 To : Int
 deriving Inhabited
def Qn (x : Zc) : List VV := [vi x.Level, vi x.From, vi x.To]
theorem Qgy (x : Zc) : (Qn x).length = 3 := rfl
theorem Yt (xs : List Zc) : (xs.flatMap Qn).map unfr = xs.flatMap Qn := Qec (fun _ => rfl) xs
structure Zn where
 Drop : Int
 Limit : Int
 Most : Int
 deriving Inhabited
def Qq (x : Zn) : List VV := [vi x.Drop, vi x.Limit, vi x.Most]
theorem Qed (x : Zn) : (Qq x).length = 3 := rfl
theorem Wx (xs : List Zn) : (xs.flatMap Qq).map unfr = xs.flatMap Qq := Qec (fun _ => rfl) xs
structure Zt where
 Thick : Int
 Factor : Int
 Steps : (List Zn)
 Windows : (List Zc)
 deriving Inhabited
def Xg (x : Zt) : List VV := [vi x.Thick, vi x.Factor, VV.tr (flatMap Qq x.Steps) x.Steps.length, VV.tr (flatMap Qn x.Windows) x.Windows.length]
def Qou (x : Zt) : List VV := [vi x.Thick, vi x.Factor, VV.fr (flatMap Qq x.Steps) x.Steps.length, VV.fr (flatMap Qn x.Windows) x.Windows.length]
theorem Qgz (xs : List Zt) : (xs.flatMap Xg).map unfr = xs.flatMap Xg := Qfn (fun _ => rfl) xs
theorem Qg0 (xs : List Zt) : (xs.flatMap Qou).map unfr = xs.flatMap Xg := Qfn (fun _ => rfl) xs
structure Ql where
 From : Int
 To : Int
 Most : Int
 deriving Inhabited
def Qh (x : Ql) : List VV := [vi x.From, vi x.To, vi x.Most]
theorem Wy (x : Ql) : (Qh x).length = 3 := rfl
theorem Qee (xs : List Ql) : (xs.flatMap Qh).all VV.still = true := Qjd (fun _ => rfl) xs
theorem Qka (xs : List Ql) : (xs.flatMap Qh).all new0 = true := Qjd (fun _ => rfl) xs
theorem Qbi (xs : List Ql) : (xs.flatMap Qh).map unfr = xs.flatMap Qh := Qec (fun _ => rfl) xs
structure Qaf where
 bounds : (List Ql)
 times : (List Int)
 because : (List Int)
 deriving Inhabited
def Qcc (x : Qaf) : List VV := [VV.tr (flatMap Qh x.bounds) x.bounds.length, VV.tr (List.map vi x.times) x.times.length, VV.tr (List.map vi x.because) x.because.length]
theorem Qe7 (xs : List Qaf) : (xs.flatMap Qcc).map unfr = xs.flatMap Qcc := Qfn (fun _ => rfl) xs
theorem ag55 : Qa1 Try.prog 55 = some false := by kernel_rfl
theorem ag56 : Qa1 Try.prog 56 = some false := by kernel_rfl
theorem ag83 : Qa1 Try.prog 83 = some true := by kernel_rfl
theorem sz83 : szOf Try.prog 83 = some 3 := by kernel_rfl
theorem Q2j : Qa1 Try.prog 103 = some true := by kernel_rfl
theorem Q2k : szOf Try.prog 103 = some 3 := by kernel_rfl
theorem Qz9 : Qa1 Try.prog 106 = some true := by kernel_rfl
theorem Q0a : szOf Try.prog 106 = some 3 := by kernel_rfl
theorem Q2l : Qa1 Try.prog 113 = some false := by kernel_rfl
theorem Q2m : Qa1 Try.prog 115 = some false := by kernel_rfl
def Qdb (k : Nat) (a0 : (List Zc)) : Option Zt :=
 some (⟨30, 10, ([(⟨100, 5000, 400⟩ : Zn), (⟨50, 9000, 100⟩ : Zn)] : List Zn), a0⟩ : Zt)
theorem Qgg (k : Nat) (a0 : (List Zc)) (r : Zt) (h : Qdb k a0 = some r) : VC Try.prog 14 [VV.tr (flatMap Qn a0) a0.length] (VV.ag (Xg r)) := by
 unfold Qdb at h
 injection h with h; subst h
 exact Qw pm pn Try.func14 (r0 := VV.ag [vi 30, vi 10, VV.tr (List.drop 0 (List.map unfr [vi 100, vi 5000, vi 400, vi 50, vi 9000, vi 100])) 2, VV.tr (flatMap Qn a0) a0.length]) (ans := [.reg (.n :: []), .reg (nN 6 [])]) (fr := false) (by kernel_rfl) (an (an (ti tt) (an (ti (ti (ti (ti (ti (ti tt)))))) tt)) (an (ti (ti (ti (ti (ti tt))))) tt)) (Wv.of_eq (by first | (simp only [show [vi 100, vi 5000, vi 400, vi 50, vi 9000, vi 100] = flatMap Qq ([(⟨100, 5000, 400⟩ : Zn), (⟨50, 9000, 100⟩ : Zn)] : List Zn) from rfl, Qa7, Zi, Yd, Qeb, map_cons, map_nil, un_i, un_k, un_b, un_s, Qae, Qot, length_map, length_replicate, length_append, List.length_set, length_cons, length_nil, Nat.zero_add, Wi, Qb5, Zo, Xf, Xr, Yu, Ye, Qet, Yt, Wx, Qgz, Qg0]; done) | (simp only [show [vi 100, vi 5000, vi 400, vi 50, vi 9000, vi 100] = flatMap Qq ([(⟨100, 5000, 400⟩ : Zn), (⟨50, 9000, 100⟩ : Zn)] : List Zn) from rfl, Qa7, Zi, Yd, Qeb, map_cons, map_nil, un_i, un_k, un_b, un_s, Qae, Qot, length_map, length_replicate, length_append, List.length_set, length_cons, length_nil, Nat.zero_add, Wi, Qb5, Zo, Xf, Xr, Yu, Ye, Qet, Yt, Wx, Qgz, Qg0]; rfl)))
def Jl (k : Nat) (a0 : (List Zn)) (a1 : Unit) : Option ((List Zn) × Unit) :=
 some (a0, a1)
theorem Qa8 (k : Nat) (a0 : (List Zn)) (a1 : Unit) (r : ((List Zn) × Unit)) (h : Jl k a0 a1 = some r) : VC Try.prog 61 [VV.tr (flatMap Qq a0) a0.length, VV.fn 62 []] (VV.fn 70 [VV.tp [VV.tr (flatMap Qq r.1) r.1.length] 0, VV.tp [VV.fn 62 []] 0]) := by
 unfold Jl at h
 injection h with h; subst h
 exact Qw pm pn Try.func61 (r0 := VV.fn 70 [VV.tp [VV.tr (flatMap Qq a0) a0.length] 0, VV.tp [VV.fn 62 []] 0]) (ans := [.reg (nN 3 []), .frz 0, .frz 1, .reg (.n :: .n :: [])]) (fr := false) (by kernel_rfl) (an (an (ti (ti (ti tt))) (an (ti (ti tt)) tt)) (ti tt)) (Wv.of_eq rfl)
def Ji (k : Nat) (a0 : (List Zc)) (a1 : (Int × Int × (List Zn) × (List Zc))) : Option ((List Zc) × (Int × Int × (List Zn) × (List Zc))) :=
 some (a0, a1)
theorem Qay (k : Nat) (a0 : (List Zc)) (a1 : (Int × Int × (List Zn) × (List Zc))) (r : ((List Zc) × (Int × Int × (List Zn) × (List Zc)))) (h : Ji k a0 a1 = some r) : VC Try.prog 63 [VV.tr (flatMap Qn a0) a0.length, VV.fn 64 [VV.tp [vi a1.1, vi a1.2.1, VV.tr (flatMap Qq a1.2.2.1) a1.2.2.1.length, VV.tr (flatMap Qn a1.2.2.2) a1.2.2.2.length] 0]] (VV.fn 71 [VV.tp [VV.tr (flatMap Qn r.1) r.1.length] 0, VV.tp [VV.fn 64 [VV.tp [vi r.2.1, vi r.2.2.1, VV.tr (flatMap Qq r.2.2.2.1) r.2.2.2.1.length, VV.tr (flatMap Qn r.2.2.2.2) r.2.2.2.2.length] 0]] 0]) := by
 unfold Ji at h
 injection h with h; subst h
 exact Qw pm pn Try.func63 (r0 := VV.fn 71 [VV.tp [VV.tr (flatMap Qn a0) a0.length] 0, VV.tp [VV.fn 64 [VV.tp [vi a1.1, vi a1.2.1, VV.tr (flatMap Qq a1.2.2.1) a1.2.2.1.length, VV.tr (flatMap Qn a1.2.2.2) a1.2.2.2.length] 0]] 0]) (ans := [.reg (nN 3 []), .frz 0, .frz 1, .reg (.n :: .n :: [])]) (fr := false) (by kernel_rfl) (an (an (ti (ti (ti tt))) (an (ti (ti tt)) tt)) (ti tt)) (Wv.of_eq rfl)
theorem Q0b (z0 : Zt) : [VV.tr (flatMap Qn z0.Windows) z0.Windows.length, VV.fn 64 [VV.tp [vi ((z0.Thick, z0.Factor, z0.Steps, z0.Windows).1), vi ((z0.Thick, z0.Factor, z0.Steps, z0.Windows).2.1), VV.tr (flatMap Qq ((z0.Thick, z0.Factor, z0.Steps, z0.Windows).2.2.1)) (((z0.Thick, z0.Factor, z0.Steps, z0.Windows).2.2.1).length), VV.tr (flatMap Qn ((z0.Thick, z0.Factor, z0.Steps, z0.Windows).2.2.2)) (((z0.Thick, z0.Factor, z0.Steps, z0.Windows).2.2.2).length)] 0]] = [VV.tr (flatMap Qn z0.Windows) z0.Windows.length, VV.fn 64 [VV.tp [vi z0.Thick, vi z0.Factor, VV.tr (flatMap Qq z0.Steps) z0.Steps.length, VV.tr (flatMap Qn z0.Windows) z0.Windows.length] 0]] := by first | rfl | (simp only [Zi, map_cons, map_nil, un_i, Qae, length_cons, length_nil, Yt, Wx]; done) | (simp only [Zi, map_cons, map_nil, un_i, Qae, length_cons, length_nil, Yt, Wx]; rfl) | (simp only [Zi, map_cons, map_nil, un_i, Qae, length_cons, length_nil, Yt, Wx, Qn, Qq, length_cons, length_nil, length_append]; done)
def Ja (k : Nat) (a0 : ((Bool × Int) × (Bool × Int) × (Bool × Int))) : Option Int :=
 (Zj k a0.1.1 a0.1.2).bind fun r4192 => (if r4192 = 0 then ((Zj k a0.2.1.1 a0.2.1.2).bind fun r4198 => (if r4198 = 0 then ((Zj k a0.2.2.1 a0.2.2.2).bind fun r4204 => (if r4204 = 0 then (some 0) else (some r4204))) else (some r4198))) else (some r4192))
theorem Qag (k : Nat) (a0 : ((Bool × Int) × (Bool × Int) × (Bool × Int))) (r : Int) (h : Ja k a0 = some r) : VC Try.prog 35 [VV.tr ([VV.fn 53 [VV.tp [vb a0.1.1] 0, VV.tp [vi a0.1.2] 0], VV.fn 53 [VV.tp [vb a0.2.1.1] 0, VV.tp [vi a0.2.1.2] 0], VV.fn 53 [VV.tp [vb a0.2.2.1] 0, VV.tp [vi a0.2.2.2] 0]]) 3] (vi r) := by
 unfold Ja at h
 have e4190 := (show (0 : Int) <= 0 /\ (0 : Int) < ((3 : Nat) : Int) from ⟨by decide, by decide⟩)
 have e4191 := (show Xt Try.prog 89 ((0 : Int).toNat * 1) ([VV.fn 53 [VV.tp [vb a0.1.1] 0, VV.tp [vi a0.1.2] 0], VV.fn 53 [VV.tp [vb a0.2.1.1] 0, VV.tp [vi a0.2.1.2] 0], VV.fn 53 [VV.tp [vb a0.2.2.1] 0, VV.tp [vi a0.2.2.2] 0]]) = some (VV.fn 53 [VV.tp [vb a0.1.1] 0, VV.tp [vi a0.1.2] 0]) from (Ju ag89 rfl))
 obtain ⟨r4192, h4193, h⟩ := bs h
 have e4194 := (Zf k a0.1.1 a0.1.2 _ h4193)
 rcases ifs h with ⟨h4195, h⟩ | ⟨h4195, h⟩
 ·have e4196 := (show (0 : Int) <= 1 /\ (1 : Int) < ((3 : Nat) : Int) from ⟨by decide, by decide⟩)
  have e4197 := (show Xt Try.prog 89 ((1 : Int).toNat * 1) ([VV.fn 53 [VV.tp [vb a0.1.1] 0, VV.tp [vi a0.1.2] 0], VV.fn 53 [VV.tp [vb a0.2.1.1] 0, VV.tp [vi a0.2.1.2] 0], VV.fn 53 [VV.tp [vb a0.2.2.1] 0, VV.tp [vi a0.2.2.2] 0]]) = some (VV.fn 53 [VV.tp [vb a0.2.1.1] 0, VV.tp [vi a0.2.1.2] 0]) from (Ju ag89 rfl))
  obtain ⟨r4198, h4199, h⟩ := bs h
  have e4200 := (Zf k a0.2.1.1 a0.2.1.2 _ h4199)
  rcases ifs h with ⟨h4201, h⟩ | ⟨h4201, h⟩
  ·have e4202 := (show (0 : Int) <= 2 /\ (2 : Int) < ((3 : Nat) : Int) from ⟨by decide, by decide⟩)
   have e4203 := (show Xt Try.prog 89 ((2 : Int).toNat * 1) ([VV.fn 53 [VV.tp [vb a0.1.1] 0, VV.tp [vi a0.1.2] 0], VV.fn 53 [VV.tp [vb a0.2.1.1] 0, VV.tp [vi a0.2.1.2] 0], VV.fn 53 [VV.tp [vb a0.2.2.1] 0, VV.tp [vi a0.2.2.2] 0]]) = some (VV.fn 53 [VV.tp [vb a0.2.2.1] 0, VV.tp [vi a0.2.2.2] 0]) from (Ju ag89 rfl))
   obtain ⟨r4204, h4205, h⟩ := bs h
   have e4206 := (Zf k a0.2.2.1 a0.2.2.2 _ h4205)
   rcases ifs h with ⟨h4207, h⟩ | ⟨h4207, h⟩
   ·injection h with h; subst h
    exact Qw pm pn Try.func35 (r0 := vi 0) (ans := [.reg (.n :: []), .reg (nN 3 []), .unr 5, .reg (.n :: []), .br true, .reg (.n :: .v (VV.fn 53 [VV.tp [vb a0.1.1] 0, VV.tp [vi a0.1.2] 0]) :: .n :: []), .reg (.n :: .call (vi r4192) :: .n :: []), .reg (.n :: .n :: []), .br false, .reg (.n :: .n :: []), .reg (.n :: []), .br true, .reg (.n :: .v (VV.fn 53 [VV.tp [vb a0.2.1.1] 0, VV.tp [vi a0.2.1.2] 0]) :: .n :: []), .reg (.n :: .call (vi r4198) :: .n :: []), .reg (.n :: .n :: []), .br false, .reg (.n :: .n :: []), .reg (.n :: []), .br true, .reg (.n :: .v (VV.fn 53 [VV.tp [vb a0.2.2.1] 0, VV.tp [vi a0.2.2.2] 0]) :: .n :: []), .reg (.n :: .call (vi r4204) :: .n :: []), .reg (.n :: .n :: []), .br false, .reg (.n :: .n :: []), .reg (.n :: []), .br false, .reg (.n :: [])]) (fr := true) (by kernel_rfl) (an (an (ti tt) (an (an (ti (ti (ti tt))) (an (an (ti tt) (an (an (show (decide ((0 : Int) < 3)) = true from (dt (by decide))) tt) (an (an (an e4190 (an e4191 (ti tt))) (an (ti (an e4194 (ti tt))) (an (ti (ti tt)) (an (Qm (dt h4195)) tt)))) (ti (ti tt))))) (an (an (ti tt) (an (an (show (decide ((1 : Int) < 3)) = true from (dt (by decide))) tt) (an (an (an e4196 (an e4197 (ti tt))) (an (ti (an e4200 (ti tt))) (an (ti (ti tt)) (an (Qm (dt h4201)) tt)))) (ti (ti tt))))) (an (an (ti tt) (an (an (show (decide ((2 : Int) < 3)) = true from (dt (by decide))) tt) (an (an (an e4202 (an e4203 (ti tt))) (an (ti (an e4206 (ti tt))) (an (ti (ti tt)) (an (Qm (dt h4207)) tt)))) (ti (ti tt))))) (an (ti tt) (an (show (decide ((3 : Int) < 3)) = false from (df (by decide))) tt)))))) (an (ti tt) tt))) (ti tt)) (Wv.refl _)
   ·injection h with h; subst h
    exact Qw pm pn Try.func35 (r0 := vi r4204) (ans := [.reg (.n :: []), .reg (nN 3 []), .unr 4, .reg (.n :: []), .br true, .reg (.n :: .v (VV.fn 53 [VV.tp [vb a0.1.1] 0, VV.tp [vi a0.1.2] 0]) :: .n :: []), .reg (.n :: .call (vi r4192) :: .n :: []), .reg (.n :: .n :: []), .br false, .reg (.n :: .n :: []), .reg (.n :: []), .br true, .reg (.n :: .v (VV.fn 53 [VV.tp [vb a0.2.1.1] 0, VV.tp [vi a0.2.1.2] 0]) :: .n :: []), .reg (.n :: .call (vi r4198) :: .n :: []), .reg (.n :: .n :: []), .br false, .reg (.n :: .n :: []), .reg (.n :: []), .br true, .reg (.n :: .v (VV.fn 53 [VV.tp [vb a0.2.2.1] 0, VV.tp [vi a0.2.2.2] 0]) :: .n :: []), .reg (.n :: .call (vi r4204) :: .n :: []), .reg (.n :: .n :: []), .br true, .reg (.n :: .n :: [])]) (fr := true) (by kernel_rfl) (an (an (ti tt) (an (ti (ti (ti tt))) (an (an (ti tt) (an (an (show (decide ((0 : Int) < 3)) = true from (dt (by decide))) tt) (an (an (an e4190 (an e4191 (ti tt))) (an (ti (an e4194 (ti tt))) (an (ti (ti tt)) (an (Qm (dt h4195)) tt)))) (ti (ti tt))))) (an (an (ti tt) (an (an (show (decide ((1 : Int) < 3)) = true from (dt (by decide))) tt) (an (an (an e4196 (an e4197 (ti tt))) (an (ti (an e4200 (ti tt))) (an (ti (ti tt)) (an (Qm (dt h4201)) tt)))) (ti (ti tt))))) (an (ti tt) (an (an (show (decide ((2 : Int) < 3)) = true from (dt (by decide))) tt) (an (an e4202 (an e4203 (ti tt))) (an (ti (an e4206 (ti tt))) (an (ti (ti tt)) (an (Za (df h4207)) (an (ti (ti tt)) tt))))))))))) (ti tt)) (Wv.refl _)
  ·injection h with h; subst h
   exact Qw pm pn Try.func35 (r0 := vi r4198) (ans := [.reg (.n :: []), .reg (nN 3 []), .unr 3, .reg (.n :: []), .br true, .reg (.n :: .v (VV.fn 53 [VV.tp [vb a0.1.1] 0, VV.tp [vi a0.1.2] 0]) :: .n :: []), .reg (.n :: .call (vi r4192) :: .n :: []), .reg (.n :: .n :: []), .br false, .reg (.n :: .n :: []), .reg (.n :: []), .br true, .reg (.n :: .v (VV.fn 53 [VV.tp [vb a0.2.1.1] 0, VV.tp [vi a0.2.1.2] 0]) :: .n :: []), .reg (.n :: .call (vi r4198) :: .n :: []), .reg (.n :: .n :: []), .br true, .reg (.n :: .n :: [])]) (fr := true) (by kernel_rfl) (an (an (ti tt) (an (ti (ti (ti tt))) (an (an (ti tt) (an (an (show (decide ((0 : Int) < 3)) = true from (dt (by decide))) tt) (an (an (an e4190 (an e4191 (ti tt))) (an (ti (an e4194 (ti tt))) (an (ti (ti tt)) (an (Qm (dt h4195)) tt)))) (ti (ti tt))))) (an (ti tt) (an (an (show (decide ((1 : Int) < 3)) = true from (dt (by decide))) tt) (an (an e4196 (an e4197 (ti tt))) (an (ti (an e4200 (ti tt))) (an (ti (ti tt)) (an (Za (df h4201)) (an (ti (ti tt)) tt)))))))))) (ti tt)) (Wv.refl _)
 ·injection h with h; subst h
  exact Qw pm pn Try.func35 (r0 := vi r4192) (ans := [.reg (.n :: []), .reg (nN 3 []), .unr 2, .reg (.n :: []), .br true, .reg (.n :: .v (VV.fn 53 [VV.tp [vb a0.1.1] 0, VV.tp [vi a0.1.2] 0]) :: .n :: []), .reg (.n :: .call (vi r4192) :: .n :: []), .reg (.n :: .n :: []), .br true, .reg (.n :: .n :: [])]) (fr := true) (by kernel_rfl) (an (an (ti tt) (an (ti (ti (ti tt))) (an (ti tt) (an (an (show (decide ((0 : Int) < 3)) = true from (dt (by decide))) tt) (an (an e4190 (an e4191 (ti tt))) (an (ti (an e4194 (ti tt))) (an (ti (ti tt)) (an (Za (df h4195)) (an (ti (ti tt)) tt))))))))) (ti tt)) (Wv.refl _)
theorem Q0c (z0 : (Bool × Int)) (z1 : (Bool × Int)) (z2 : (Bool × Int)) : [VV.tr ([VV.fn 53 [VV.tp [vb (((z0, z1, z2).1).1)] 0, VV.tp [vi (((z0, z1, z2).1).2)] 0], VV.fn 53 [VV.tp [vb (((z0, z1, z2).2.1).1)] 0, VV.tp [vi (((z0, z1, z2).2.1).2)] 0], VV.fn 53 [VV.tp [vb (((z0, z1, z2).2.2).1)] 0, VV.tp [vi (((z0, z1, z2).2.2).2)] 0]]) 3] = [VV.tr (List.drop 0 (List.map unfr [VV.fn 53 [VV.tp [vb z0.1] 0, VV.tp [vi z0.2] 0], VV.fn 53 [VV.tp [vb z1.1] 0, VV.tp [vi z1.2] 0], VV.fn 53 [VV.tp [vb z2.1] 0, VV.tp [vi z2.2] 0]])) 3] := by first | rfl | (simp only [Qa7, Zi, Yd, map_cons, map_nil, un_i, un_b, Qae]; done) | (simp only [Qa7, Zi, Yd, map_cons, map_nil, un_i, un_b, Qae]; rfl) | (simp only [Qa7, Zi, Yd, map_cons, map_nil, un_i, un_b, Qae, length_cons, length_nil, length_append]; done)
def Q0d (z0 : (Bool × Int)) (z1 : (Bool × Int)) (z2 : (Bool × Int)) (z3 : Int) : List Ans := (.n :: .n :: .call (VV.fn 53 [VV.tp [vb z0.1] 0, VV.tp [vi z0.2] 0]) :: .n :: .n :: .call (VV.fn 53 [VV.tp [vb z1.1] 0, VV.tp [vi z1.2] 0]) :: .n :: .n :: .call (VV.fn 53 [VV.tp [vb z2.1] 0, VV.tp [vi z2.2] 0]) :: .n :: .call (vi z3) :: .n :: [])
def Qcv (k : Nat) (a0 : Zn) : Option Int :=
 (Zl k a0.Drop 1 1000).bind fun r4212 => ((Zl k a0.Limit 1 1000000000).bind fun r4215 => ((Zl k a0.Most 1 100000).bind fun r4218 => ((Ja k (r4212, r4215, r4218)).bind fun r4221 => (some r4221))))
theorem Qf1 (k : Nat) (a0 : Zn) (r : Int) (h : Qcv k a0 = some r) : VC Try.prog 62 [VV.ag (Qq a0)] (vi r) := by
 unfold Qcv at h
 obtain ⟨r4212, h4213, h⟩ := bs h
 have e4214 := (Zm k a0.Drop 1 1000 _ h4213)
 obtain ⟨r4215, h4216, h⟩ := bs h
 have e4217 := (Zm k a0.Limit 1 1000000000 _ h4216)
 obtain ⟨r4218, h4219, h⟩ := bs h
 have e4220 := (Zm k a0.Most 1 100000 _ h4219)
 obtain ⟨r4221, h4222, h⟩ := bs h
 have e4223 := (VC.args (Qag k (r4212, r4215, r4218) _ h4222) (Q0c r4212 r4215 r4218))
 have e4224 := (ti (ti (an e4214 (ti (ti (an e4217 (ti (ti (an e4220 (ti (an e4223 (ti tt))))))))))))
 injection h with h; subst h
 exact Qw pm pn Try.func62 (r0 := vi r4221) (ans := [.reg (.n :: .n :: []), .reg (Q0d r4212 r4215 r4218 r4221)]) (fr := true) (by kernel_rfl) (an (an (ti (ti tt)) (an e4224 tt)) (ti tt)) (Wv.refl _)
def Xd (q0_0 : (List Zn)) (x8 : Int) : VS := ⟨mkA [(1, VV.tp [VV.fn 62 []] 0), (6, VV.tr (flatMap Qq q0_0) q0_0.length), (7, vi (q0_0.length : Int)), (8, vi x8)], [], .nil⟩
def X5 (q0_0 : (List Zn)) (r : Int) : VS := ⟨mkA [(2, vi r)], [], .nil⟩
def X6 (q0_0 : (List Zn)) (r : Unit) : VS := ⟨mkA [], [], .nil⟩
def Zx (k : Nat) (q0_0 : (List Zn)) : Nat -> Int -> Option (Sum Int Unit)
 | 0, _ => none
 | fuel + 1, x8 => if x8 < (q0_0.length : Int) then (if 0 <= x8 /\ x8 < (q0_0.length : Int) then ((Qcv k (q0_0.getD x8.toNat default)).bind fun r4272 => (if r4272 = 0 then (Zx k q0_0 fuel (w64 (x8 + 1))) else (some (.inl r4272)))) else none) else (some (.inr ()))
theorem Qak (k : Nat) (q0_0 : (List Zn)) : ∀ (fuel : Nat) (x8 : Int) (r : Sum Int Unit), Zx k q0_0 fuel x8 = some r -> (match r with | .inl r => Yw none Try.prog (szF Try.f70) (Ya Try.f70 0) (Xd q0_0 x8) .ret (X5 q0_0 r) | .inr r => Yw none Try.prog (szF Try.f70) (Ya Try.f70 0) (Xd q0_0 x8) (.exit 0) (X6 q0_0 r)) := by
 intro fuel
 induction fuel with
 | zero => intro x8 r h; rw [Zx.eq_1] at h; cases h
 | succ fuel ih =>
  intro x8 r h
  rw [Zx.eq_2] at h
  rcases ifs h with ⟨h4268, h⟩ | ⟨h4268, h⟩
  ·obtain ⟨h4269, h⟩ := ifn h
   have e4270 := (show Xt Try.prog 83 (x8.toNat * 3) (flatMap Qq q0_0) = some (VV.ag (Qq (q0_0.getD x8.toNat default))) from Yo ag83 Qq 3 sz83 Qed q0_0 default h4269 (by omega))
   have e4271 := (show Xt Try.prog 113 0 [VV.fn 62 []] = some (VV.fn 62 []) from (Ju Q2l rfl))
   obtain ⟨r4272, h4273, h⟩ := bs h
   have e4274 := (Qf1 k (q0_0.getD x8.toNat default) _ h4273)
   rcases ifs h with ⟨h4275, h⟩ | ⟨h4275, h⟩
   ·have h2 := ih _ _ h
    obtain ⟨q, hv, hq⟩ := pkR (rd := none) (P := Try.prog) (fn := Try.f70) (k := 0) (s := (Xd q0_0 x8)) (ans := [.reg (.n :: []), .br true, .reg (.n :: .v (VV.ag (Qq (q0_0.getD x8.toNat default))) :: .n :: .n :: []), .reg (.v (VV.fn 62 []) :: .n :: .call (vi r4272) :: .n :: []), .reg (.n :: .n :: []), .br false, .reg (.n :: .n :: [])]) (c := ⟨[(1, none), (6, none), (7, none), (8, none)], [], []⟩) (e := .normal) (s1 := (Xd q0_0 (w64 (x8 + 1)))) (an (an (ti tt) (an (an (dt h4268) tt) (an (an (an h4269 (an e4270 (ti (ti tt)))) (an (an e4271 (ti (an e4274 (ti tt)))) (an (ti (ti tt)) (an (Qm (dt h4275)) tt)))) (ti (ti tt))))) (ti tt)) (by kernel_rfl)
    cases r with
    | inl r => exact Qz pm pn hv hq h2
    | inr r =>
     exact Qz pm pn hv hq h2
   ·injection h with h; subst h
    exact Q5 (c := ⟨[(2, none)], [], []⟩) (s1 := (X5 q0_0 r4272)) pm pn (ans := [.reg (.n :: []), .br true, .reg (.n :: .v (VV.ag (Qq (q0_0.getD x8.toNat default))) :: .n :: .n :: []), .reg (.v (VV.fn 62 []) :: .n :: .call (vi r4272) :: .n :: []), .reg (.n :: .n :: []), .br true, .reg (.n :: .n :: [])]) (by kernel_rfl) (by intro e; cases e) (an (an (ti tt) (an (an (dt h4268) tt) (an (an h4269 (an e4270 (ti (ti tt)))) (an (an e4271 (ti (an e4274 (ti tt)))) (an (ti (ti tt)) (an (Za (df h4275)) (an (ti (ti tt)) tt))))))) (ti tt))
  ·injection h with h; subst h
   exact Q5 (c := ⟨[], [], []⟩) (s1 := (X6 q0_0 ())) pm pn (ans := [.reg (.n :: []), .br false]) (by kernel_rfl) (by intro e; cases e) (an (an (ti tt) (an (df h4268) tt)) (ti tt))
def Jm (k : Nat) (q0_0 : (List Zn)) (q1_0 : Unit) : Option Int :=
 (Zx k q0_0 k 0).bind fun r4277 => (match r4277 with | .inl r4278 => (some r4278) | .inr r4279 => (some 0))
theorem Qa9 (k : Nat) (q0_0 : (List Zn)) (q1_0 : Unit) (r : Int) (h : Jm k q0_0 q1_0 = some r) : VC Try.prog 70 [VV.tp [VV.tr (flatMap Qq q0_0) q0_0.length] 0, VV.tp [VV.fn 62 []] 0] (vi r) := by
 unfold Jm at h
 have e4251 := (show Xt Try.prog 55 0 [VV.tr (flatMap Qq q0_0) q0_0.length] = some (VV.tr (flatMap Qq q0_0) q0_0.length) from (Ju ag55 rfl))
 obtain ⟨r4277, h4276, h⟩ := bs h
 have hph4276 := Qak k q0_0 _ _ _ h4276
 cases r4277 with
 | inl r4278 =>
  dsimp only at h
  have e4280 := (an (ti tt) (VRun.loop hph4276))
  injection h with h; subst h
  exact Qw pm pn Try.func70 (r0 := vi r4278) (ans := [.reg (.n :: []), .reg (.v (VV.tr (flatMap Qq q0_0) q0_0.length) :: .n :: .n :: []), .sub ⟨[(1, none), (6, none), (7, none), (8, none)], [], []⟩ .ret (X5 q0_0 r4278)]) (fr := true) (by kernel_rfl) (an (an (ti tt) (an (an e4251 (ti (ti tt))) e4280)) (ti tt)) (Wv.refl _)
 | inr r4279 =>
  dsimp only at h
  have e4281 := (an (ti tt) (VRun.loop hph4276))
  injection h with h; subst h
  exact Qw pm pn Try.func70 (r0 := vi 0) (ans := [.reg (.n :: []), .reg (.v (VV.tr (flatMap Qq q0_0) q0_0.length) :: .n :: .n :: []), .sub ⟨[(1, none), (6, none), (7, none), (8, none)], [], []⟩ (.exit 0) (X6 q0_0 r4279), .reg (.n :: [])]) (fr := true) (by kernel_rfl) (an (an (ti tt) (an (an (an e4251 (ti (ti tt))) e4281) (an (ti tt) tt))) (ti tt)) (Wv.refl _)
theorem Q0e (z0 : (Bool × Int)) (z1 : (Bool × Int)) (z2 : (Bool × Int)) (z3 : (Bool × Int)) : [VV.tr ([VV.fn 53 [VV.tp [vb (((z0, z1, z2, z3).1).1)] 0, VV.tp [vi (((z0, z1, z2, z3).1).2)] 0], VV.fn 53 [VV.tp [vb (((z0, z1, z2, z3).2.1).1)] 0, VV.tp [vi (((z0, z1, z2, z3).2.1).2)] 0], VV.fn 53 [VV.tp [vb (((z0, z1, z2, z3).2.2.1).1)] 0, VV.tp [vi (((z0, z1, z2, z3).2.2.1).2)] 0], VV.fn 53 [VV.tp [vb (((z0, z1, z2, z3).2.2.2).1)] 0, VV.tp [vi (((z0, z1, z2, z3).2.2.2).2)] 0]]) 4] = [VV.tr (List.drop 0 (List.map unfr [VV.fn 53 [VV.tp [vb z0.1] 0, VV.tp [vi z0.2] 0], VV.fn 53 [VV.tp [vb z1.1] 0, VV.tp [vi z1.2] 0], VV.fn 53 [VV.tp [vb z2.1] 0, VV.tp [vi z2.2] 0], VV.fn 53 [VV.tp [vb z3.1] 0, VV.tp [vi z3.2] 0]])) 4] := by first | rfl | (simp only [Qa7, Zi, Yd, map_cons, map_nil, un_i, un_b, Qae]; done) | (simp only [Qa7, Zi, Yd, map_cons, map_nil, un_i, un_b, Qae]; rfl) | (simp only [Qa7, Zi, Yd, map_cons, map_nil, un_i, un_b, Qae, length_cons, length_nil, length_append]; done)
def Q0f (z0 : (List Zn)) (z1 : Bool) (z2 : (Bool × Int)) (z3 : (Bool × Int)) (z4 : (Bool × Int)) (z5 : (Bool × Int)) (z6 : Int) : List Ans := (nN 3 (.v (VV.tr (flatMap Qq z0) z0.length) :: .n :: .call (vb z1) :: .call (VV.fn 53 [VV.tp [vb z2.1] 0, VV.tp [vi z2.2] 0]) :: .n :: .n :: .call (VV.fn 53 [VV.tp [vb z3.1] 0, VV.tp [vi z3.2] 0]) :: .n :: .n :: .call (VV.fn 53 [VV.tp [vb z4.1] 0, VV.tp [vi z4.2] 0]) :: nN 5 (.call (VV.fn 53 [VV.tp [vb z5.1] 0, VV.tp [vi z5.2] 0]) :: .n :: .call (vi z6) :: .n :: [])))
def Qcw (k : Nat) (a0 : Zc) (q0_0 : Int) (q0_1 : Int) (q0_2 : (List Zn)) (q0_3 : (List Zc)) : Option Int :=
 (Jt k a0.Level 0 (q0_2.length : Int)).bind fun r4319 => ((Qy k r4319 6).bind fun r4322 => ((Zl k a0.From 0 1000000).bind fun r4324 => ((Zl k a0.To 0 1000000).bind fun r4327 => ((Qy k (decide (a0.From <= a0.To)) 9).bind fun r4330 => ((Qd k (r4322, r4324, r4327, r4330)).bind fun r4333 => (some r4333))))))
theorem Qf2 (k : Nat) (a0 : Zc) (q0_0 : Int) (q0_1 : Int) (q0_2 : (List Zn)) (q0_3 : (List Zc)) (r : Int) (h : Qcw k a0 q0_0 q0_1 q0_2 q0_3 = some r) : VC Try.prog 64 [VV.ag (Qn a0), VV.tp [vi q0_0, vi q0_1, VV.tr (flatMap Qq q0_2) q0_2.length, VV.tr (flatMap Qn q0_3) q0_3.length] 0] (vi r) := by
 unfold Qcw at h
 have e4318 := (show Xt Try.prog 55 2 [vi q0_0, vi q0_1, VV.tr (flatMap Qq q0_2) q0_2.length, VV.tr (flatMap Qn q0_3) q0_3.length] = some (VV.tr (flatMap Qq q0_2) q0_2.length) from (Ju ag55 rfl))
 obtain ⟨r4319, h4320, h⟩ := bs h
 have e4321 := (Yv k a0.Level 0 (q0_2.length : Int) _ h4320)
 obtain ⟨r4322, h4323, h⟩ := bs h
 obtain ⟨r4324, h4325, h⟩ := bs h
 have e4326 := (Zm k a0.From 0 1000000 _ h4325)
 obtain ⟨r4327, h4328, h⟩ := bs h
 have e4329 := (Zm k a0.To 0 1000000 _ h4328)
 obtain ⟨r4330, h4331, h⟩ := bs h
 have e4332 := (Qp k (decide (a0.From <= a0.To)) 9 _ h4331)
 obtain ⟨r4333, h4334, h⟩ := bs h
 have e4335 := (VC.args (Qi k (r4322, r4324, r4327, r4330) _ h4334) (Q0e r4322 r4324 r4327 r4330))
 have e4336 := (ti (ti (ti (an e4318 (ti (an e4321 (an (Qp k r4319 6 _ h4323) (ti (ti (an e4326 (ti (ti (an e4329 (ti (ti (ti (ti (ti (an e4332 (ti (an e4335 (ti tt))))))))))))))))))))))
 injection h with h; subst h
 exact Qw pm pn Try.func64 (r0 := vi r4333) (ans := [.reg (.n :: .n :: []), .reg (Q0f q0_2 r4319 r4322 r4324 r4327 r4330 r4333)]) (fr := true) (by kernel_rfl) (an (an (ti (ti tt)) (an e4336 tt)) (ti tt)) (Wv.refl _)
def Qxb (z0 : (Int × Int × (List Zn) × (List Zc))) (z1 : Int) : List Ans := (.v (VV.fn 64 [VV.tp [vi z0.1, vi z0.2.1, VV.tr (flatMap Qq z0.2.2.1) z0.2.2.1.length, VV.tr (flatMap Qn z0.2.2.2) z0.2.2.2.length] 0]) :: .n :: .call (vi z1) :: .n :: [])
def Xa (q0_0 : (List Zc)) (q1_0 : (Int × Int × (List Zn) × (List Zc))) (x8 : Int) : VS := ⟨mkA [(1, VV.tp [VV.fn 64 [VV.tp [vi q1_0.1, vi q1_0.2.1, VV.tr (flatMap Qq q1_0.2.2.1) q1_0.2.2.1.length, VV.tr (flatMap Qn q1_0.2.2.2) q1_0.2.2.2.length] 0]] 0), (6, VV.tr (flatMap Qn q0_0) q0_0.length), (7, vi (q0_0.length : Int)), (8, vi x8)], [], .nil⟩
def Xu (q0_0 : (List Zc)) (q1_0 : (Int × Int × (List Zn) × (List Zc))) (r : Int) : VS := ⟨mkA [(2, vi r)], [], .nil⟩
def Xv (q0_0 : (List Zc)) (q1_0 : (Int × Int × (List Zn) × (List Zc))) (r : Unit) : VS := ⟨mkA [], [], .nil⟩
def Zq (k : Nat) (q0_0 : (List Zc)) (q1_0 : (Int × Int × (List Zn) × (List Zc))) : Nat -> Int -> Option (Sum Int Unit)
 | 0, _ => none
 | fuel + 1, x8 => if x8 < (q0_0.length : Int) then (if 0 <= x8 /\ x8 < (q0_0.length : Int) then ((Qcw k (q0_0.getD x8.toNat default) q1_0.1 q1_0.2.1 q1_0.2.2.1 q1_0.2.2.2).bind fun r4384 => (if r4384 = 0 then (Zq k q0_0 q1_0 fuel (w64 (x8 + 1))) else (some (.inl r4384)))) else none) else (some (.inr ()))
theorem Qac (k : Nat) (q0_0 : (List Zc)) (q1_0 : (Int × Int × (List Zn) × (List Zc))) : ∀ (fuel : Nat) (x8 : Int) (r : Sum Int Unit), Zq k q0_0 q1_0 fuel x8 = some r -> (match r with | .inl r => Yw none Try.prog (szF Try.f71) (Ya Try.f71 0) (Xa q0_0 q1_0 x8) .ret (Xu q0_0 q1_0 r) | .inr r => Yw none Try.prog (szF Try.f71) (Ya Try.f71 0) (Xa q0_0 q1_0 x8) (.exit 0) (Xv q0_0 q1_0 r)) := by
 intro fuel
 induction fuel with
 | zero => intro x8 r h; rw [Zq.eq_1] at h; cases h
 | succ fuel ih =>
  intro x8 r h
  rw [Zq.eq_2] at h
  rcases ifs h with ⟨h4380, h⟩ | ⟨h4380, h⟩
  ·obtain ⟨h4381, h⟩ := ifn h
   have e4382 := (show Xt Try.prog 106 (x8.toNat * 3) (flatMap Qn q0_0) = some (VV.ag (Qn (q0_0.getD x8.toNat default))) from Yo Qz9 Qn 3 Q0a Qgy q0_0 default h4381 (by omega))
   have e4383 := (show Xt Try.prog 115 0 [VV.fn 64 [VV.tp [vi q1_0.1, vi q1_0.2.1, VV.tr (flatMap Qq q1_0.2.2.1) q1_0.2.2.1.length, VV.tr (flatMap Qn q1_0.2.2.2) q1_0.2.2.2.length] 0]] = some (VV.fn 64 [VV.tp [vi q1_0.1, vi q1_0.2.1, VV.tr (flatMap Qq q1_0.2.2.1) q1_0.2.2.1.length, VV.tr (flatMap Qn q1_0.2.2.2) q1_0.2.2.2.length] 0]) from (Ju Q2m rfl))
   obtain ⟨r4384, h4385, h⟩ := bs h
   have e4386 := (Qf2 k (q0_0.getD x8.toNat default) q1_0.1 q1_0.2.1 q1_0.2.2.1 q1_0.2.2.2 _ h4385)
   rcases ifs h with ⟨h4387, h⟩ | ⟨h4387, h⟩
   ·have h2 := ih _ _ h
    obtain ⟨q, hv, hq⟩ := pkR (rd := none) (P := Try.prog) (fn := Try.f71) (k := 0) (s := (Xa q0_0 q1_0 x8)) (ans := [.reg (.n :: []), .br true, .reg (.n :: .v (VV.ag (Qn (q0_0.getD x8.toNat default))) :: .n :: .n :: []), .reg (Qxb q1_0 r4384), .reg (.n :: .n :: []), .br false, .reg (.n :: .n :: [])]) (c := ⟨[(1, none), (6, none), (7, none), (8, none)], [], []⟩) (e := .normal) (s1 := (Xa q0_0 q1_0 (w64 (x8 + 1)))) (an (an (ti tt) (an (an (dt h4380) tt) (an (an (an h4381 (an e4382 (ti (ti tt)))) (an (an e4383 (ti (an e4386 (ti tt)))) (an (ti (ti tt)) (an (Qm (dt h4387)) tt)))) (ti (ti tt))))) (ti tt)) (by kernel_rfl)
    cases r with
    | inl r => exact Qz pm pn hv hq h2
    | inr r =>
     exact Qz pm pn hv hq h2
   ·injection h with h; subst h
    exact Q5 (c := ⟨[(2, none)], [], []⟩) (s1 := (Xu q0_0 q1_0 r4384)) pm pn (ans := [.reg (.n :: []), .br true, .reg (.n :: .v (VV.ag (Qn (q0_0.getD x8.toNat default))) :: .n :: .n :: []), .reg (Qxb q1_0 r4384), .reg (.n :: .n :: []), .br true, .reg (.n :: .n :: [])]) (by kernel_rfl) (by intro e; cases e) (an (an (ti tt) (an (an (dt h4380) tt) (an (an h4381 (an e4382 (ti (ti tt)))) (an (an e4383 (ti (an e4386 (ti tt)))) (an (ti (ti tt)) (an (Za (df h4387)) (an (ti (ti tt)) tt))))))) (ti tt))
  ·injection h with h; subst h
   exact Q5 (c := ⟨[], [], []⟩) (s1 := (Xv q0_0 q1_0 ())) pm pn (ans := [.reg (.n :: []), .br false]) (by kernel_rfl) (by intro e; cases e) (an (an (ti tt) (an (df h4380) tt)) (ti tt))
def Jj (k : Nat) (q0_0 : (List Zc)) (q1_0 : (Int × Int × (List Zn) × (List Zc))) : Option Int :=
 (Zq k q0_0 q1_0 k 0).bind fun r4389 => (match r4389 with | .inl r4390 => (some r4390) | .inr r4391 => (some 0))
theorem Qaz (k : Nat) (q0_0 : (List Zc)) (q1_0 : (Int × Int × (List Zn) × (List Zc))) (r : Int) (h : Jj k q0_0 q1_0 = some r) : VC Try.prog 71 [VV.tp [VV.tr (flatMap Qn q0_0) q0_0.length] 0, VV.tp [VV.fn 64 [VV.tp [vi q1_0.1, vi q1_0.2.1, VV.tr (flatMap Qq q1_0.2.2.1) q1_0.2.2.1.length, VV.tr (flatMap Qn q1_0.2.2.2) q1_0.2.2.2.length] 0]] 0] (vi r) := by
 unfold Jj at h
 have e4363 := (show Xt Try.prog 56 0 [VV.tr (flatMap Qn q0_0) q0_0.length] = some (VV.tr (flatMap Qn q0_0) q0_0.length) from (Ju ag56 rfl))
 obtain ⟨r4389, h4388, h⟩ := bs h
 have hph4388 := Qac k q0_0 q1_0 _ _ _ h4388
 cases r4389 with
 | inl r4390 =>
  dsimp only at h
  have e4392 := (an (ti tt) (VRun.loop hph4388))
  injection h with h; subst h
  exact Qw pm pn Try.func71 (r0 := vi r4390) (ans := [.reg (.n :: []), .reg (.v (VV.tr (flatMap Qn q0_0) q0_0.length) :: .n :: .n :: []), .sub ⟨[(1, none), (6, none), (7, none), (8, none)], [], []⟩ .ret (Xu q0_0 q1_0 r4390)]) (fr := true) (by kernel_rfl) (an (an (ti tt) (an (an e4363 (ti (ti tt))) e4392)) (ti tt)) (Wv.refl _)
 | inr r4391 =>
  dsimp only at h
  have e4393 := (an (ti tt) (VRun.loop hph4388))
  injection h with h; subst h
  exact Qw pm pn Try.func71 (r0 := vi 0) (ans := [.reg (.n :: []), .reg (.v (VV.tr (flatMap Qn q0_0) q0_0.length) :: .n :: .n :: []), .sub ⟨[(1, none), (6, none), (7, none), (8, none)], [], []⟩ (.exit 0) (Xv q0_0 q1_0 r4391), .reg (.n :: [])]) (fr := true) (by kernel_rfl) (an (an (ti tt) (an (an (an e4363 (ti (ti tt))) e4393) (an (ti tt) tt))) (ti tt)) (Wv.refl _)
def Qq6 (z0 : ((Bool × Int) × (Bool × Int) × (Bool × Int) × ((List Zn) × Unit) × (Bool × Int) × ((List Zc) × (Int × Int × (List Zn) × (List Zc))))) : List Ans := (.n :: .v (VV.fn 70 [VV.tp [VV.tr (flatMap Qq z0.2.2.2.1.1) z0.2.2.2.1.1.length] 0, VV.tp [VV.fn 62 []] 0]) :: .n :: [])
def Qt1 (z0 : ((Bool × Int) × (Bool × Int) × (Bool × Int) × ((List Zn) × Unit) × (Bool × Int) × ((List Zc) × (Int × Int × (List Zn) × (List Zc))))) : List Ans := (.n :: .v (VV.fn 53 [VV.tp [vb z0.2.2.2.2.1.1] 0, VV.tp [vi z0.2.2.2.2.1.2] 0]) :: .n :: [])
def Qxc (z0 : ((Bool × Int) × (Bool × Int) × (Bool × Int) × ((List Zn) × Unit) × (Bool × Int) × ((List Zc) × (Int × Int × (List Zn) × (List Zc))))) : List Ans := (.n :: .v (VV.fn 71 [VV.tp [VV.tr (flatMap Qn z0.2.2.2.2.2.1) z0.2.2.2.2.2.1.length] 0, VV.tp [VV.fn 64 [VV.tp [vi z0.2.2.2.2.2.2.1, vi z0.2.2.2.2.2.2.2.1, VV.tr (flatMap Qq z0.2.2.2.2.2.2.2.2.1) z0.2.2.2.2.2.2.2.2.1.length, VV.tr (flatMap Qn z0.2.2.2.2.2.2.2.2.2) z0.2.2.2.2.2.2.2.2.2.length] 0]] 0]) :: .n :: [])
def Qx (k : Nat) (a0 : ((Bool × Int) × (Bool × Int) × (Bool × Int) × ((List Zn) × Unit) × (Bool × Int) × ((List Zc) × (Int × Int × (List Zn) × (List Zc))))) : Option Int :=
 (Zj k a0.1.1 a0.1.2).bind fun r4400 => (if r4400 = 0 then ((Zj k a0.2.1.1 a0.2.1.2).bind fun r4406 => (if r4406 = 0 then ((Zj k a0.2.2.1.1 a0.2.2.1.2).bind fun r4412 => (if r4412 = 0 then ((Jm k a0.2.2.2.1.1 a0.2.2.2.1.2).bind fun r4418 => (if r4418 = 0 then ((Zj k a0.2.2.2.2.1.1 a0.2.2.2.2.1.2).bind fun r4424 => (if r4424 = 0 then ((Jj k a0.2.2.2.2.2.1 a0.2.2.2.2.2.2).bind fun r4430 => (if r4430 = 0 then (some 0) else (some r4430))) else (some r4424))) else (some r4418))) else (some r4412))) else (some r4406))) else (some r4400))
theorem Z7 (k : Nat) (a0 : ((Bool × Int) × (Bool × Int) × (Bool × Int) × ((List Zn) × Unit) × (Bool × Int) × ((List Zc) × (Int × Int × (List Zn) × (List Zc))))) (r : Int) (h : Qx k a0 = some r) : VC Try.prog 35 [VV.tr ([VV.fn 53 [VV.tp [vb a0.1.1] 0, VV.tp [vi a0.1.2] 0], VV.fn 53 [VV.tp [vb a0.2.1.1] 0, VV.tp [vi a0.2.1.2] 0], VV.fn 53 [VV.tp [vb a0.2.2.1.1] 0, VV.tp [vi a0.2.2.1.2] 0], VV.fn 70 [VV.tp [VV.tr (flatMap Qq a0.2.2.2.1.1) a0.2.2.2.1.1.length] 0, VV.tp [VV.fn 62 []] 0], VV.fn 53 [VV.tp [vb a0.2.2.2.2.1.1] 0, VV.tp [vi a0.2.2.2.2.1.2] 0], VV.fn 71 [VV.tp [VV.tr (flatMap Qn a0.2.2.2.2.2.1) a0.2.2.2.2.2.1.length] 0, VV.tp [VV.fn 64 [VV.tp [vi a0.2.2.2.2.2.2.1, vi a0.2.2.2.2.2.2.2.1, VV.tr (flatMap Qq a0.2.2.2.2.2.2.2.2.1) a0.2.2.2.2.2.2.2.2.1.length, VV.tr (flatMap Qn a0.2.2.2.2.2.2.2.2.2) a0.2.2.2.2.2.2.2.2.2.length] 0]] 0]]) 6] (vi r) := by
 unfold Qx at h
 have e4398 := (show (0 : Int) <= 0 /\ (0 : Int) < ((6 : Nat) : Int) from ⟨by decide, by decide⟩)
 have e4399 := (show Xt Try.prog 89 ((0 : Int).toNat * 1) ([VV.fn 53 [VV.tp [vb a0.1.1] 0, VV.tp [vi a0.1.2] 0], VV.fn 53 [VV.tp [vb a0.2.1.1] 0, VV.tp [vi a0.2.1.2] 0], VV.fn 53 [VV.tp [vb a0.2.2.1.1] 0, VV.tp [vi a0.2.2.1.2] 0], VV.fn 70 [VV.tp [VV.tr (flatMap Qq a0.2.2.2.1.1) a0.2.2.2.1.1.length] 0, VV.tp [VV.fn 62 []] 0], VV.fn 53 [VV.tp [vb a0.2.2.2.2.1.1] 0, VV.tp [vi a0.2.2.2.2.1.2] 0], VV.fn 71 [VV.tp [VV.tr (flatMap Qn a0.2.2.2.2.2.1) a0.2.2.2.2.2.1.length] 0, VV.tp [VV.fn 64 [VV.tp [vi a0.2.2.2.2.2.2.1, vi a0.2.2.2.2.2.2.2.1, VV.tr (flatMap Qq a0.2.2.2.2.2.2.2.2.1) a0.2.2.2.2.2.2.2.2.1.length, VV.tr (flatMap Qn a0.2.2.2.2.2.2.2.2.2) a0.2.2.2.2.2.2.2.2.2.length] 0]] 0]]) = some (VV.fn 53 [VV.tp [vb a0.1.1] 0, VV.tp [vi a0.1.2] 0]) from (Ju ag89 rfl))
 obtain ⟨r4400, h4401, h⟩ := bs h
 have e4402 := (Zf k a0.1.1 a0.1.2 _ h4401)
 rcases ifs h with ⟨h4403, h⟩ | ⟨h4403, h⟩
 ·have e4404 := (show (0 : Int) <= 1 /\ (1 : Int) < ((6 : Nat) : Int) from ⟨by decide, by decide⟩)
  have e4405 := (show Xt Try.prog 89 ((1 : Int).toNat * 1) ([VV.fn 53 [VV.tp [vb a0.1.1] 0, VV.tp [vi a0.1.2] 0], VV.fn 53 [VV.tp [vb a0.2.1.1] 0, VV.tp [vi a0.2.1.2] 0], VV.fn 53 [VV.tp [vb a0.2.2.1.1] 0, VV.tp [vi a0.2.2.1.2] 0], VV.fn 70 [VV.tp [VV.tr (flatMap Qq a0.2.2.2.1.1) a0.2.2.2.1.1.length] 0, VV.tp [VV.fn 62 []] 0], VV.fn 53 [VV.tp [vb a0.2.2.2.2.1.1] 0, VV.tp [vi a0.2.2.2.2.1.2] 0], VV.fn 71 [VV.tp [VV.tr (flatMap Qn a0.2.2.2.2.2.1) a0.2.2.2.2.2.1.length] 0, VV.tp [VV.fn 64 [VV.tp [vi a0.2.2.2.2.2.2.1, vi a0.2.2.2.2.2.2.2.1, VV.tr (flatMap Qq a0.2.2.2.2.2.2.2.2.1) a0.2.2.2.2.2.2.2.2.1.length, VV.tr (flatMap Qn a0.2.2.2.2.2.2.2.2.2) a0.2.2.2.2.2.2.2.2.2.length] 0]] 0]]) = some (VV.fn 53 [VV.tp [vb a0.2.1.1] 0, VV.tp [vi a0.2.1.2] 0]) from (Ju ag89 rfl))
  obtain ⟨r4406, h4407, h⟩ := bs h
  have e4408 := (Zf k a0.2.1.1 a0.2.1.2 _ h4407)
  rcases ifs h with ⟨h4409, h⟩ | ⟨h4409, h⟩
  ·have e4410 := (show (0 : Int) <= 2 /\ (2 : Int) < ((6 : Nat) : Int) from ⟨by decide, by decide⟩)
   have e4411 := (show Xt Try.prog 89 ((2 : Int).toNat * 1) ([VV.fn 53 [VV.tp [vb a0.1.1] 0, VV.tp [vi a0.1.2] 0], VV.fn 53 [VV.tp [vb a0.2.1.1] 0, VV.tp [vi a0.2.1.2] 0], VV.fn 53 [VV.tp [vb a0.2.2.1.1] 0, VV.tp [vi a0.2.2.1.2] 0], VV.fn 70 [VV.tp [VV.tr (flatMap Qq a0.2.2.2.1.1) a0.2.2.2.1.1.length] 0, VV.tp [VV.fn 62 []] 0], VV.fn 53 [VV.tp [vb a0.2.2.2.2.1.1] 0, VV.tp [vi a0.2.2.2.2.1.2] 0], VV.fn 71 [VV.tp [VV.tr (flatMap Qn a0.2.2.2.2.2.1) a0.2.2.2.2.2.1.length] 0, VV.tp [VV.fn 64 [VV.tp [vi a0.2.2.2.2.2.2.1, vi a0.2.2.2.2.2.2.2.1, VV.tr (flatMap Qq a0.2.2.2.2.2.2.2.2.1) a0.2.2.2.2.2.2.2.2.1.length, VV.tr (flatMap Qn a0.2.2.2.2.2.2.2.2.2) a0.2.2.2.2.2.2.2.2.2.length] 0]] 0]]) = some (VV.fn 53 [VV.tp [vb a0.2.2.1.1] 0, VV.tp [vi a0.2.2.1.2] 0]) from (Ju ag89 rfl))
   obtain ⟨r4412, h4413, h⟩ := bs h
   have e4414 := (Zf k a0.2.2.1.1 a0.2.2.1.2 _ h4413)
   rcases ifs h with ⟨h4415, h⟩ | ⟨h4415, h⟩
   ·have e4416 := (show (0 : Int) <= 3 /\ (3 : Int) < ((6 : Nat) : Int) from ⟨by decide, by decide⟩)
    have e4417 := (show Xt Try.prog 89 ((3 : Int).toNat * 1) ([VV.fn 53 [VV.tp [vb a0.1.1] 0, VV.tp [vi a0.1.2] 0], VV.fn 53 [VV.tp [vb a0.2.1.1] 0, VV.tp [vi a0.2.1.2] 0], VV.fn 53 [VV.tp [vb a0.2.2.1.1] 0, VV.tp [vi a0.2.2.1.2] 0], VV.fn 70 [VV.tp [VV.tr (flatMap Qq a0.2.2.2.1.1) a0.2.2.2.1.1.length] 0, VV.tp [VV.fn 62 []] 0], VV.fn 53 [VV.tp [vb a0.2.2.2.2.1.1] 0, VV.tp [vi a0.2.2.2.2.1.2] 0], VV.fn 71 [VV.tp [VV.tr (flatMap Qn a0.2.2.2.2.2.1) a0.2.2.2.2.2.1.length] 0, VV.tp [VV.fn 64 [VV.tp [vi a0.2.2.2.2.2.2.1, vi a0.2.2.2.2.2.2.2.1, VV.tr (flatMap Qq a0.2.2.2.2.2.2.2.2.1) a0.2.2.2.2.2.2.2.2.1.length, VV.tr (flatMap Qn a0.2.2.2.2.2.2.2.2.2) a0.2.2.2.2.2.2.2.2.2.length] 0]] 0]]) = some (VV.fn 70 [VV.tp [VV.tr (flatMap Qq a0.2.2.2.1.1) a0.2.2.2.1.1.length] 0, VV.tp [VV.fn 62 []] 0]) from (Ju ag89 rfl))
    obtain ⟨r4418, h4419, h⟩ := bs h
    have e4420 := (Qa9 k a0.2.2.2.1.1 a0.2.2.2.1.2 _ h4419)
    rcases ifs h with ⟨h4421, h⟩ | ⟨h4421, h⟩
    ·have e4422 := (show (0 : Int) <= 4 /\ (4 : Int) < ((6 : Nat) : Int) from ⟨by decide, by decide⟩)
     have e4423 := (show Xt Try.prog 89 ((4 : Int).toNat * 1) ([VV.fn 53 [VV.tp [vb a0.1.1] 0, VV.tp [vi a0.1.2] 0], VV.fn 53 [VV.tp [vb a0.2.1.1] 0, VV.tp [vi a0.2.1.2] 0], VV.fn 53 [VV.tp [vb a0.2.2.1.1] 0, VV.tp [vi a0.2.2.1.2] 0], VV.fn 70 [VV.tp [VV.tr (flatMap Qq a0.2.2.2.1.1) a0.2.2.2.1.1.length] 0, VV.tp [VV.fn 62 []] 0], VV.fn 53 [VV.tp [vb a0.2.2.2.2.1.1] 0, VV.tp [vi a0.2.2.2.2.1.2] 0], VV.fn 71 [VV.tp [VV.tr (flatMap Qn a0.2.2.2.2.2.1) a0.2.2.2.2.2.1.length] 0, VV.tp [VV.fn 64 [VV.tp [vi a0.2.2.2.2.2.2.1, vi a0.2.2.2.2.2.2.2.1, VV.tr (flatMap Qq a0.2.2.2.2.2.2.2.2.1) a0.2.2.2.2.2.2.2.2.1.length, VV.tr (flatMap Qn a0.2.2.2.2.2.2.2.2.2) a0.2.2.2.2.2.2.2.2.2.length] 0]] 0]]) = some (VV.fn 53 [VV.tp [vb a0.2.2.2.2.1.1] 0, VV.tp [vi a0.2.2.2.2.1.2] 0]) from (Ju ag89 rfl))
     obtain ⟨r4424, h4425, h⟩ := bs h
     have e4426 := (Zf k a0.2.2.2.2.1.1 a0.2.2.2.2.1.2 _ h4425)
     rcases ifs h with ⟨h4427, h⟩ | ⟨h4427, h⟩
     ·have e4428 := (show (0 : Int) <= 5 /\ (5 : Int) < ((6 : Nat) : Int) from ⟨by decide, by decide⟩)
      have e4429 := (show Xt Try.prog 89 ((5 : Int).toNat * 1) ([VV.fn 53 [VV.tp [vb a0.1.1] 0, VV.tp [vi a0.1.2] 0], VV.fn 53 [VV.tp [vb a0.2.1.1] 0, VV.tp [vi a0.2.1.2] 0], VV.fn 53 [VV.tp [vb a0.2.2.1.1] 0, VV.tp [vi a0.2.2.1.2] 0], VV.fn 70 [VV.tp [VV.tr (flatMap Qq a0.2.2.2.1.1) a0.2.2.2.1.1.length] 0, VV.tp [VV.fn 62 []] 0], VV.fn 53 [VV.tp [vb a0.2.2.2.2.1.1] 0, VV.tp [vi a0.2.2.2.2.1.2] 0], VV.fn 71 [VV.tp [VV.tr (flatMap Qn a0.2.2.2.2.2.1) a0.2.2.2.2.2.1.length] 0, VV.tp [VV.fn 64 [VV.tp [vi a0.2.2.2.2.2.2.1, vi a0.2.2.2.2.2.2.2.1, VV.tr (flatMap Qq a0.2.2.2.2.2.2.2.2.1) a0.2.2.2.2.2.2.2.2.1.length, VV.tr (flatMap Qn a0.2.2.2.2.2.2.2.2.2) a0.2.2.2.2.2.2.2.2.2.length] 0]] 0]]) = some (VV.fn 71 [VV.tp [VV.tr (flatMap Qn a0.2.2.2.2.2.1) a0.2.2.2.2.2.1.length] 0, VV.tp [VV.fn 64 [VV.tp [vi a0.2.2.2.2.2.2.1, vi a0.2.2.2.2.2.2.2.1, VV.tr (flatMap Qq a0.2.2.2.2.2.2.2.2.1) a0.2.2.2.2.2.2.2.2.1.length, VV.tr (flatMap Qn a0.2.2.2.2.2.2.2.2.2) a0.2.2.2.2.2.2.2.2.2.length] 0]] 0]) from (Ju ag89 rfl))
      obtain ⟨r4430, h4431, h⟩ := bs h
      have e4432 := (Qaz k a0.2.2.2.2.2.1 a0.2.2.2.2.2.2 _ h4431)
      rcases ifs h with ⟨h4433, h⟩ | ⟨h4433, h⟩
      ·injection h with h; subst h
       exact Qw pm pn Try.func35 (r0 := vi 0) (ans := [.reg (.n :: []), .reg (nN 3 []), .unr 8, .reg (.n :: []), .br true, .reg (.n :: .v (VV.fn 53 [VV.tp [vb a0.1.1] 0, VV.tp [vi a0.1.2] 0]) :: .n :: []), .reg (.n :: .call (vi r4400) :: .n :: []), .reg (.n :: .n :: []), .br false, .reg (.n :: .n :: []), .reg (.n :: []), .br true, .reg (.n :: .v (VV.fn 53 [VV.tp [vb a0.2.1.1] 0, VV.tp [vi a0.2.1.2] 0]) :: .n :: []), .reg (.n :: .call (vi r4406) :: .n :: []), .reg (.n :: .n :: []), .br false, .reg (.n :: .n :: []), .reg (.n :: []), .br true, .reg (.n :: .v (VV.fn 53 [VV.tp [vb a0.2.2.1.1] 0, VV.tp [vi a0.2.2.1.2] 0]) :: .n :: []), .reg (.n :: .call (vi r4412) :: .n :: []), .reg (.n :: .n :: []), .br false, .reg (.n :: .n :: []), .reg (.n :: []), .br true, .reg (Qq6 a0), .reg (.n :: .call (vi r4418) :: .n :: []), .reg (.n :: .n :: []), .br false, .reg (.n :: .n :: []), .reg (.n :: []), .br true, .reg (Qt1 a0), .reg (.n :: .call (vi r4424) :: .n :: []), .reg (.n :: .n :: []), .br false, .reg (.n :: .n :: []), .reg (.n :: []), .br true, .reg (Qxc a0), .reg (.n :: .call (vi r4430) :: .n :: []), .reg (.n :: .n :: []), .br false, .reg (.n :: .n :: []), .reg (.n :: []), .br false, .reg (.n :: [])]) (fr := true) (by kernel_rfl) (an (an (ti tt) (an (an (ti (ti (ti tt))) (an (an (ti tt) (an (an (show (decide ((0 : Int) < 6)) = true from (dt (by decide))) tt) (an (an (an e4398 (an e4399 (ti tt))) (an (ti (an e4402 (ti tt))) (an (ti (ti tt)) (an (Qm (dt h4403)) tt)))) (ti (ti tt))))) (an (an (ti tt) (an (an (show (decide ((1 : Int) < 6)) = true from (dt (by decide))) tt) (an (an (an e4404 (an e4405 (ti tt))) (an (ti (an e4408 (ti tt))) (an (ti (ti tt)) (an (Qm (dt h4409)) tt)))) (ti (ti tt))))) (an (an (ti tt) (an (an (show (decide ((2 : Int) < 6)) = true from (dt (by decide))) tt) (an (an (an e4410 (an e4411 (ti tt))) (an (ti (an e4414 (ti tt))) (an (ti (ti tt)) (an (Qm (dt h4415)) tt)))) (ti (ti tt))))) (an (an (ti tt) (an (an (show (decide ((3 : Int) < 6)) = true from (dt (by decide))) tt) (an (an (an e4416 (an e4417 (ti tt))) (an (ti (an e4420 (ti tt))) (an (ti (ti tt)) (an (Qm (dt h4421)) tt)))) (ti (ti tt))))) (an (an (ti tt) (an (an (show (decide ((4 : Int) < 6)) = true from (dt (by decide))) tt) (an (an (an e4422 (an e4423 (ti tt))) (an (ti (an e4426 (ti tt))) (an (ti (ti tt)) (an (Qm (dt h4427)) tt)))) (ti (ti tt))))) (an (an (ti tt) (an (an (show (decide ((5 : Int) < 6)) = true from (dt (by decide))) tt) (an (an (an e4428 (an e4429 (ti tt))) (an (ti (an e4432 (ti tt))) (an (ti (ti tt)) (an (Qm (dt h4433)) tt)))) (ti (ti tt))))) (an (ti tt) (an (show (decide ((6 : Int) < 6)) = false from (df (by decide))) tt))))))))) (an (ti tt) tt))) (ti tt)) (Wv.refl _)
      ·injection h with h; subst h
       exact Qw pm pn Try.func35 (r0 := vi r4430) (ans := [.reg (.n :: []), .reg (nN 3 []), .unr 7, .reg (.n :: []), .br true, .reg (.n :: .v (VV.fn 53 [VV.tp [vb a0.1.1] 0, VV.tp [vi a0.1.2] 0]) :: .n :: []), .reg (.n :: .call (vi r4400) :: .n :: []), .reg (.n :: .n :: []), .br false, .reg (.n :: .n :: []), .reg (.n :: []), .br true, .reg (.n :: .v (VV.fn 53 [VV.tp [vb a0.2.1.1] 0, VV.tp [vi a0.2.1.2] 0]) :: .n :: []), .reg (.n :: .call (vi r4406) :: .n :: []), .reg (.n :: .n :: []), .br false, .reg (.n :: .n :: []), .reg (.n :: []), .br true, .reg (.n :: .v (VV.fn 53 [VV.tp [vb a0.2.2.1.1] 0, VV.tp [vi a0.2.2.1.2] 0]) :: .n :: []), .reg (.n :: .call (vi r4412) :: .n :: []), .reg (.n :: .n :: []), .br false, .reg (.n :: .n :: []), .reg (.n :: []), .br true, .reg (Qq6 a0), .reg (.n :: .call (vi r4418) :: .n :: []), .reg (.n :: .n :: []), .br false, .reg (.n :: .n :: []), .reg (.n :: []), .br true, .reg (Qt1 a0), .reg (.n :: .call (vi r4424) :: .n :: []), .reg (.n :: .n :: []), .br false, .reg (.n :: .n :: []), .reg (.n :: []), .br true, .reg (Qxc a0), .reg (.n :: .call (vi r4430) :: .n :: []), .reg (.n :: .n :: []), .br true, .reg (.n :: .n :: [])]) (fr := true) (by kernel_rfl) (an (an (ti tt) (an (ti (ti (ti tt))) (an (an (ti tt) (an (an (show (decide ((0 : Int) < 6)) = true from (dt (by decide))) tt) (an (an (an e4398 (an e4399 (ti tt))) (an (ti (an e4402 (ti tt))) (an (ti (ti tt)) (an (Qm (dt h4403)) tt)))) (ti (ti tt))))) (an (an (ti tt) (an (an (show (decide ((1 : Int) < 6)) = true from (dt (by decide))) tt) (an (an (an e4404 (an e4405 (ti tt))) (an (ti (an e4408 (ti tt))) (an (ti (ti tt)) (an (Qm (dt h4409)) tt)))) (ti (ti tt))))) (an (an (ti tt) (an (an (show (decide ((2 : Int) < 6)) = true from (dt (by decide))) tt) (an (an (an e4410 (an e4411 (ti tt))) (an (ti (an e4414 (ti tt))) (an (ti (ti tt)) (an (Qm (dt h4415)) tt)))) (ti (ti tt))))) (an (an (ti tt) (an (an (show (decide ((3 : Int) < 6)) = true from (dt (by decide))) tt) (an (an (an e4416 (an e4417 (ti tt))) (an (ti (an e4420 (ti tt))) (an (ti (ti tt)) (an (Qm (dt h4421)) tt)))) (ti (ti tt))))) (an (an (ti tt) (an (an (show (decide ((4 : Int) < 6)) = true from (dt (by decide))) tt) (an (an (an e4422 (an e4423 (ti tt))) (an (ti (an e4426 (ti tt))) (an (ti (ti tt)) (an (Qm (dt h4427)) tt)))) (ti (ti tt))))) (an (ti tt) (an (an (show (decide ((5 : Int) < 6)) = true from (dt (by decide))) tt) (an (an e4428 (an e4429 (ti tt))) (an (ti (an e4432 (ti tt))) (an (ti (ti tt)) (an (Za (df h4433)) (an (ti (ti tt)) tt)))))))))))))) (ti tt)) (Wv.refl _)
     ·injection h with h; subst h
      exact Qw pm pn Try.func35 (r0 := vi r4424) (ans := [.reg (.n :: []), .reg (nN 3 []), .unr 6, .reg (.n :: []), .br true, .reg (.n :: .v (VV.fn 53 [VV.tp [vb a0.1.1] 0, VV.tp [vi a0.1.2] 0]) :: .n :: []), .reg (.n :: .call (vi r4400) :: .n :: []), .reg (.n :: .n :: []), .br false, .reg (.n :: .n :: []), .reg (.n :: []), .br true, .reg (.n :: .v (VV.fn 53 [VV.tp [vb a0.2.1.1] 0, VV.tp [vi a0.2.1.2] 0]) :: .n :: []), .reg (.n :: .call (vi r4406) :: .n :: []), .reg (.n :: .n :: []), .br false, .reg (.n :: .n :: []), .reg (.n :: []), .br true, .reg (.n :: .v (VV.fn 53 [VV.tp [vb a0.2.2.1.1] 0, VV.tp [vi a0.2.2.1.2] 0]) :: .n :: []), .reg (.n :: .call (vi r4412) :: .n :: []), .reg (.n :: .n :: []), .br false, .reg (.n :: .n :: []), .reg (.n :: []), .br true, .reg (Qq6 a0), .reg (.n :: .call (vi r4418) :: .n :: []), .reg (.n :: .n :: []), .br false, .reg (.n :: .n :: []), .reg (.n :: []), .br true, .reg (Qt1 a0), .reg (.n :: .call (vi r4424) :: .n :: []), .reg (.n :: .n :: []), .br true, .reg (.n :: .n :: [])]) (fr := true) (by kernel_rfl) (an (an (ti tt) (an (ti (ti (ti tt))) (an (an (ti tt) (an (an (show (decide ((0 : Int) < 6)) = true from (dt (by decide))) tt) (an (an (an e4398 (an e4399 (ti tt))) (an (ti (an e4402 (ti tt))) (an (ti (ti tt)) (an (Qm (dt h4403)) tt)))) (ti (ti tt))))) (an (an (ti tt) (an (an (show (decide ((1 : Int) < 6)) = true from (dt (by decide))) tt) (an (an (an e4404 (an e4405 (ti tt))) (an (ti (an e4408 (ti tt))) (an (ti (ti tt)) (an (Qm (dt h4409)) tt)))) (ti (ti tt))))) (an (an (ti tt) (an (an (show (decide ((2 : Int) < 6)) = true from (dt (by decide))) tt) (an (an (an e4410 (an e4411 (ti tt))) (an (ti (an e4414 (ti tt))) (an (ti (ti tt)) (an (Qm (dt h4415)) tt)))) (ti (ti tt))))) (an (an (ti tt) (an (an (show (decide ((3 : Int) < 6)) = true from (dt (by decide))) tt) (an (an (an e4416 (an e4417 (ti tt))) (an (ti (an e4420 (ti tt))) (an (ti (ti tt)) (an (Qm (dt h4421)) tt)))) (ti (ti tt))))) (an (ti tt) (an (an (show (decide ((4 : Int) < 6)) = true from (dt (by decide))) tt) (an (an e4422 (an e4423 (ti tt))) (an (ti (an e4426 (ti tt))) (an (ti (ti tt)) (an (Za (df h4427)) (an (ti (ti tt)) tt))))))))))))) (ti tt)) (Wv.refl _)
    ·injection h with h; subst h
     exact Qw pm pn Try.func35 (r0 := vi r4418) (ans := [.reg (.n :: []), .reg (nN 3 []), .unr 5, .reg (.n :: []), .br true, .reg (.n :: .v (VV.fn 53 [VV.tp [vb a0.1.1] 0, VV.tp [vi a0.1.2] 0]) :: .n :: []), .reg (.n :: .call (vi r4400) :: .n :: []), .reg (.n :: .n :: []), .br false, .reg (.n :: .n :: []), .reg (.n :: []), .br true, .reg (.n :: .v (VV.fn 53 [VV.tp [vb a0.2.1.1] 0, VV.tp [vi a0.2.1.2] 0]) :: .n :: []), .reg (.n :: .call (vi r4406) :: .n :: []), .reg (.n :: .n :: []), .br false, .reg (.n :: .n :: []), .reg (.n :: []), .br true, .reg (.n :: .v (VV.fn 53 [VV.tp [vb a0.2.2.1.1] 0, VV.tp [vi a0.2.2.1.2] 0]) :: .n :: []), .reg (.n :: .call (vi r4412) :: .n :: []), .reg (.n :: .n :: []), .br false, .reg (.n :: .n :: []), .reg (.n :: []), .br true, .reg (Qq6 a0), .reg (.n :: .call (vi r4418) :: .n :: []), .reg (.n :: .n :: []), .br true, .reg (.n :: .n :: [])]) (fr := true) (by kernel_rfl) (an (an (ti tt) (an (ti (ti (ti tt))) (an (an (ti tt) (an (an (show (decide ((0 : Int) < 6)) = true from (dt (by decide))) tt) (an (an (an e4398 (an e4399 (ti tt))) (an (ti (an e4402 (ti tt))) (an (ti (ti tt)) (an (Qm (dt h4403)) tt)))) (ti (ti tt))))) (an (an (ti tt) (an (an (show (decide ((1 : Int) < 6)) = true from (dt (by decide))) tt) (an (an (an e4404 (an e4405 (ti tt))) (an (ti (an e4408 (ti tt))) (an (ti (ti tt)) (an (Qm (dt h4409)) tt)))) (ti (ti tt))))) (an (an (ti tt) (an (an (show (decide ((2 : Int) < 6)) = true from (dt (by decide))) tt) (an (an (an e4410 (an e4411 (ti tt))) (an (ti (an e4414 (ti tt))) (an (ti (ti tt)) (an (Qm (dt h4415)) tt)))) (ti (ti tt))))) (an (ti tt) (an (an (show (decide ((3 : Int) < 6)) = true from (dt (by decide))) tt) (an (an e4416 (an e4417 (ti tt))) (an (ti (an e4420 (ti tt))) (an (ti (ti tt)) (an (Za (df h4421)) (an (ti (ti tt)) tt)))))))))))) (ti tt)) (Wv.refl _)
   ·injection h with h; subst h
    exact Qw pm pn Try.func35 (r0 := vi r4412) (ans := [.reg (.n :: []), .reg (nN 3 []), .unr 4, .reg (.n :: []), .br true, .reg (.n :: .v (VV.fn 53 [VV.tp [vb a0.1.1] 0, VV.tp [vi a0.1.2] 0]) :: .n :: []), .reg (.n :: .call (vi r4400) :: .n :: []), .reg (.n :: .n :: []), .br false, .reg (.n :: .n :: []), .reg (.n :: []), .br true, .reg (.n :: .v (VV.fn 53 [VV.tp [vb a0.2.1.1] 0, VV.tp [vi a0.2.1.2] 0]) :: .n :: []), .reg (.n :: .call (vi r4406) :: .n :: []), .reg (.n :: .n :: []), .br false, .reg (.n :: .n :: []), .reg (.n :: []), .br true, .reg (.n :: .v (VV.fn 53 [VV.tp [vb a0.2.2.1.1] 0, VV.tp [vi a0.2.2.1.2] 0]) :: .n :: []), .reg (.n :: .call (vi r4412) :: .n :: []), .reg (.n :: .n :: []), .br true, .reg (.n :: .n :: [])]) (fr := true) (by kernel_rfl) (an (an (ti tt) (an (ti (ti (ti tt))) (an (an (ti tt) (an (an (show (decide ((0 : Int) < 6)) = true from (dt (by decide))) tt) (an (an (an e4398 (an e4399 (ti tt))) (an (ti (an e4402 (ti tt))) (an (ti (ti tt)) (an (Qm (dt h4403)) tt)))) (ti (ti tt))))) (an (an (ti tt) (an (an (show (decide ((1 : Int) < 6)) = true from (dt (by decide))) tt) (an (an (an e4404 (an e4405 (ti tt))) (an (ti (an e4408 (ti tt))) (an (ti (ti tt)) (an (Qm (dt h4409)) tt)))) (ti (ti tt))))) (an (ti tt) (an (an (show (decide ((2 : Int) < 6)) = true from (dt (by decide))) tt) (an (an e4410 (an e4411 (ti tt))) (an (ti (an e4414 (ti tt))) (an (ti (ti tt)) (an (Za (df h4415)) (an (ti (ti tt)) tt))))))))))) (ti tt)) (Wv.refl _)
  ·injection h with h; subst h
   exact Qw pm pn Try.func35 (r0 := vi r4406) (ans := [.reg (.n :: []), .reg (nN 3 []), .unr 3, .reg (.n :: []), .br true, .reg (.n :: .v (VV.fn 53 [VV.tp [vb a0.1.1] 0, VV.tp [vi a0.1.2] 0]) :: .n :: []), .reg (.n :: .call (vi r4400) :: .n :: []), .reg (.n :: .n :: []), .br false, .reg (.n :: .n :: []), .reg (.n :: []), .br true, .reg (.n :: .v (VV.fn 53 [VV.tp [vb a0.2.1.1] 0, VV.tp [vi a0.2.1.2] 0]) :: .n :: []), .reg (.n :: .call (vi r4406) :: .n :: []), .reg (.n :: .n :: []), .br true, .reg (.n :: .n :: [])]) (fr := true) (by kernel_rfl) (an (an (ti tt) (an (ti (ti (ti tt))) (an (an (ti tt) (an (an (show (decide ((0 : Int) < 6)) = true from (dt (by decide))) tt) (an (an (an e4398 (an e4399 (ti tt))) (an (ti (an e4402 (ti tt))) (an (ti (ti tt)) (an (Qm (dt h4403)) tt)))) (ti (ti tt))))) (an (ti tt) (an (an (show (decide ((1 : Int) < 6)) = true from (dt (by decide))) tt) (an (an e4404 (an e4405 (ti tt))) (an (ti (an e4408 (ti tt))) (an (ti (ti tt)) (an (Za (df h4409)) (an (ti (ti tt)) tt)))))))))) (ti tt)) (Wv.refl _)
 ·injection h with h; subst h
  exact Qw pm pn Try.func35 (r0 := vi r4400) (ans := [.reg (.n :: []), .reg (nN 3 []), .unr 2, .reg (.n :: []), .br true, .reg (.n :: .v (VV.fn 53 [VV.tp [vb a0.1.1] 0, VV.tp [vi a0.1.2] 0]) :: .n :: []), .reg (.n :: .call (vi r4400) :: .n :: []), .reg (.n :: .n :: []), .br true, .reg (.n :: .n :: [])]) (fr := true) (by kernel_rfl) (an (an (ti tt) (an (ti (ti (ti tt))) (an (ti tt) (an (an (show (decide ((0 : Int) < 6)) = true from (dt (by decide))) tt) (an (an e4398 (an e4399 (ti tt))) (an (ti (an e4402 (ti tt))) (an (ti (ti tt)) (an (Za (df h4403)) (an (ti (ti tt)) tt))))))))) (ti tt)) (Wv.refl _)
theorem Q0g (z0 : (Bool × Int)) (z1 : (Bool × Int)) (z2 : (Bool × Int)) (z3 : ((List Zn) × Unit)) (z4 : (Bool × Int)) (z5 : ((List Zc) × (Int × Int × (List Zn) × (List Zc)))) : [VV.tr ([VV.fn 53 [VV.tp [vb (((z0, z1, z2, z3, z4, z5).1).1)] 0, VV.tp [vi (((z0, z1, z2, z3, z4, z5).1).2)] 0], VV.fn 53 [VV.tp [vb (((z0, z1, z2, z3, z4, z5).2.1).1)] 0, VV.tp [vi (((z0, z1, z2, z3, z4, z5).2.1).2)] 0], VV.fn 53 [VV.tp [vb (((z0, z1, z2, z3, z4, z5).2.2.1).1)] 0, VV.tp [vi (((z0, z1, z2, z3, z4, z5).2.2.1).2)] 0], VV.fn 70 [VV.tp [VV.tr (flatMap Qq (((z0, z1, z2, z3, z4, z5).2.2.2.1).1)) ((((z0, z1, z2, z3, z4, z5).2.2.2.1).1).length)] 0, VV.tp [VV.fn 62 []] 0], VV.fn 53 [VV.tp [vb (((z0, z1, z2, z3, z4, z5).2.2.2.2.1).1)] 0, VV.tp [vi (((z0, z1, z2, z3, z4, z5).2.2.2.2.1).2)] 0], VV.fn 71 [VV.tp [VV.tr (flatMap Qn (((z0, z1, z2, z3, z4, z5).2.2.2.2.2).1)) ((((z0, z1, z2, z3, z4, z5).2.2.2.2.2).1).length)] 0, VV.tp [VV.fn 64 [VV.tp [vi ((((z0, z1, z2, z3, z4, z5).2.2.2.2.2).2).1), vi ((((z0, z1, z2, z3, z4, z5).2.2.2.2.2).2).2.1), VV.tr (flatMap Qq ((((z0, z1, z2, z3, z4, z5).2.2.2.2.2).2).2.2.1)) (((((z0, z1, z2, z3, z4, z5).2.2.2.2.2).2).2.2.1).length), VV.tr (flatMap Qn ((((z0, z1, z2, z3, z4, z5).2.2.2.2.2).2).2.2.2)) (((((z0, z1, z2, z3, z4, z5).2.2.2.2.2).2).2.2.2).length)] 0]] 0]]) 6] = [VV.tr (List.drop 0 (List.map unfr [VV.fn 53 [VV.tp [vb z0.1] 0, VV.tp [vi z0.2] 0], VV.fn 53 [VV.tp [vb z1.1] 0, VV.tp [vi z1.2] 0], VV.fn 53 [VV.tp [vb z2.1] 0, VV.tp [vi z2.2] 0], VV.fn 70 [VV.tp [VV.tr (flatMap Qq z3.1) z3.1.length] 0, VV.tp [VV.fn 62 []] 0], VV.fn 53 [VV.tp [vb z4.1] 0, VV.tp [vi z4.2] 0], VV.fn 71 [VV.tp [VV.tr (flatMap Qn z5.1) z5.1.length] 0, VV.tp [VV.fn 64 [VV.tp [vi z5.2.1, vi z5.2.2.1, VV.tr (flatMap Qq z5.2.2.2.1) z5.2.2.2.1.length, VV.tr (flatMap Qn z5.2.2.2.2) z5.2.2.2.2.length] 0]] 0]])) 6] := by first | rfl | (simp only [Qa7, Zi, Yd, map_cons, map_nil, un_i, un_b, Qae, length_map, length_cons, length_nil, Yt, Wx]; done) | (simp only [Qa7, Zi, Yd, map_cons, map_nil, un_i, un_b, Qae, length_map, length_cons, length_nil, Yt, Wx]; rfl) | (simp only [Qa7, Zi, Yd, map_cons, map_nil, un_i, un_b, Qae, length_map, length_cons, length_nil, Yt, Wx, Qq, Qn, length_cons, length_nil, length_append]; done)
def Q0h (z0 : Zt) (z1 : (Bool × Int)) (z2 : (Bool × Int)) (z3 : Bool) (z4 : (Bool × Int)) (z5 : ((List Zn) × Unit)) (z6 : (Bool × Int)) (z7 : ((List Zc) × (Int × Int × (List Zn) × (List Zc)))) (z8 : Int) : List Ans := (.n :: .v (vi z0.Thick) :: .call (VV.fn 53 [VV.tp [vb z1.1] 0, VV.tp [vi z1.2] 0]) :: .n :: .v (vi z0.Factor) :: .call (VV.fn 53 [VV.tp [vb z2.1] 0, VV.tp [vi z2.2] 0]) :: .n :: .v (VV.tr (flatMap Qq z0.Steps) z0.Steps.length) :: .n :: .call (vb z3) :: .call (VV.fn 53 [VV.tp [vb z4.1] 0, VV.tp [vi z4.2] 0]) :: .n :: .v (VV.tr (flatMap Qq z0.Steps) z0.Steps.length) :: .call (VV.fn 70 [VV.tp [VV.tr (flatMap Qq z5.1) z5.1.length] 0, VV.tp [VV.fn 62 []] 0]) :: .n :: .v (VV.tr (flatMap Qn z0.Windows) z0.Windows.length) :: .n :: .n :: .call (VV.fn 53 [VV.tp [vb z6.1] 0, VV.tp [vi z6.2] 0]) :: .n :: .v (VV.tr (flatMap Qn z0.Windows) z0.Windows.length) :: .n :: .call (VV.fn 71 [VV.tp [VV.tr (flatMap Qn z7.1) z7.1.length] 0, VV.tp [VV.fn 64 [VV.tp [vi z7.2.1, vi z7.2.2.1, VV.tr (flatMap Qq z7.2.2.2.1) z7.2.2.2.1.length, VV.tr (flatMap Qn z7.2.2.2.2) z7.2.2.2.2.length] 0]] 0]) :: .n :: .call (vi z8) :: .n :: [])
def Qdm (k : Nat) (a0 : Zt) : Option Int :=
 (Zl k a0.Thick 1 500).bind fun r4439 => ((Zl k a0.Factor 0 1000).bind fun r4443 => ((Jt k (a0.Steps.length : Int) 1 30).bind fun r4447 => ((Qy k r4447 10).bind fun r4450 => ((Jl k a0.Steps ()).bind fun r4453 => ((Qy k (decide ((a0.Windows.length : Int) <= 60)) 8).bind fun r4457 => ((Ji k a0.Windows (a0.Thick, a0.Factor, a0.Steps, a0.Windows)).bind fun r4461 => ((Qx k (r4439, r4443, r4450, r4453, r4457, r4461)).bind fun r4464 => (some r4464))))))))
theorem Qg1 (k : Nat) (a0 : Zt) (r : Int) (h : Qdm k a0 = some r) : VC Try.prog 50 [VV.ag (Xg a0)] (vi r) := by
 unfold Qdm at h
 have e4438 := (show Xt Try.prog 3 0 [vi a0.Thick, vi a0.Factor, VV.tr (flatMap Qq a0.Steps) a0.Steps.length, VV.tr (flatMap Qn a0.Windows) a0.Windows.length] = some (vi a0.Thick) from (Ju ag3 rfl))
 obtain ⟨r4439, h4440, h⟩ := bs h
 have e4441 := (Zm k a0.Thick 1 500 _ h4440)
 have e4442 := (show Xt Try.prog 3 1 [vi a0.Thick, vi a0.Factor, VV.tr (flatMap Qq a0.Steps) a0.Steps.length, VV.tr (flatMap Qn a0.Windows) a0.Windows.length] = some (vi a0.Factor) from (Ju ag3 rfl))
 obtain ⟨r4443, h4444, h⟩ := bs h
 have e4445 := (Zm k a0.Factor 0 1000 _ h4444)
 have e4446 := (show Xt Try.prog 55 2 [vi a0.Thick, vi a0.Factor, VV.tr (flatMap Qq a0.Steps) a0.Steps.length, VV.tr (flatMap Qn a0.Windows) a0.Windows.length] = some (VV.tr (flatMap Qq a0.Steps) a0.Steps.length) from (Ju ag55 rfl))
 obtain ⟨r4447, h4448, h⟩ := bs h
 have e4449 := (Yv k (a0.Steps.length : Int) 1 30 _ h4448)
 obtain ⟨r4450, h4451, h⟩ := bs h
 have e4452 := (show Xt Try.prog 55 2 [vi a0.Thick, vi a0.Factor, VV.tr (flatMap Qq a0.Steps) a0.Steps.length, VV.tr (flatMap Qn a0.Windows) a0.Windows.length] = some (VV.tr (flatMap Qq a0.Steps) a0.Steps.length) from (Ju ag55 rfl))
 obtain ⟨r4453, h4454, h⟩ := bs h
 have e4455 := (Qa8 k a0.Steps () _ h4454)
 have e4456 := (show Xt Try.prog 56 3 [vi a0.Thick, vi a0.Factor, VV.tr (flatMap Qq a0.Steps) a0.Steps.length, VV.tr (flatMap Qn a0.Windows) a0.Windows.length] = some (VV.tr (flatMap Qn a0.Windows) a0.Windows.length) from (Ju ag56 rfl))
 obtain ⟨r4457, h4458, h⟩ := bs h
 have e4459 := (Qp k (decide ((a0.Windows.length : Int) <= 60)) 8 _ h4458)
 have e4460 := (show Xt Try.prog 56 3 [vi a0.Thick, vi a0.Factor, VV.tr (flatMap Qq a0.Steps) a0.Steps.length, VV.tr (flatMap Qn a0.Windows) a0.Windows.length] = some (VV.tr (flatMap Qn a0.Windows) a0.Windows.length) from (Ju ag56 rfl))
 obtain ⟨r4461, h4462, h⟩ := bs h
 have e4463 := (VC.args (Qay k a0.Windows (a0.Thick, a0.Factor, a0.Steps, a0.Windows) _ h4462) (Q0b a0))
 obtain ⟨r4464, h4465, h⟩ := bs h
 have e4466 := (VC.args (Z7 k (r4439, r4443, r4450, r4453, r4457, r4461) _ h4465) (Q0g r4439 r4443 r4450 r4453 r4457 r4461))
 have e4467 := (ti (an e4438 (an e4441 (ti (an e4442 (an e4445 (ti (an e4446 (ti (an e4449 (an (Qp k r4447 10 _ h4451) (ti (an e4452 (an e4455 (ti (an e4456 (ti (ti (an e4459 (ti (an e4460 (ti (an e4463 (ti (an e4466 (ti tt))))))))))))))))))))))))))
 injection h with h; subst h
 exact Qw pm pn Try.func50 (r0 := vi r4464) (ans := [.reg (.n :: .n :: []), .frz 0, .reg (Q0h a0 r4439 r4443 r4447 r4450 r4453 r4457 r4461 r4464)]) (fr := true) (by kernel_rfl) (an (an (ti (ti tt)) (an e4467 tt)) (ti tt)) (Wv.refl _)
def Qd0 (k : Nat) (a0 : Zt) (a1 : Int) : Option Int :=
 if 0 <= a1 /\ a1 < (a0.Steps.length : Int) then (some (w64 ((w64 ((w64 (a0.Factor * a0.Thick)) * a0.Thick)) * ((a0.Steps.getD a1.toNat default).Drop)))) else none
theorem Qhl (k : Nat) (a0 : Zt) (a1 : Int) (r : Int) (h : Qd0 k a0 a1 = some r) : VC Try.prog 65 [VV.ag (Xg a0), vi a1] (vi r) := by
 unfold Qd0 at h
 obtain ⟨h4493, h⟩ := ifn h
 have e4494 := (show Xt Try.prog 3 (a1.toNat * 3 + 0) (flatMap Qq a0.Steps) = some (vi ((a0.Steps.getD a1.toNat default).Drop)) from (Qhb ag3 Qq 3 0 Qed (by omega) a0.Steps default h4493 (by omega)).trans rfl)
 have e4495 := (ti (ti (ti (ti (ti (ti (ti (ti (ti (ti (ti (an h4493 (ti (an e4494 (ti (ti tt))))))))))))))))
 injection h with h; subst h
 exact Qw pm pn Try.func65 (r0 := vi (w64 ((w64 ((w64 (a0.Factor * a0.Thick)) * a0.Thick)) * ((a0.Steps.getD a1.toNat default).Drop)))) (ans := [.reg (.n :: .n :: []), .reg (nN 13 (.v (vi ((a0.Steps.getD a1.toNat default).Drop)) :: .n :: .n :: []))]) (fr := true) (by kernel_rfl) (an (an (ti (ti tt)) (an e4495 tt)) (ti tt)) (Wv.refl _)
def Q0i (z0 : Int) (z1 : Zt) (z2 : Int) (z3 : Qct) : List Ans := (.n :: .n :: .call (vi z0) :: nN 5 (.v (vi ((z1.Steps.getD z2.toNat default).Limit)) :: .call (VV.ag (Xx z3)) :: nN 3 []))
def Qd1 (k : Nat) (a0 : Zt) (a1 : Int) : Option Int :=
 (Qd0 k a0 a1).bind fun r4505 => (if 0 <= a1 /\ a1 < (a0.Steps.length : Int) then ((Qda k r4505 ((a0.Steps.getD a1.toNat default).Limit)).bind fun r4510 => (some (maxI r4510.Hi 1))) else none)
theorem Qhm (k : Nat) (a0 : Zt) (a1 : Int) (r : Int) (h : Qd1 k a0 a1 = some r) : VC Try.prog 51 [VV.ag (Xg a0), vi a1] (vi r) := by
 unfold Qd1 at h
 obtain ⟨r4505, h4506, h⟩ := bs h
 have e4507 := (Qhl k a0 a1 _ h4506)
 obtain ⟨h4508, h⟩ := ifn h
 have e4509 := (show Xt Try.prog 3 (a1.toNat * 3 + 1) (flatMap Qq a0.Steps) = some (vi ((a0.Steps.getD a1.toNat default).Limit)) from (Qhb ag3 Qq 3 1 Qed (by omega) a0.Steps default h4508 (by omega)).trans rfl)
 obtain ⟨r4510, h4511, h⟩ := bs h
 have e4512 := (Qg2 k r4505 ((a0.Steps.getD a1.toNat default).Limit) _ h4511)
 have e4513 := (ti (ti (an e4507 (ti (ti (ti (an h4508 (ti (an e4509 (an e4512 (ti (ti (ti tt)))))))))))))
 injection h with h; subst h
 exact Qw pm pn Try.func51 (r0 := vi (maxI r4510.Hi 1)) (ans := [.reg (.n :: .n :: []), .reg (Q0i r4505 a0 a1 r4510)]) (fr := true) (by kernel_rfl) (an (an (ti (ti tt)) (an e4513 tt)) (ti tt)) (Wv.refl _)
def Qci (a0 : Zt) (y1 : List Ql) (x20 : Int) : VS := ⟨mkA [(1, VV.pt 0 0), (5, VV.rf 1 0 y1.length), (19, vi (w64 ((a0.Steps.length : Int) + 1))), (20, vi x20)], [some ⟨true, 1, Xg a0⟩, some ⟨false, 3, flatMap Qh y1⟩], .nil⟩
def Qcd (a0 : Zt) (r : (List Ql)) : VS := ⟨mkA [(1, VV.pt 0 0), (5, VV.rf 1 0 r.length)], [some ⟨true, 1, Xg a0⟩, some ⟨false, 3, flatMap Qh r⟩], .nil⟩
def Qah (k : Nat) (a0 : Zt) : Nat -> (List Ql) -> Int -> Option ((List Ql))
 | 0, _, _ => none
 | fuel + 1, y1, x20 => if x20 < (w64 ((a0.Steps.length : Int) + 1)) then (if y1.length + ([(⟨x20, (-1), 0⟩ : Ql)] : List Ql).length <= 1000000000 then (Qah k a0 fuel (y1 ++ ([(⟨x20, (-1), 0⟩ : Ql)] : List Ql)) (w64 (x20 + 1))) else none) else (some y1)
theorem Qgh (k : Nat) (a0 : Zt) : ∀ (fuel : Nat) (y1 : List Ql) (x20 : Int) (r : (List Ql)), Qah k a0 fuel y1 x20 = some r -> (Yw none Try.prog (szF Try.f28) (Ya Try.f28 0) (Qci a0 y1 x20) (.exit 0) (Qcd a0 r)) := by
 intro fuel
 induction fuel with
 | zero => intro y1 x20 r h; rw [Qah.eq_1] at h; cases h
 | succ fuel ih =>
  intro y1 x20 r h
  rw [Qah.eq_2] at h
  rcases ifs h with ⟨h4574, h⟩ | ⟨h4574, h⟩
  ·obtain ⟨h4575, h⟩ := ifn h
   have e4576 := (show List.length (flatMap Qh y1) = y1.length * 3 /\ List.length [vi x20, vi (-1), vi 0] = 1 * 3 /\ (y1.length + 1) * 24 <= 140737488355328 /\ y1.length + 1 < 1099511627776 /\ List.all [vi x20, vi (-1), vi 0] VV.still = true from ⟨(by rw [Qbm Wy] <;> simp), (by rw [show [vi x20, vi (-1), vi 0] = flatMap Qh ([(⟨x20, (-1), 0⟩ : Ql)] : List Ql) from rfl]; rw [Qbm Wy] <;> simp), (by first | omega | (simp at h4575 ⊢; omega)), (by first | omega | (simp at h4575 ⊢; omega)), (by rw [show [vi x20, vi (-1), vi 0] = flatMap Qh ([(⟨x20, (-1), 0⟩ : Ql)] : List Ql) from rfl]; exact Qee _)⟩)
   have h2 := ih _ _ _ h
   obtain ⟨q, hv, hq⟩ := pkR (rd := none) (P := Try.prog) (fn := Try.f28) (k := 0) (s := (Qci a0 y1 x20)) (ans := [.reg (.n :: []), .br true, .reg (.n :: .n :: []), .reg (nN 6 []), .reg (.n :: .n :: [])]) (c := ⟨[(1, none), (5, some (VV.rf 1 0 ((y1 ++ ([(⟨x20, (-1), 0⟩ : Ql)] : List Ql)).length))), (19, none), (20, none)], [none, some (flatMap Qh (y1 ++ ([(⟨x20, (-1), 0⟩ : Ql)] : List Ql)))], []⟩) (e := .normal) (s1 := (Qci a0 (y1 ++ ([(⟨x20, (-1), 0⟩ : Ql)] : List Ql)) (w64 (x20 + 1)))) (an (an (ti tt) (an (an (dt h4574) tt) (an (an (ti (ti tt)) (ti (ti (ti (ti (an e4576 (ti tt))))))) (ti (ti tt))))) (an (an (show Wv (VV.rf 1 0 (y1.length + 1)) (VV.rf 1 0 ((y1 ++ ([(⟨x20, (-1), 0⟩ : Ql)] : List Ql)).length)) from (Wv.of_eq (by simp))) tt) (an (show (flatMap Qh y1) ++ [vi x20, vi (-1), vi 0] = flatMap Qh (y1 ++ ([(⟨x20, (-1), 0⟩ : Ql)] : List Ql)) from (by rw [show [vi x20, vi (-1), vi 0] = flatMap Qh ([(⟨x20, (-1), 0⟩ : Ql)] : List Ql) from rfl]; exact List.flatMap_append.symm)) tt))) (by kernel_rfl)
   exact Qz pm pn hv hq h2
  ·injection h with h; subst h
   exact Q5 (c := ⟨[(1, none), (5, none)], [none, none], []⟩) (s1 := (Qcd a0 y1)) pm pn (ans := [.reg (.n :: []), .br false]) (by kernel_rfl) (by intro e; cases e) (an (an (ti tt) (an (df h4574) tt)) (ti tt))
def Qcj (a0 : Zt) (y1 : List Ql) (x32 : Int) : VS := ⟨mkA [(1, VV.pt 0 0), (5, VV.rf 1 0 y1.length), (30, VV.tr (flatMap Qq a0.Steps) a0.Steps.length), (31, vi (a0.Steps.length : Int)), (32, vi x32)], [some ⟨true, 1, Xg a0⟩, some ⟨false, 3, flatMap Qh y1⟩], .nil⟩
def Qce (a0 : Zt) (r : (List Ql)) : VS := ⟨mkA [(1, VV.pt 0 0), (5, VV.rf 1 0 r.length)], [some ⟨true, 1, Xg a0⟩, some ⟨false, 3, flatMap Qh r⟩], .nil⟩
def Qai (k : Nat) (a0 : Zt) : Nat -> (List Ql) -> Int -> Option ((List Ql))
 | 0, _, _ => none
 | fuel + 1, y1, x32 => if x32 < (a0.Steps.length : Int) then (if 0 <= x32 /\ x32 < (a0.Steps.length : Int) then ((Qd1 k a0 x32).bind fun r4600 => (if y1.length + ([(⟨x32, w64 (x32 + 1), (a0.Steps.getD x32.toNat default).Most⟩ : Ql), (⟨w64 (x32 + 1), x32, w64 (0 - r4600)⟩ : Ql)] : List Ql).length <= 1000000000 then (Qai k a0 fuel (y1 ++ ([(⟨x32, w64 (x32 + 1), (a0.Steps.getD x32.toNat default).Most⟩ : Ql), (⟨w64 (x32 + 1), x32, w64 (0 - r4600)⟩ : Ql)] : List Ql)) (w64 (x32 + 1))) else none)) else none) else (some y1)
theorem Qgi (k : Nat) (a0 : Zt) : ∀ (fuel : Nat) (y1 : List Ql) (x32 : Int) (r : (List Ql)), Qai k a0 fuel y1 x32 = some r -> (Yw none Try.prog (szF Try.f28) (Ya Try.f28 1) (Qcj a0 y1 x32) (.exit 2) (Qce a0 r)) := by
 intro fuel
 induction fuel with
 | zero => intro y1 x32 r h; rw [Qai.eq_1] at h; cases h
 | succ fuel ih =>
  intro y1 x32 r h
  rw [Qai.eq_2] at h
  rcases ifs h with ⟨h4597, h⟩ | ⟨h4597, h⟩
  ·obtain ⟨h4598, h⟩ := ifn h
   have e4599 := (show Xt Try.prog 83 (x32.toNat * 3) (flatMap Qq a0.Steps) = some (VV.ag (Qq (a0.Steps.getD x32.toNat default))) from Yo ag83 Qq 3 sz83 Qed a0.Steps default h4598 (by omega))
   obtain ⟨r4600, h4601, h⟩ := bs h
   have e4602 := (Qhm k a0 x32 _ h4601)
   obtain ⟨h4603, h⟩ := ifn h
   have e4604 := (show List.length (flatMap Qh y1) = y1.length * 3 /\ List.length [vi x32, vi (w64 (x32 + 1)), vi ((a0.Steps.getD x32.toNat default).Most), vi (w64 (x32 + 1)), vi x32, vi (w64 (0 - r4600))] = 2 * 3 /\ (y1.length + 2) * 24 <= 140737488355328 /\ y1.length + 2 < 1099511627776 /\ List.all [vi x32, vi (w64 (x32 + 1)), vi ((a0.Steps.getD x32.toNat default).Most), vi (w64 (x32 + 1)), vi x32, vi (w64 (0 - r4600))] VV.still = true from ⟨(by rw [Qbm Wy] <;> simp), (by rw [show [vi x32, vi (w64 (x32 + 1)), vi ((a0.Steps.getD x32.toNat default).Most), vi (w64 (x32 + 1)), vi x32, vi (w64 (0 - r4600))] = flatMap Qh ([(⟨x32, w64 (x32 + 1), (a0.Steps.getD x32.toNat default).Most⟩ : Ql), (⟨w64 (x32 + 1), x32, w64 (0 - r4600)⟩ : Ql)] : List Ql) from rfl]; rw [Qbm Wy] <;> simp), (by first | omega | (simp at h4603 ⊢; omega)), (by first | omega | (simp at h4603 ⊢; omega)), (by rw [show [vi x32, vi (w64 (x32 + 1)), vi ((a0.Steps.getD x32.toNat default).Most), vi (w64 (x32 + 1)), vi x32, vi (w64 (0 - r4600))] = flatMap Qh ([(⟨x32, w64 (x32 + 1), (a0.Steps.getD x32.toNat default).Most⟩ : Ql), (⟨w64 (x32 + 1), x32, w64 (0 - r4600)⟩ : Ql)] : List Ql) from rfl]; exact Qee _)⟩)
   have e4605 := (ti (ti (ti (ti (ti (ti (ti (ti (ti (ti (ti (ti (an e4602 (ti (ti (ti (an e4604 (ti tt))))))))))))))))))
   have h2 := ih _ _ _ h
   obtain ⟨q, hv, hq⟩ := pkR (rd := none) (P := Try.prog) (fn := Try.f28) (k := 1) (s := (Qcj a0 y1 x32)) (ans := [.reg (.n :: []), .br true, .reg (.n :: .n :: .v (VV.ag (Qq (a0.Steps.getD x32.toNat default))) :: nN 3 []), .reg (nN 12 (.call (vi r4600) :: .n :: .n :: .v VV.any :: .n :: .n :: [])), .reg (.n :: .n :: [])]) (c := ⟨[(1, none), (5, some (VV.rf 1 0 ((y1 ++ ([(⟨x32, w64 (x32 + 1), (a0.Steps.getD x32.toNat default).Most⟩ : Ql), (⟨w64 (x32 + 1), x32, w64 (0 - r4600)⟩ : Ql)] : List Ql)).length))), (30, none), (31, none), (32, none)], [none, some (flatMap Qh (y1 ++ ([(⟨x32, w64 (x32 + 1), (a0.Steps.getD x32.toNat default).Most⟩ : Ql), (⟨w64 (x32 + 1), x32, w64 (0 - r4600)⟩ : Ql)] : List Ql)))], []⟩) (e := .normal) (s1 := (Qcj a0 (y1 ++ ([(⟨x32, w64 (x32 + 1), (a0.Steps.getD x32.toNat default).Most⟩ : Ql), (⟨w64 (x32 + 1), x32, w64 (0 - r4600)⟩ : Ql)] : List Ql)) (w64 (x32 + 1)))) (an (an (ti tt) (an (an (dt h4597) tt) (an (an (ti (an h4598 (an e4599 (ti (ti (ti tt)))))) e4605) (ti (ti tt))))) (an (an (show Wv (VV.rf 1 0 (y1.length + 2)) (VV.rf 1 0 ((y1 ++ ([(⟨x32, w64 (x32 + 1), (a0.Steps.getD x32.toNat default).Most⟩ : Ql), (⟨w64 (x32 + 1), x32, w64 (0 - r4600)⟩ : Ql)] : List Ql)).length)) from (Wv.of_eq (by simp))) tt) (an (show (flatMap Qh y1) ++ [vi x32, vi (w64 (x32 + 1)), vi ((a0.Steps.getD x32.toNat default).Most), vi (w64 (x32 + 1)), vi x32, vi (w64 (0 - r4600))] = flatMap Qh (y1 ++ ([(⟨x32, w64 (x32 + 1), (a0.Steps.getD x32.toNat default).Most⟩ : Ql), (⟨w64 (x32 + 1), x32, w64 (0 - r4600)⟩ : Ql)] : List Ql)) from (by rw [show [vi x32, vi (w64 (x32 + 1)), vi ((a0.Steps.getD x32.toNat default).Most), vi (w64 (x32 + 1)), vi x32, vi (w64 (0 - r4600))] = flatMap Qh ([(⟨x32, w64 (x32 + 1), (a0.Steps.getD x32.toNat default).Most⟩ : Ql), (⟨w64 (x32 + 1), x32, w64 (0 - r4600)⟩ : Ql)] : List Ql) from rfl]; exact List.flatMap_append.symm)) tt))) (by kernel_rfl)
   exact Qz pm pn hv hq h2
  ·injection h with h; subst h
   exact Q5 (c := ⟨[(1, none), (5, none)], [none, none], []⟩) (s1 := (Qce a0 y1)) pm pn (ans := [.reg (.n :: []), .br false]) (by kernel_rfl) (by intro e; cases e) (an (an (ti tt) (an (df h4597) tt)) (ti tt))
def Qck (a0 : Zt) (y1 : List Ql) (x58 : Int) : VS := ⟨mkA [(5, VV.rf 1 0 y1.length), (56, VV.tr (flatMap Qn a0.Windows) a0.Windows.length), (57, vi (a0.Windows.length : Int)), (58, vi x58)], [some ⟨true, 1, Xg a0⟩, some ⟨false, 3, flatMap Qh y1⟩], .nil⟩
def Qcf (a0 : Zt) (r : (List Ql)) : VS := ⟨mkA [(5, VV.rf 1 0 r.length)], [some ⟨true, 1, Xg a0⟩, some ⟨false, 3, flatMap Qh r⟩], .nil⟩
def Qaj (k : Nat) (a0 : Zt) : Nat -> (List Ql) -> Int -> Option ((List Ql))
 | 0, _, _ => none
 | fuel + 1, y1, x58 => if x58 < (a0.Windows.length : Int) then (if 0 <= x58 /\ x58 < (a0.Windows.length : Int) then (if y1.length + ([(⟨(-1), (a0.Windows.getD x58.toNat default).Level, (a0.Windows.getD x58.toNat default).To⟩ : Ql), (⟨(a0.Windows.getD x58.toNat default).Level, (-1), w64 (0 - ((a0.Windows.getD x58.toNat default).From))⟩ : Ql)] : List Ql).length <= 1000000000 then (Qaj k a0 fuel (y1 ++ ([(⟨(-1), (a0.Windows.getD x58.toNat default).Level, (a0.Windows.getD x58.toNat default).To⟩ : Ql), (⟨(a0.Windows.getD x58.toNat default).Level, (-1), w64 (0 - ((a0.Windows.getD x58.toNat default).From))⟩ : Ql)] : List Ql)) (w64 (x58 + 1))) else none) else none) else (some y1)
theorem Qgj (k : Nat) (a0 : Zt) : ∀ (fuel : Nat) (y1 : List Ql) (x58 : Int) (r : (List Ql)), Qaj k a0 fuel y1 x58 = some r -> (Yw none Try.prog (szF Try.f28) (Ya Try.f28 2) (Qck a0 y1 x58) (.exit 4) (Qcf a0 r)) := by
 intro fuel
 induction fuel with
 | zero => intro y1 x58 r h; rw [Qaj.eq_1] at h; cases h
 | succ fuel ih =>
  intro y1 x58 r h
  rw [Qaj.eq_2] at h
  rcases ifs h with ⟨h4621, h⟩ | ⟨h4621, h⟩
  ·obtain ⟨h4622, h⟩ := ifn h
   have e4623 := (show Xt Try.prog 106 (x58.toNat * 3) (flatMap Qn a0.Windows) = some (VV.ag (Qn (a0.Windows.getD x58.toNat default))) from Yo Qz9 Qn 3 Q0a Qgy a0.Windows default h4622 (by omega))
   obtain ⟨h4624, h⟩ := ifn h
   have e4625 := (show List.length (flatMap Qh y1) = y1.length * 3 /\ List.length [vi (-1), vi ((a0.Windows.getD x58.toNat default).Level), vi ((a0.Windows.getD x58.toNat default).To), vi ((a0.Windows.getD x58.toNat default).Level), vi (-1), vi (w64 (0 - ((a0.Windows.getD x58.toNat default).From)))] = 2 * 3 /\ (y1.length + 2) * 24 <= 140737488355328 /\ y1.length + 2 < 1099511627776 /\ List.all [vi (-1), vi ((a0.Windows.getD x58.toNat default).Level), vi ((a0.Windows.getD x58.toNat default).To), vi ((a0.Windows.getD x58.toNat default).Level), vi (-1), vi (w64 (0 - ((a0.Windows.getD x58.toNat default).From)))] VV.still = true from ⟨(by rw [Qbm Wy] <;> simp), (by rw [show [vi (-1), vi ((a0.Windows.getD x58.toNat default).Level), vi ((a0.Windows.getD x58.toNat default).To), vi ((a0.Windows.getD x58.toNat default).Level), vi (-1), vi (w64 (0 - ((a0.Windows.getD x58.toNat default).From)))] = flatMap Qh ([(⟨(-1), (a0.Windows.getD x58.toNat default).Level, (a0.Windows.getD x58.toNat default).To⟩ : Ql), (⟨(a0.Windows.getD x58.toNat default).Level, (-1), w64 (0 - ((a0.Windows.getD x58.toNat default).From))⟩ : Ql)] : List Ql) from rfl]; rw [Qbm Wy] <;> simp), (by first | omega | (simp at h4624 ⊢; omega)), (by first | omega | (simp at h4624 ⊢; omega)), (by rw [show [vi (-1), vi ((a0.Windows.getD x58.toNat default).Level), vi ((a0.Windows.getD x58.toNat default).To), vi ((a0.Windows.getD x58.toNat default).Level), vi (-1), vi (w64 (0 - ((a0.Windows.getD x58.toNat default).From)))] = flatMap Qh ([(⟨(-1), (a0.Windows.getD x58.toNat default).Level, (a0.Windows.getD x58.toNat default).To⟩ : Ql), (⟨(a0.Windows.getD x58.toNat default).Level, (-1), w64 (0 - ((a0.Windows.getD x58.toNat default).From))⟩ : Ql)] : List Ql) from rfl]; exact Qee _)⟩)
   have e4626 := (ti (ti (ti (ti (ti (ti (ti (ti (ti (ti (ti (ti (ti (an e4625 (ti tt)))))))))))))))
   have h2 := ih _ _ _ h
   obtain ⟨q, hv, hq⟩ := pkR (rd := none) (P := Try.prog) (fn := Try.f28) (k := 2) (s := (Qck a0 y1 x58)) (ans := [.reg (.n :: []), .br true, .reg (.n :: .v (VV.ag (Qn (a0.Windows.getD x58.toNat default))) :: .n :: .n :: []), .reg (nN 15 []), .reg (.n :: .n :: [])]) (c := ⟨[(5, some (VV.rf 1 0 ((y1 ++ ([(⟨(-1), (a0.Windows.getD x58.toNat default).Level, (a0.Windows.getD x58.toNat default).To⟩ : Ql), (⟨(a0.Windows.getD x58.toNat default).Level, (-1), w64 (0 - ((a0.Windows.getD x58.toNat default).From))⟩ : Ql)] : List Ql)).length))), (56, none), (57, none), (58, none)], [none, some (flatMap Qh (y1 ++ ([(⟨(-1), (a0.Windows.getD x58.toNat default).Level, (a0.Windows.getD x58.toNat default).To⟩ : Ql), (⟨(a0.Windows.getD x58.toNat default).Level, (-1), w64 (0 - ((a0.Windows.getD x58.toNat default).From))⟩ : Ql)] : List Ql)))], []⟩) (e := .normal) (s1 := (Qck a0 (y1 ++ ([(⟨(-1), (a0.Windows.getD x58.toNat default).Level, (a0.Windows.getD x58.toNat default).To⟩ : Ql), (⟨(a0.Windows.getD x58.toNat default).Level, (-1), w64 (0 - ((a0.Windows.getD x58.toNat default).From))⟩ : Ql)] : List Ql)) (w64 (x58 + 1)))) (an (an (ti tt) (an (an (dt h4621) tt) (an (an (an h4622 (an e4623 (ti (ti tt)))) e4626) (ti (ti tt))))) (an (an (show Wv (VV.rf 1 0 (y1.length + 2)) (VV.rf 1 0 ((y1 ++ ([(⟨(-1), (a0.Windows.getD x58.toNat default).Level, (a0.Windows.getD x58.toNat default).To⟩ : Ql), (⟨(a0.Windows.getD x58.toNat default).Level, (-1), w64 (0 - ((a0.Windows.getD x58.toNat default).From))⟩ : Ql)] : List Ql)).length)) from (Wv.of_eq (by simp))) tt) (an (show (flatMap Qh y1) ++ [vi (-1), vi ((a0.Windows.getD x58.toNat default).Level), vi ((a0.Windows.getD x58.toNat default).To), vi ((a0.Windows.getD x58.toNat default).Level), vi (-1), vi (w64 (0 - ((a0.Windows.getD x58.toNat default).From)))] = flatMap Qh (y1 ++ ([(⟨(-1), (a0.Windows.getD x58.toNat default).Level, (a0.Windows.getD x58.toNat default).To⟩ : Ql), (⟨(a0.Windows.getD x58.toNat default).Level, (-1), w64 (0 - ((a0.Windows.getD x58.toNat default).From))⟩ : Ql)] : List Ql)) from (by rw [show [vi (-1), vi ((a0.Windows.getD x58.toNat default).Level), vi ((a0.Windows.getD x58.toNat default).To), vi ((a0.Windows.getD x58.toNat default).Level), vi (-1), vi (w64 (0 - ((a0.Windows.getD x58.toNat default).From)))] = flatMap Qh ([(⟨(-1), (a0.Windows.getD x58.toNat default).Level, (a0.Windows.getD x58.toNat default).To⟩ : Ql), (⟨(a0.Windows.getD x58.toNat default).Level, (-1), w64 (0 - ((a0.Windows.getD x58.toNat default).From))⟩ : Ql)] : List Ql) from rfl]; exact List.flatMap_append.symm)) tt))) (by kernel_rfl)
   exact Qz pm pn hv hq h2
  ·injection h with h; subst h
   exact Q5 (c := ⟨[(5, none)], [none, none], []⟩) (s1 := (Qcf a0 y1)) pm pn (ans := [.reg (.n :: []), .br false]) (by kernel_rfl) (by intro e; cases e) (an (an (ti tt) (an (df h4621) tt)) (ti tt))
theorem Q0j (z0 : (List Ql)) : VV.tu [VV.fw 3 (List.drop 0 (List.map unfr (flatMap Qh z0))) z0.length, vi 0] = VV.tu [VV.fw 3 (flatMap Qh z0) z0.length, vi 0] := by first | rfl | (simp only [Qa7, Zi, map_cons, map_nil, un_i, length_map, length_cons, length_nil, Qbi]; done) | (simp only [Qa7, Zi, map_cons, map_nil, un_i, length_map, length_cons, length_nil, Qbi]; rfl) | (simp only [Qa7, Zi, map_cons, map_nil, un_i, length_map, length_cons, length_nil, Qbi, Qh, length_cons, length_nil, length_append]; done)
def Qeu (k : Nat) (a0 : Zt) : Option ((List Ql) × Int) :=
 (Qdm k a0).bind fun r4561 => (if r4561 = 0 then ((Qah k a0 k ([] : List Ql) 0).bind fun r4578 => ((Qai k a0 k r4578 0).bind fun r4607 => ((Qaj k a0 k r4607 0).bind fun r4628 => (some (r4628, 0))))) else (some ([], r4561)))
theorem Qij (k : Nat) (a0 : Zt) (r : ((List Ql) × Int)) (h : Qeu k a0 = some r) : VC Try.prog 28 [VV.ag (Xg a0)] (VV.tu [VV.fw 3 (flatMap Qh r.1) r.1.length, vi r.2]) := by
 unfold Qeu at h
 obtain ⟨r4561, h4562, h⟩ := bs h
 have e4563 := (ti (an (Qg1 k a0 _ h4562) (ti tt)))
 rcases ifs h with ⟨h4564, h⟩ | ⟨h4564, h⟩
 ·obtain ⟨r4578, h4577, h⟩ := bs h
  have hph4577 := Qgh k a0 _ _ _ _ h4577
  have e4579 := (an (ti tt) (VRun.loop hph4577))
  obtain ⟨r4607, h4606, h⟩ := bs h
  have hph4606 := Qgi k a0 _ _ _ _ h4606
  have e4608 := (an (ti tt) (VRun.loop hph4606))
  obtain ⟨r4628, h4627, h⟩ := bs h
  have hph4627 := Qgj k a0 _ _ _ _ h4627
  have e4629 := (an (ti tt) (VRun.loop hph4627))
  injection h with h; subst h
  exact Qw pm pn Try.func28 (r0 := VV.tu [VV.fw 3 (List.drop 0 (List.map unfr (flatMap Qh r4628))) r4628.length, vi 0]) (ans := [.reg (nN 3 []), .reg (.n :: .call (vi r4561) :: .n :: []), .reg (.n :: .n :: []), .br false, .reg (.n :: []), .reg (nN 5 []), .sub ⟨[(1, none), (5, none), (19, none), (20, none)], [none], [.t 5 3]⟩ (.exit 0) (Qcd a0 r4578), .reg (nN 4 []), .sub ⟨[(1, none), (5, none), (30, none), (31, none), (32, none)], [none, none], []⟩ (.exit 2) (Qce a0 r4607), .reg (nN 4 []), .sub ⟨[(5, none), (56, none), (57, none), (58, none)], [none, none], []⟩ (.exit 4) (Qcf a0 r4628), .reg (nN 3 [])]) (fr := true) (by kernel_rfl) (an (an (ti (ti (ti tt))) (an (an e4563 (an (ti (ti tt)) (an (Qm (dt h4564)) tt))) (an (ti tt) (an (an (ti (ti (ti (ti (ti tt))))) e4579) (an (an (ti (ti (ti (ti tt)))) e4608) (an (an (ti (ti (ti (ti tt)))) e4629) (an (ti (ti (ti tt))) tt))))))) (an (show List.all (flatMap Qh r4628) new0 = true from (by exact Qka _)) (ti tt))) (Wv.of_eq (Q0j r4628))
 ·injection h with h; subst h
  exact Qw pm pn Try.func28 (r0 := VV.tu [VV.c (.slice none 0 0), vi r4561]) (ans := [.reg (nN 3 []), .reg (.n :: .call (vi r4561) :: .n :: []), .reg (.n :: .n :: []), .br true, .reg (nN 3 [])]) (fr := true) (by kernel_rfl) (an (an (ti (ti (ti tt))) (an e4563 (an (ti (ti tt)) (an (Za (df h4564)) (an (ti (ti (ti tt))) tt))))) (ti (ti tt))) (Wv.tuL (.cons Wv.Qp4 (.cons (Wv.refl _) .nil)))
def Qxd (z0 : List Int) (z1 : ((List Ql) × Int)) (z2 : Int) : List Ans := (nN 6 (.v (vi (z0.getD (w64 (((z1.1.getD z2.toNat default).To) + 1)).toNat 0)) :: nN 4 []))
def Qxe (z0 : List Int) (z1 : ((List Ql) × Int)) (z2 : Int) : List Ans := (nN 6 (.v (vi (z0.getD (w64 (((z1.1.getD z2.toNat default).From) + 1)).toNat 0)) :: .n :: .n :: []))
def Qyd (z0 : Qaf) (z1 : Int) : List Ans := (nN 7 (.v (vi (z0.because.getD (w64 (z1 + 1)).toNat 0)) :: .n :: .n :: .v (vi ((z0.bounds.getD (z0.because.getD (w64 (z1 + 1)).toNat 0).toNat default).To)) :: .n :: []))
def Wj (k : Nat) (a0 : Qaf) (a1 : Int) : Option Int :=
 if 0 <= w64 (a1 + 1) /\ w64 (a1 + 1) < (a0.because.length : Int) then (if 0 <= (a0.because.getD (w64 (a1 + 1)).toNat 0) /\ (a0.because.getD (w64 (a1 + 1)).toNat 0) < (a0.bounds.length : Int) then (some ((a0.bounds.getD (a0.because.getD (w64 (a1 + 1)).toNat 0).toNat default).To)) else none) else none
theorem Qbz (k : Nat) (a0 : Qaf) (a1 : Int) (r : Int) (h : Wj k a0 a1 = some r) : VC Try.prog 52 [VV.ag (Qcc a0), vi a1] (vi r) := by
 unfold Wj at h
 obtain ⟨h4830, h⟩ := ifn h
 have e4831 := (show Xt Try.prog 3 ((w64 (a1 + 1)).toNat * 1) (List.map vi a0.because) = some (vi (a0.because.getD (w64 (a1 + 1)).toNat 0)) from Qkl ag3 vi a0.because 0 h4830 (by omega))
 obtain ⟨h4832, h⟩ := ifn h
 have e4833 := (show Xt Try.prog 3 ((a0.because.getD (w64 (a1 + 1)).toNat 0).toNat * 3 + 1) (flatMap Qh a0.bounds) = some (vi ((a0.bounds.getD (a0.because.getD (w64 (a1 + 1)).toNat 0).toNat default).To)) from (Qhb ag3 Qh 3 1 Wy (by omega) a0.bounds default h4832 (by omega)).trans rfl)
 have e4834 := (ti (ti (ti (ti (ti (ti (an h4830 (an e4831 (an h4832 (ti (an e4833 (ti tt))))))))))))
 injection h with h; subst h
 exact Qw pm pn Try.func52 (r0 := vi ((a0.bounds.getD (a0.because.getD (w64 (a1 + 1)).toNat 0).toNat default).To)) (ans := [.reg (.n :: .n :: []), .reg (Qyd a0 a1)]) (fr := true) (by kernel_rfl) (an (an (ti (ti tt)) (an e4834 tt)) (ti tt)) (Wv.refl _)
def Qat (a0 : Qaf) (x1 : Int) (x10 : Int) : VS := ⟨mkA [(1, vi x1), (2, VV.pt 0 0), (9, vi (a0.times.length : Int)), (10, vi x10)], [some ⟨true, 1, Qcc a0⟩], .nil⟩
def Qal (a0 : Qaf) (r : Int) : VS := ⟨mkA [(1, vi r), (2, VV.pt 0 0)], [some ⟨true, 1, Qcc a0⟩], .nil⟩
def Yf (k : Nat) (a0 : Qaf) : Nat -> Int -> Int -> Option (Int)
 | 0, _, _ => none
 | fuel + 1, x1, x10 => if x10 < (a0.times.length : Int) then ((Wj k a0 x1).bind fun r4894 => (Yf k a0 fuel r4894 (w64 (x10 + 1)))) else (some x1)
theorem Qev (k : Nat) (a0 : Qaf) : ∀ (fuel : Nat) (x1 : Int) (x10 : Int) (r : Int), Yf k a0 fuel x1 x10 = some r -> (Yw none Try.prog (szF Try.f31) (Ya Try.f31 0) (Qat a0 x1 x10) (.exit 0) (Qal a0 r)) := by
 intro fuel
 induction fuel with
 | zero => intro x1 x10 r h; rw [Yf.eq_1] at h; cases h
 | succ fuel ih =>
  intro x1 x10 r h
  rw [Yf.eq_2] at h
  rcases ifs h with ⟨h4893, h⟩ | ⟨h4893, h⟩
  ·obtain ⟨r4894, h4895, h⟩ := bs h
   have e4896 := (Qbz k a0 x1 _ h4895)
   have h2 := ih _ _ _ h
   obtain ⟨q, hv, hq⟩ := pkR (rd := none) (P := Try.prog) (fn := Try.f31) (k := 0) (s := (Qat a0 x1 x10)) (ans := [.reg (.n :: []), .br true, .reg (.n :: .n :: .call (vi r4894) :: .n :: []), .reg (.n :: .n :: [])]) (c := ⟨[(1, none), (2, none), (9, none), (10, none)], [none], []⟩) (e := .normal) (s1 := (Qat a0 r4894 (w64 (x10 + 1)))) (an (an (ti tt) (an (an (dt h4893) tt) (an (ti (ti (an e4896 (ti tt)))) (ti (ti tt))))) (ti tt)) (by kernel_rfl)
   exact Qz pm pn hv hq h2
  ·injection h with h; subst h
   exact Q5 (c := ⟨[(1, none), (2, none)], [none], []⟩) (s1 := (Qal a0 x1)) pm pn (ans := [.reg (.n :: []), .br false]) (by kernel_rfl) (by intro e; cases e) (an (an (ti tt) (an (df h4893) tt)) (ti tt))
def Qau (a0 : Qaf) (r4898 : Int) (y1 : List Int) (x6 : Int) : VS := ⟨mkA [(1, vi r4898), (2, VV.pt 0 0), (5, VV.rf 1 0 y1.length), (6, vi x6)], [some ⟨true, 1, Qcc a0⟩, some ⟨false, 1, List.map vi y1⟩], .nil⟩
def Qam (a0 : Qaf) (r4898 : Int) (r : (List Int)) : VS := ⟨mkA [(5, VV.rf 1 0 r.length)], [some ⟨true, 1, Qcc a0⟩, some ⟨false, 1, List.map vi r⟩], .nil⟩
def Yg (k : Nat) (a0 : Qaf) (r4898 : Int) : Nat -> (List Int) -> Int -> Option ((List Int))
 | 0, _, _ => none
 | fuel + 1, y1, x6 => if x6 = r4898 then (some y1) else (if 0 <= w64 (x6 + 1) /\ w64 (x6 + 1) < (a0.because.length : Int) then (if y1.length + ([(a0.because.getD (w64 (x6 + 1)).toNat 0)] : List Int).length <= 1000000000 then ((Wj k a0 x6).bind fun r4930 => (Yg k a0 r4898 fuel (y1 ++ ([(a0.because.getD (w64 (x6 + 1)).toNat 0)] : List Int)) r4930)) else none) else none)
theorem Qew (k : Nat) (a0 : Qaf) (r4898 : Int) : ∀ (fuel : Nat) (y1 : List Int) (x6 : Int) (r : (List Int)), Yg k a0 r4898 fuel y1 x6 = some r -> (Yw none Try.prog (szF Try.f31) (Ya Try.f31 1) (Qau a0 r4898 y1 x6) (.exit 2) (Qam a0 r4898 r)) := by
 intro fuel
 induction fuel with
 | zero => intro y1 x6 r h; rw [Yg.eq_1] at h; cases h
 | succ fuel ih =>
  intro y1 x6 r h
  rw [Yg.eq_2] at h
  rcases ifs h with ⟨h4924, h⟩ | ⟨h4924, h⟩
  ·injection h with h; subst h
   exact Q5 (c := ⟨[(5, none)], [none, none], []⟩) (s1 := (Qam a0 r4898 y1)) pm pn (ans := [.reg (nN 3 []), .br false]) (by kernel_rfl) (by intro e; cases e) (an (an (ti (ti (ti tt))) (an (Qm (dt h4924)) tt)) (ti tt))
  ·obtain ⟨h4925, h⟩ := ifn h
   have e4926 := (show Xt Try.prog 3 ((w64 (x6 + 1)).toNat * 1) (List.map vi a0.because) = some (vi (a0.because.getD (w64 (x6 + 1)).toNat 0)) from Qkl ag3 vi a0.because 0 h4925 (by omega))
   obtain ⟨h4927, h⟩ := ifn h
   have e4928 := (show List.length (List.map vi y1) = y1.length * 1 /\ List.length [vi (a0.because.getD (w64 (x6 + 1)).toNat 0)] = 1 * 1 /\ (y1.length + 1) * 8 <= 140737488355328 /\ y1.length + 1 < 1099511627776 /\ List.all [vi (a0.because.getD (w64 (x6 + 1)).toNat 0)] VV.still = true from ⟨(by simp), (by rw [show [vi (a0.because.getD (w64 (x6 + 1)).toNat 0)] = List.map vi ([(a0.because.getD (w64 (x6 + 1)).toNat 0)] : List Int) from rfl]; simp), (by first | omega | (simp at h4927 ⊢; omega)), (by first | omega | (simp at h4927 ⊢; omega)), (by rw [show [vi (a0.because.getD (w64 (x6 + 1)).toNat 0)] = List.map vi ([(a0.because.getD (w64 (x6 + 1)).toNat 0)] : List Int) from rfl]; exact Qwb _)⟩)
   have e4929 := (ti (ti (ti (ti (ti (an h4925 (an e4926 (ti (an e4928 (ti tt))))))))))
   obtain ⟨r4930, h4931, h⟩ := bs h
   have e4932 := (Qbz k a0 x6 _ h4931)
   have h2 := ih _ _ _ h
   obtain ⟨q, hv, hq⟩ := pkR (rd := none) (P := Try.prog) (fn := Try.f31) (k := 1) (s := (Qau a0 r4898 y1 x6)) (ans := [.reg (nN 3 []), .br true, .reg (nN 6 (.v (vi (a0.because.getD (w64 (x6 + 1)).toNat 0)) :: nN 3 [])), .reg (.n :: .n :: .call (vi r4930) :: .n :: [])]) (c := ⟨[(1, none), (2, none), (5, some (VV.rf 1 0 ((y1 ++ ([(a0.because.getD (w64 (x6 + 1)).toNat 0)] : List Int)).length))), (6, none)], [none, some (List.map vi (y1 ++ ([(a0.because.getD (w64 (x6 + 1)).toNat 0)] : List Int)))], []⟩) (e := .normal) (s1 := (Qau a0 r4898 (y1 ++ ([(a0.because.getD (w64 (x6 + 1)).toNat 0)] : List Int)) r4930)) (an (an (an (ti (ti (ti tt))) (an (Za (df h4924)) tt)) (an e4929 (ti (ti (an e4932 (ti tt)))))) (an (an (show Wv (VV.rf 1 0 (y1.length + 1)) (VV.rf 1 0 ((y1 ++ ([(a0.because.getD (w64 (x6 + 1)).toNat 0)] : List Int)).length)) from (Wv.of_eq (by simp))) tt) (an (show (List.map vi y1) ++ [vi (a0.because.getD (w64 (x6 + 1)).toNat 0)] = List.map vi (y1 ++ ([(a0.because.getD (w64 (x6 + 1)).toNat 0)] : List Int)) from (by rw [show [vi (a0.because.getD (w64 (x6 + 1)).toNat 0)] = List.map vi ([(a0.because.getD (w64 (x6 + 1)).toNat 0)] : List Int) from rfl]; exact List.map_append.symm)) tt))) (by kernel_rfl)
   exact Qz pm pn hv hq h2
theorem Q0k (z0 : (List Int)) : VV.fw 1 (List.drop 0 (List.map unfr (List.map vi z0))) z0.length = VV.fw 1 (List.map vi z0) z0.length := by first | rfl | (simp only [Nat.zero_add, Nat.mul_one, List.map_drop, List.length_drop, Qa7, Zi, map_cons, map_nil, un_i, length_map, Nat.zero_add]; done) | (simp only [Nat.zero_add, Nat.mul_one, List.map_drop, List.length_drop, Qa7, Zi, map_cons, map_nil, un_i, length_map, Nat.zero_add]; rfl) | (simp only [Nat.zero_add, Nat.mul_one, List.map_drop, List.length_drop, Qa7, Zi, map_cons, map_nil, un_i, length_map, Nat.zero_add, length_cons, length_nil, length_append]; done)
def Qcx (k : Nat) (a0 : Qaf) (a1 : Int) : Option (List Int) :=
 (Yf k a0 k a1 0).bind fun r4898 => (if 0 <= w64 (r4898 + 1) /\ w64 (r4898 + 1) < (a0.because.length : Int) then ((Wj k a0 r4898).bind fun r4903 => ((Yg k a0 r4898 k ([(a0.because.getD (w64 (r4898 + 1)).toNat 0)] : List Int) r4903).bind fun r4934 => (some r4934))) else none)
theorem Qf3 (k : Nat) (a0 : Qaf) (a1 : Int) (r : (List Int)) (h : Qcx k a0 a1 = some r) : VC Try.prog 31 [VV.ag (Qcc a0), vi a1] (VV.fw 1 (List.map vi r) r.length) := by
 unfold Qcx at h
 obtain ⟨r4898, h4897, h⟩ := bs h
 have hph4897 := Qev k a0 _ _ _ _ h4897
 have e4899 := (an (ti tt) (VRun.loop hph4897))
 obtain ⟨h4900, h⟩ := ifn h
 have e4901 := (show Xt Try.prog 3 ((w64 (r4898 + 1)).toNat * 1) (List.map vi a0.because) = some (vi (a0.because.getD (w64 (r4898 + 1)).toNat 0)) from Qkl ag3 vi a0.because 0 h4900 (by omega))
 have e4902 := (ti (ti (ti (ti (an h4900 (an e4901 (ti (ti tt))))))))
 obtain ⟨r4903, h4904, h⟩ := bs h
 have e4905 := (Qbz k a0 r4898 _ h4904)
 obtain ⟨r4934, h4933, h⟩ := bs h
 have hph4933 := Qew k a0 r4898 _ _ _ _ h4933
 have e4935 := (an (an (an (show Wv (VV.rf 1 0 1) (VV.rf 1 0 (([(a0.because.getD (w64 (r4898 + 1)).toNat 0)] : List Int).length)) from (Wv.of_eq (by simp))) tt) (an (show [vi (a0.because.getD (w64 (r4898 + 1)).toNat 0)] = List.map vi ([(a0.because.getD (w64 (r4898 + 1)).toNat 0)] : List Int) from rfl) tt)) (VRun.loop hph4933))
 injection h with h; subst h
 exact Qw pm pn Try.func31 (r0 := VV.fw 1 (List.drop 0 (List.map unfr (List.map vi r4934))) r4934.length) (ans := [.reg (.n :: .n :: []), .reg (nN 4 []), .sub ⟨[(1, none), (2, none), (9, none), (10, none)], [none], []⟩ (.exit 0) (Qal a0 r4898), .reg (nN 5 (.v (vi (a0.because.getD (w64 (r4898 + 1)).toNat 0)) :: .n :: .n :: [])), .reg (.n :: .n :: .call (vi r4903) :: .n :: []), .sub ⟨[(1, none), (2, none), (5, some (VV.rf 1 0 (([(a0.because.getD (w64 (r4898 + 1)).toNat 0)] : List Int).length))), (6, none)], [none, some (List.map vi ([(a0.because.getD (w64 (r4898 + 1)).toNat 0)] : List Int))], []⟩ (.exit 2) (Qam a0 r4898 r4934), .reg (.n :: .n :: [])]) (fr := true) (by kernel_rfl) (an (an (ti (ti tt)) (an (an (ti (ti (ti (ti tt)))) e4899) (an e4902 (an (an (ti (ti (an e4905 (ti tt)))) e4935) (an (ti (ti tt)) tt))))) (an (show List.all (List.map vi r4934) new0 = true from (by exact Qns _)) tt)) (Wv.of_eq (Q0k r4934))
theorem Q0l (z0 : ((List Ql) × Int)) (z1 : Int × (List Int) × (List Int)) : [VV.ag (Qcc (⟨z0.1, z1.2.1, z1.2.2⟩ : Qaf)), vi z1.1] = [VV.ag [VV.tr (flatMap Qh z0.1) z0.1.length, VV.tr (List.drop 0 (List.map unfr (List.map vi z1.2.1))) z1.2.1.length, VV.tr (List.drop 0 (List.map unfr (List.map vi z1.2.2))) z1.2.2.length], vi z1.1] := by first | rfl | (simp only [Nat.zero_add, Nat.mul_one, List.map_drop, List.length_drop, Qa7, Zi, map_cons, map_nil, un_i, Qae, length_map, length_cons, length_nil, Nat.zero_add, Qbi, Qe7]; done) | (simp only [Nat.zero_add, Nat.mul_one, List.map_drop, List.length_drop, Qa7, Zi, map_cons, map_nil, un_i, Qae, length_map, length_cons, length_nil, Nat.zero_add, Qbi, Qe7]; rfl) | (simp only [Nat.zero_add, Nat.mul_one, List.map_drop, List.length_drop, Qa7, Zi, map_cons, map_nil, un_i, Qae, length_map, length_cons, length_nil, Nat.zero_add, Qbi, Qe7, Qcc, Qh, length_cons, length_nil, length_append]; done)
def Qb0 (a0 : Zt) (r4939 : ((List Ql) × Int)) (y3 : List Int) (x16 : Int) : VS := ⟨mkA [(4, VV.pt 1 0), (5, VV.pt 4 0), (15, vi (w64 ((a0.Steps.length : Int) + 1))), (16, vi x16)], [some ⟨true, 1, Xg a0⟩, some ⟨true, 1, [VV.c (.slice none 0 0), VV.c (.slice none 0 0), VV.c (.slice none 0 0)]⟩, some ⟨false, 1, List.replicate (w64 ((w64 ((a0.Steps.length : Int) + 1)) + 1)).toNat (VV.c (.int .i64 0))⟩, some ⟨false, 1, List.map vi y3⟩, some ⟨true, 1, [VV.fr (flatMap Qh r4939.1) r4939.1.length, VV.rf 2 0 ((w64 ((w64 ((a0.Steps.length : Int) + 1)) + 1)).toNat), VV.rf 3 0 y3.length]⟩], (.node none (mkA [(0, VV.ag (Xg a0)), (1, VV.pt 0 0), (2, VV.c (.slice none 0 0)), (3, VV.c (.slice none 0 0)), (4, vi 0), (5, VV.fr (flatMap Qh r4939.1) r4939.1.length), (6, vi r4939.2), (10, VV.tu [VV.fr (flatMap Qh r4939.1) r4939.1.length, vi r4939.2]), (11, VV.ag (Xg a0)), (12, VV.tu [VV.fr (flatMap Qh r4939.1) r4939.1.length, vi r4939.2]), (13, VV.fr (flatMap Qh r4939.1) r4939.1.length), (14, vi r4939.2), (15, vi r4939.2), (16, vb (!(decide (r4939.2 = 0)))), (18, VV.fr (flatMap Qh r4939.1) r4939.1.length), (19, VV.pt 0 2), (20, VV.tr (flatMap Qq a0.Steps) a0.Steps.length), (21, vi (a0.Steps.length : Int)), (22, vi (w64 ((a0.Steps.length : Int) + 1)))]) .nil)⟩
def Wl (a0 : Zt) (r4939 : ((List Ql) × Int)) (r : (List Int)) : VS := ⟨mkA [(4, VV.pt 1 0), (5, VV.pt 4 0)], [some ⟨true, 1, Xg a0⟩, some ⟨true, 1, [VV.c (.slice none 0 0), VV.c (.slice none 0 0), VV.c (.slice none 0 0)]⟩, some ⟨false, 1, List.replicate (w64 ((w64 ((a0.Steps.length : Int) + 1)) + 1)).toNat (VV.c (.int .i64 0))⟩, some ⟨false, 1, List.map vi r⟩, some ⟨true, 1, [VV.fr (flatMap Qh r4939.1) r4939.1.length, VV.rf 2 0 ((w64 ((w64 ((a0.Steps.length : Int) + 1)) + 1)).toNat), VV.rf 3 0 r.length]⟩], (.node none (mkA [(0, VV.ag (Xg a0)), (1, VV.pt 0 0), (2, VV.c (.slice none 0 0)), (3, VV.c (.slice none 0 0)), (4, vi 0), (5, VV.fr (flatMap Qh r4939.1) r4939.1.length), (6, vi r4939.2), (10, VV.tu [VV.fr (flatMap Qh r4939.1) r4939.1.length, vi r4939.2]), (11, VV.ag (Xg a0)), (12, VV.tu [VV.fr (flatMap Qh r4939.1) r4939.1.length, vi r4939.2]), (13, VV.fr (flatMap Qh r4939.1) r4939.1.length), (14, vi r4939.2), (15, vi r4939.2), (16, vb (!(decide (r4939.2 = 0)))), (18, VV.fr (flatMap Qh r4939.1) r4939.1.length), (19, VV.pt 0 2), (20, VV.tr (flatMap Qq a0.Steps) a0.Steps.length), (21, vi (a0.Steps.length : Int)), (22, vi (w64 ((a0.Steps.length : Int) + 1)))]) .nil)⟩
def Y5 (k : Nat) (a0 : Zt) (r4939 : ((List Ql) × Int)) : Nat -> (List Int) -> Int -> Option ((List Int))
 | 0, _, _ => none
 | fuel + 1, y3, x16 => if x16 < (w64 ((a0.Steps.length : Int) + 1)) then (if 0 <= w64 (x16 + 1) /\ w64 (x16 + 1) < (y3.length : Int) then (Y5 k a0 r4939 fuel (y3.set (w64 (x16 + 1)).toNat x16) (w64 (x16 + 1))) else none) else (some y3)
theorem Qft (k : Nat) (a0 : Zt) (r4939 : ((List Ql) × Int)) : ∀ (fuel : Nat) (y3 : List Int) (x16 : Int) (r : (List Int)), Y5 k a0 r4939 fuel y3 x16 = some r -> (Yw none Try.prog (szF Try.f29) (Ya Try.f29 0) (Qb0 a0 r4939 y3 x16) (.exit 0) (Wl a0 r4939 r)) := by
 intro fuel
 induction fuel with
 | zero => intro y3 x16 r h; rw [Y5.eq_1] at h; cases h
 | succ fuel ih =>
  intro y3 x16 r h
  rw [Y5.eq_2] at h
  rcases ifs h with ⟨h4957, h⟩ | ⟨h4957, h⟩
  ·obtain ⟨h4958, h⟩ := ifn h
   have e4959 := (show (0 + (w64 (x16 + 1)).toNat * 1) + 1 <= List.length (List.map vi y3) from (by simp only [length_map]; omega))
   have e4960 := (ti (ti (ti (ti (ti (an h4958 (an e4959 tt)))))))
   have h2 := ih _ _ _ h
   obtain ⟨q, hv, hq⟩ := pkR (rd := none) (P := Try.prog) (fn := Try.f29) (k := 0) (s := (Qb0 a0 r4939 y3 x16)) (ans := [.reg (.n :: []), .br true, .reg (.n :: .n :: []), .reg (nN 7 []), .reg (.n :: .n :: [])]) (c := ⟨[(4, none), (5, none), (15, none), (16, none)], [none, none, none, some (List.map vi (y3.set (w64 (x16 + 1)).toNat x16)), some [VV.fr (flatMap Qh r4939.1) r4939.1.length, VV.rf 2 0 ((w64 ((w64 ((a0.Steps.length : Int) + 1)) + 1)).toNat), VV.rf 3 0 ((y3.set (w64 (x16 + 1)).toNat x16).length)]], []⟩) (e := .normal) (s1 := (Qb0 a0 r4939 (y3.set (w64 (x16 + 1)).toNat x16) (w64 (x16 + 1)))) (an (an (ti tt) (an (an (dt h4957) tt) (an (an (ti (ti tt)) e4960) (ti (ti tt))))) (ti (an (show putT (0 + (w64 (x16 + 1)).toNat * 1) (List.map vi y3) [vi x16] = List.map vi (y3.set (w64 (x16 + 1)).toNat x16) from (by exact Qli y3 h4958 x16 (by omega))) (an (show [VV.fr (flatMap Qh r4939.1) r4939.1.length, VV.rf 2 0 ((w64 ((w64 ((a0.Steps.length : Int) + 1)) + 1)).toNat), VV.rf 3 0 y3.length] = [VV.fr (flatMap Qh r4939.1) r4939.1.length, VV.rf 2 0 ((w64 ((w64 ((a0.Steps.length : Int) + 1)) + 1)).toNat), VV.rf 3 0 ((y3.set (w64 (x16 + 1)).toNat x16).length)] from (by first | rfl | simp)) tt)))) (by kernel_rfl)
   exact Qz pm pn hv hq h2
  ·injection h with h; subst h
   exact Q5 (c := ⟨[(4, none), (5, none)], [none, none, none, none, none], []⟩) (s1 := (Wl a0 r4939 y3)) pm pn (ans := [.reg (.n :: []), .br false]) (by kernel_rfl) (by intro e; cases e) (an (an (ti tt) (an (df h4957) tt)) (ti tt))
def Yq (a0 : Zt) (r4939 : ((List Ql) × Int)) (y2 : List Int) (y3 : List Int) (x27 : Int) (x8 : Int) (y2z : List Int) (y3z : List Int) (x12 : Int) (x4 : Int) (x5 : Bool) : VS := ⟨mkA [(1, VV.pt 6 0), (4, vi x4), (5, vb x5), (10, VV.fr (flatMap Qh r4939.1) r4939.1.length), (11, vi (r4939.1.length : Int)), (12, vi x12)], [some ⟨true, 1, Xg a0⟩, some ⟨true, 1, [VV.fr (flatMap Qh r4939.1) r4939.1.length, VV.rf 2 0 y2z.length, VV.rf 3 0 y3z.length]⟩, some ⟨false, 1, List.map vi y2z⟩, some ⟨false, 1, List.map vi y3z⟩, some ⟨true, 1, [VV.fr (flatMap Qh r4939.1) r4939.1.length, VV.rf 2 0 y2z.length, VV.rf 3 0 y3z.length]⟩, some ⟨true, 1, [VV.fr (flatMap Qh r4939.1) r4939.1.length, VV.rf 2 0 y2z.length, VV.rf 3 0 y3z.length]⟩, some ⟨true, 1, [VV.fr (flatMap Qh r4939.1) r4939.1.length, VV.rf 2 0 y2z.length, VV.rf 3 0 y3z.length]⟩], (.node none (mkA [(7, VV.pt 5 0), (8, vi x8), (26, vi (((w64 ((w64 ((a0.Steps.length : Int) + 1)) + 1)).toNat : Nat) : Int)), (27, vi x27), (28, vb (decide (x27 < (((w64 ((w64 ((a0.Steps.length : Int) + 1)) + 1)).toNat : Nat) : Int)))), (30, VV.ag [VV.fr (flatMap Qh r4939.1) r4939.1.length, VV.rf 2 0 y2.length, VV.rf 3 0 y3.length])]) .nil)⟩
def Wn (a0 : Zt) (r4939 : ((List Ql) × Int)) (y2 : List Int) (y3 : List Int) (x27 : Int) (x8 : Int) (r : Int × Bool × (List Int) × (List Int)) : VS := ⟨mkA [(4, vi r.1), (5, vb r.2.1)], [some ⟨true, 1, Xg a0⟩, some ⟨true, 1, [VV.fr (flatMap Qh r4939.1) r4939.1.length, VV.rf 2 0 r.2.2.1.length, VV.rf 3 0 r.2.2.2.length]⟩, some ⟨false, 1, List.map vi r.2.2.1⟩, some ⟨false, 1, List.map vi r.2.2.2⟩, some ⟨true, 1, [VV.fr (flatMap Qh r4939.1) r4939.1.length, VV.rf 2 0 r.2.2.1.length, VV.rf 3 0 r.2.2.2.length]⟩, some ⟨true, 1, [VV.fr (flatMap Qh r4939.1) r4939.1.length, VV.rf 2 0 r.2.2.1.length, VV.rf 3 0 r.2.2.2.length]⟩], (.node none (mkA [(7, VV.pt 5 0), (8, vi x8), (26, vi (((w64 ((w64 ((a0.Steps.length : Int) + 1)) + 1)).toNat : Nat) : Int)), (27, vi x27), (28, vb (decide (x27 < (((w64 ((w64 ((a0.Steps.length : Int) + 1)) + 1)).toNat : Nat) : Int)))), (30, VV.ag [VV.fr (flatMap Qh r4939.1) r4939.1.length, VV.rf 2 0 y2.length, VV.rf 3 0 y3.length])]) .nil)⟩
def Yj (k : Nat) (a0 : Zt) (r4939 : ((List Ql) × Int)) (y2 : List Int) (y3 : List Int) (x27 : Int) (x8 : Int) : Nat -> (List Int) -> (List Int) -> Int -> Int -> Bool -> Option (Int × Bool × (List Int) × (List Int))
 | 0, _, _, _, _, _ => none
 | fuel + 1, y2z, y3z, x12, x4, x5 => if x12 < (r4939.1.length : Int) then (if 0 <= x12 /\ x12 < (r4939.1.length : Int) then (if 0 <= w64 (((r4939.1.getD x12.toNat default).To) + 1) /\ w64 (((r4939.1.getD x12.toNat default).To) + 1) < (y2z.length : Int) then (if 0 <= w64 (((r4939.1.getD x12.toNat default).From) + 1) /\ w64 (((r4939.1.getD x12.toNat default).From) + 1) < (y2z.length : Int) then (if (y2z.getD (w64 (((r4939.1.getD x12.toNat default).From) + 1)).toNat 0) < (w64 ((y2z.getD (w64 (((r4939.1.getD x12.toNat default).To) + 1)).toNat 0) - ((r4939.1.getD x12.toNat default).Most))) then (if 0 <= w64 (((r4939.1.getD x12.toNat default).From) + 1) /\ w64 (((r4939.1.getD x12.toNat default).From) + 1) < (y3z.length : Int) then (Yj k a0 r4939 y2 y3 x27 x8 fuel (y2z.set (w64 (((r4939.1.getD x12.toNat default).From) + 1)).toNat (w64 ((y2z.getD (w64 (((r4939.1.getD x12.toNat default).To) + 1)).toNat 0) - ((r4939.1.getD x12.toNat default).Most)))) (y3z.set (w64 (((r4939.1.getD x12.toNat default).From) + 1)).toNat x12) (w64 (x12 + 1)) ((r4939.1.getD x12.toNat default).From) true) else none) else (Yj k a0 r4939 y2 y3 x27 x8 fuel y2z y3z (w64 (x12 + 1)) x4 x5)) else none) else none) else none) else (some (x4, x5, y2z, y3z))
theorem Qfu (k : Nat) (a0 : Zt) (r4939 : ((List Ql) × Int)) (y2 : List Int) (y3 : List Int) (x27 : Int) (x8 : Int) : ∀ (fuel : Nat) (y2z : List Int) (y3z : List Int) (x12 : Int) (x4 : Int) (x5 : Bool) (r : Int × Bool × (List Int) × (List Int)), Yj k a0 r4939 y2 y3 x27 x8 fuel y2z y3z x12 x4 x5 = some r -> (Yw none Try.prog (szF Try.f30) (Ya Try.f30 0) (Yq a0 r4939 y2 y3 x27 x8 y2z y3z x12 x4 x5) (.exit 0) (Wn a0 r4939 y2 y3 x27 x8 r)) := by
 intro fuel
 induction fuel with
 | zero => intro y2z y3z x12 x4 x5 r h; rw [Yj.eq_1] at h; cases h
 | succ fuel ih =>
  intro y2z y3z x12 x4 x5 r h
  rw [Yj.eq_2] at h
  rcases ifs h with ⟨h5104, h⟩ | ⟨h5104, h⟩
  ·obtain ⟨h5105, h⟩ := ifn h
   have e5106 := (show Xt Try.prog 103 (x12.toNat * 3) (flatMap Qh r4939.1) = some (VV.ag (Qh (r4939.1.getD x12.toNat default))) from Yo Q2j Qh 3 Q2k Wy r4939.1 default h5105 (by omega))
   obtain ⟨h5107, h⟩ := ifn h
   have e5108 := (show Xt Try.prog 3 (0 + (w64 (((r4939.1.getD x12.toNat default).To) + 1)).toNat * 1) (List.map vi y2z) = some (vi (y2z.getD (w64 (((r4939.1.getD x12.toNat default).To) + 1)).toNat 0)) from Qkl ag3 vi y2z 0 h5107 (by omega))
   have e5109 := (ti (ti (ti (ti (ti (an h5107 (an e5108 (ti (ti (ti (ti tt)))))))))))
   obtain ⟨h5110, h⟩ := ifn h
   have e5111 := (show Xt Try.prog 3 (0 + (w64 (((r4939.1.getD x12.toNat default).From) + 1)).toNat * 1) (List.map vi y2z) = some (vi (y2z.getD (w64 (((r4939.1.getD x12.toNat default).From) + 1)).toNat 0)) from Qkl ag3 vi y2z 0 h5110 (by omega))
   have e5112 := (ti (ti (ti (ti (ti (an h5110 (an e5111 (ti (ti tt)))))))))
   rcases ifs h with ⟨h5113, h⟩ | ⟨h5113, h⟩
   ·have e5114 := (show (0 + (w64 (((r4939.1.getD x12.toNat default).From) + 1)).toNat * 1) + 1 <= List.length (List.map vi y2z) from (by simp only [length_map]; omega))
    obtain ⟨h5115, h⟩ := ifn h
    have e5116 := (show (0 + (w64 (((r4939.1.getD x12.toNat default).From) + 1)).toNat * 1) + 1 <= List.length (List.map vi y3z) from (by simp only [length_map]; omega))
    have e5117 := (ti (ti (ti (ti (ti (ti (ti (ti (ti (ti (ti (ti (an h5110 (an e5114 (an h5115 (an e5116 tt))))))))))))))))
    have h2 := ih _ _ _ _ _ _ h
    obtain ⟨q, hv, hq⟩ := pkR (rd := none) (P := Try.prog) (fn := Try.f30) (k := 0) (s := (Yq a0 r4939 y2 y3 x27 x8 y2z y3z x12 x4 x5)) (ans := [.reg (.n :: []), .br true, .reg (.n :: .n :: .v (VV.ag (Qh (r4939.1.getD x12.toNat default))) :: nN 3 []), .reg (Qxd y2z r4939 x12), .reg (Qxe y2z r4939 x12), .br true, .reg (nN 16 []), .reg (nN 4 []), .reg (.n :: .n :: [])]) (c := ⟨[(1, none), (4, none), (5, none), (10, none), (11, none), (12, none)], [none, some [VV.fr (flatMap Qh r4939.1) r4939.1.length, VV.rf 2 0 ((y2z.set (w64 (((r4939.1.getD x12.toNat default).From) + 1)).toNat (w64 ((y2z.getD (w64 (((r4939.1.getD x12.toNat default).To) + 1)).toNat 0) - ((r4939.1.getD x12.toNat default).Most)))).length), VV.rf 3 0 ((y3z.set (w64 (((r4939.1.getD x12.toNat default).From) + 1)).toNat x12).length)], some (List.map vi (y2z.set (w64 (((r4939.1.getD x12.toNat default).From) + 1)).toNat (w64 ((y2z.getD (w64 (((r4939.1.getD x12.toNat default).To) + 1)).toNat 0) - ((r4939.1.getD x12.toNat default).Most))))), some (List.map vi (y3z.set (w64 (((r4939.1.getD x12.toNat default).From) + 1)).toNat x12)), some [VV.fr (flatMap Qh r4939.1) r4939.1.length, VV.rf 2 0 ((y2z.set (w64 (((r4939.1.getD x12.toNat default).From) + 1)).toNat (w64 ((y2z.getD (w64 (((r4939.1.getD x12.toNat default).To) + 1)).toNat 0) - ((r4939.1.getD x12.toNat default).Most)))).length), VV.rf 3 0 ((y3z.set (w64 (((r4939.1.getD x12.toNat default).From) + 1)).toNat x12).length)], some [VV.fr (flatMap Qh r4939.1) r4939.1.length, VV.rf 2 0 ((y2z.set (w64 (((r4939.1.getD x12.toNat default).From) + 1)).toNat (w64 ((y2z.getD (w64 (((r4939.1.getD x12.toNat default).To) + 1)).toNat 0) - ((r4939.1.getD x12.toNat default).Most)))).length), VV.rf 3 0 ((y3z.set (w64 (((r4939.1.getD x12.toNat default).From) + 1)).toNat x12).length)], some [VV.fr (flatMap Qh r4939.1) r4939.1.length, VV.rf 2 0 ((y2z.set (w64 (((r4939.1.getD x12.toNat default).From) + 1)).toNat (w64 ((y2z.getD (w64 (((r4939.1.getD x12.toNat default).To) + 1)).toNat 0) - ((r4939.1.getD x12.toNat default).Most)))).length), VV.rf 3 0 ((y3z.set (w64 (((r4939.1.getD x12.toNat default).From) + 1)).toNat x12).length)]], []⟩) (e := .normal) (s1 := (Yq a0 r4939 y2 y3 x27 x8 (y2z.set (w64 (((r4939.1.getD x12.toNat default).From) + 1)).toNat (w64 ((y2z.getD (w64 (((r4939.1.getD x12.toNat default).To) + 1)).toNat 0) - ((r4939.1.getD x12.toNat default).Most)))) (y3z.set (w64 (((r4939.1.getD x12.toNat default).From) + 1)).toNat x12) (w64 (x12 + 1)) ((r4939.1.getD x12.toNat default).From) true)) (an (an (ti tt) (an (an (dt h5104) tt) (an (an (ti (an h5105 (an e5106 (ti (ti (ti tt)))))) (an e5109 (an e5112 (an (dt h5113) (an e5117 (ti (ti (ti (ti tt))))))))) (ti (ti tt))))) (ti (an (show [VV.fr (flatMap Qh r4939.1) r4939.1.length, VV.rf 2 0 y2z.length, VV.rf 3 0 y3z.length] = [VV.fr (flatMap Qh r4939.1) r4939.1.length, VV.rf 2 0 ((y2z.set (w64 (((r4939.1.getD x12.toNat default).From) + 1)).toNat (w64 ((y2z.getD (w64 (((r4939.1.getD x12.toNat default).To) + 1)).toNat 0) - ((r4939.1.getD x12.toNat default).Most)))).length), VV.rf 3 0 ((y3z.set (w64 (((r4939.1.getD x12.toNat default).From) + 1)).toNat x12).length)] from (by first | rfl | simp)) (an (show putT (0 + (w64 (((r4939.1.getD x12.toNat default).From) + 1)).toNat * 1) (List.map vi y2z) [vi (w64 ((y2z.getD (w64 (((r4939.1.getD x12.toNat default).To) + 1)).toNat 0) - ((r4939.1.getD x12.toNat default).Most)))] = List.map vi (y2z.set (w64 (((r4939.1.getD x12.toNat default).From) + 1)).toNat (w64 ((y2z.getD (w64 (((r4939.1.getD x12.toNat default).To) + 1)).toNat 0) - ((r4939.1.getD x12.toNat default).Most)))) from (by exact Qli y2z h5110 (w64 ((y2z.getD (w64 (((r4939.1.getD x12.toNat default).To) + 1)).toNat 0) - ((r4939.1.getD x12.toNat default).Most))) (by omega))) (an (show putT (0 + (w64 (((r4939.1.getD x12.toNat default).From) + 1)).toNat * 1) (List.map vi y3z) [vi x12] = List.map vi (y3z.set (w64 (((r4939.1.getD x12.toNat default).From) + 1)).toNat x12) from (by exact Qli y3z h5115 x12 (by omega))) (an (show [VV.fr (flatMap Qh r4939.1) r4939.1.length, VV.rf 2 0 y2z.length, VV.rf 3 0 y3z.length] = [VV.fr (flatMap Qh r4939.1) r4939.1.length, VV.rf 2 0 ((y2z.set (w64 (((r4939.1.getD x12.toNat default).From) + 1)).toNat (w64 ((y2z.getD (w64 (((r4939.1.getD x12.toNat default).To) + 1)).toNat 0) - ((r4939.1.getD x12.toNat default).Most)))).length), VV.rf 3 0 ((y3z.set (w64 (((r4939.1.getD x12.toNat default).From) + 1)).toNat x12).length)] from (by first | rfl | simp)) (an (show [VV.fr (flatMap Qh r4939.1) r4939.1.length, VV.rf 2 0 y2z.length, VV.rf 3 0 y3z.length] = [VV.fr (flatMap Qh r4939.1) r4939.1.length, VV.rf 2 0 ((y2z.set (w64 (((r4939.1.getD x12.toNat default).From) + 1)).toNat (w64 ((y2z.getD (w64 (((r4939.1.getD x12.toNat default).To) + 1)).toNat 0) - ((r4939.1.getD x12.toNat default).Most)))).length), VV.rf 3 0 ((y3z.set (w64 (((r4939.1.getD x12.toNat default).From) + 1)).toNat x12).length)] from (by first | rfl | simp)) (an (show [VV.fr (flatMap Qh r4939.1) r4939.1.length, VV.rf 2 0 y2z.length, VV.rf 3 0 y3z.length] = [VV.fr (flatMap Qh r4939.1) r4939.1.length, VV.rf 2 0 ((y2z.set (w64 (((r4939.1.getD x12.toNat default).From) + 1)).toNat (w64 ((y2z.getD (w64 (((r4939.1.getD x12.toNat default).To) + 1)).toNat 0) - ((r4939.1.getD x12.toNat default).Most)))).length), VV.rf 3 0 ((y3z.set (w64 (((r4939.1.getD x12.toNat default).From) + 1)).toNat x12).length)] from (by first | rfl | simp)) tt)))))))) (by kernel_rfl)
    exact Qz pm pn hv hq h2
   ·have h2 := ih _ _ _ _ _ _ h
    obtain ⟨q, hv, hq⟩ := pkR (rd := none) (P := Try.prog) (fn := Try.f30) (k := 0) (s := (Yq a0 r4939 y2 y3 x27 x8 y2z y3z x12 x4 x5)) (ans := [.reg (.n :: []), .br true, .reg (.n :: .n :: .v (VV.ag (Qh (r4939.1.getD x12.toNat default))) :: nN 3 []), .reg (Qxd y2z r4939 x12), .reg (Qxe y2z r4939 x12), .br false, .reg (.n :: .n :: [])]) (c := ⟨[(1, none), (4, none), (5, none), (10, none), (11, none), (12, none)], [none, none, none, none, none, none, none], []⟩) (e := .normal) (s1 := (Yq a0 r4939 y2 y3 x27 x8 y2z y3z (w64 (x12 + 1)) x4 x5)) (an (an (ti tt) (an (an (dt h5104) tt) (an (an (ti (an h5105 (an e5106 (ti (ti (ti tt)))))) (an e5109 (an e5112 (an (df h5113) tt)))) (ti (ti tt))))) (ti tt)) (by kernel_rfl)
    exact Qz pm pn hv hq h2
  ·injection h with h; subst h
   exact Q5 (c := ⟨[(4, none), (5, none)], [none, none, none, none, none, none], []⟩) (s1 := (Wn a0 r4939 y2 y3 x27 x8 (x4, x5, y2z, y3z))) pm pn (ans := [.reg (.n :: []), .br false]) (by kernel_rfl) (by intro e; cases e) (an (an (ti tt) (an (df h5104) tt)) (ti tt))
def Qbv (a0 : Zt) (r4939 : ((List Ql) × Int)) (y2 : List Int) (y3 : List Int) (x27 : Int) (x8 : Int) : VS := ⟨mkA [(7, VV.pt 5 0), (8, vi x8), (26, vi (((w64 ((w64 ((a0.Steps.length : Int) + 1)) + 1)).toNat : Nat) : Int)), (27, vi x27)], [some ⟨true, 1, Xg a0⟩, some ⟨true, 1, [VV.fr (flatMap Qh r4939.1) r4939.1.length, VV.rf 2 0 y2.length, VV.rf 3 0 y3.length]⟩, some ⟨false, 1, List.map vi y2⟩, some ⟨false, 1, List.map vi y3⟩, some ⟨true, 1, [VV.fr (flatMap Qh r4939.1) r4939.1.length, VV.rf 2 0 y2.length, VV.rf 3 0 y3.length]⟩, some ⟨true, 1, [VV.fr (flatMap Qh r4939.1) r4939.1.length, VV.rf 2 0 y2.length, VV.rf 3 0 y3.length]⟩], .nil⟩
def Qcy (a0 : Zt) (r4939 : ((List Ql) × Int)) (r : (List Int) × (List Int)) : VS := ⟨mkA [(2, VV.rf 2 (0 + ((1 : Int)).toNat * 1) (r.1.length - ((1 : Int)).toNat)), (3, VV.c (.slice none 0 0)), (4, vi 0)], [some ⟨true, 1, Xg a0⟩, some ⟨true, 1, [VV.fr (flatMap Qh r4939.1) r4939.1.length, VV.rf 2 0 r.1.length, VV.rf 3 0 r.2.length]⟩, some ⟨false, 1, List.map vi r.1⟩, some ⟨false, 1, List.map vi r.2⟩], .nil⟩
def Qcz (a0 : Zt) (r4939 : ((List Ql) × Int)) (r : Int × (List Int) × (List Int)) : VS := ⟨mkA [(7, VV.pt 5 0), (8, vi r.1)], [some ⟨true, 1, Xg a0⟩, some ⟨true, 1, [VV.fr (flatMap Qh r4939.1) r4939.1.length, VV.rf 2 0 r.2.1.length, VV.rf 3 0 r.2.2.length]⟩, some ⟨false, 1, List.map vi r.2.1⟩, some ⟨false, 1, List.map vi r.2.2⟩, some ⟨true, 1, [VV.fr (flatMap Qh r4939.1) r4939.1.length, VV.rf 2 0 r.2.1.length, VV.rf 3 0 r.2.2.length]⟩, some ⟨true, 1, [VV.fr (flatMap Qh r4939.1) r4939.1.length, VV.rf 2 0 r.2.1.length, VV.rf 3 0 r.2.2.length]⟩], .nil⟩
def Qba (k : Nat) (a0 : Zt) (r4939 : ((List Ql) × Int)) : Nat -> (List Int) -> (List Int) -> Int -> Int -> Option (Sum ((List Int) × (List Int)) (Int × (List Int) × (List Int)))
 | 0, _, _, _, _ => none
 | fuel + 1, y2, y3, x27, x8 => if x27 < (((w64 ((w64 ((a0.Steps.length : Int) + 1)) + 1)).toNat : Nat) : Int) then ((Yj k a0 r4939 y2 y3 x27 x8 k y2 y3 0 0 false).bind fun r5119 => (if r5119.2.2.1.length = y2.length then (if r5119.2.2.2.length = y3.length then (if r5119.2.1 = true then (Qba k a0 r4939 fuel r5119.2.2.1 r5119.2.2.2 (w64 (x27 + 1)) r5119.1) else (if 0 <= (1 : Int) /\ ((1 : Int)).toNat <= r5119.2.2.1.length then (some (.inl (r5119.2.2.1, r5119.2.2.2))) else none)) else none) else none)) else (some (.inr (x8, y2, y3)))
theorem Qhc (k : Nat) (a0 : Zt) (r4939 : ((List Ql) × Int)) : ∀ (fuel : Nat) (y2 : List Int) (y3 : List Int) (x27 : Int) (x8 : Int) (r : Sum ((List Int) × (List Int)) (Int × (List Int) × (List Int))), Qba k a0 r4939 fuel y2 y3 x27 x8 = some r -> (match r with | .inl r => Yw none Try.prog (szF Try.f13) (Ya Try.f13 0) (Qbv a0 r4939 y2 y3 x27 x8) .ret (Qcy a0 r4939 r) | .inr r => Yw none Try.prog (szF Try.f13) (Ya Try.f13 0) (Qbv a0 r4939 y2 y3 x27 x8) (.exit 0) (Qcz a0 r4939 r)) := by
 intro fuel
 induction fuel with
 | zero => intro y2 y3 x27 x8 r h; rw [Qba.eq_1] at h; cases h
 | succ fuel ih =>
  intro y2 y3 x27 x8 r h
  rw [Qba.eq_2] at h
  rcases ifs h with ⟨h5075, h⟩ | ⟨h5075, h⟩
  ·obtain ⟨r5119, h5118, h⟩ := bs h
   have hph5118 := Qfu k a0 r4939 y2 y3 x27 x8 _ _ _ _ _ _ _ h5118
   have e5120 := (an (ti tt) (VRun.loop hph5118))
   obtain ⟨h5121, h⟩ := ifn h
   obtain ⟨h5122, h⟩ := ifn h
   have e5123 := (an (an Try.func30 (an (ti (ti (ti tt))) (an (ti (ti tt)) (an (an (ti (ti (ti (ti tt)))) e5120) (an (ti (ti (ti (ti tt)))) tt))))) (ti (ti tt)))
   rcases ifs h with ⟨h5124, h⟩ | ⟨h5124, h⟩
   ·have h2 := ih _ _ _ _ _ h
    obtain ⟨q, hv, hq⟩ := pkR (rd := none) (P := Try.prog) (fn := Try.f13) (k := 0) (s := (Qbv a0 r4939 y2 y3 x27 x8)) (ans := [.reg (.n :: []), .br true, .reg (.n :: .inl (inlF Try.f30 [.reg (nN 3 []), .reg (.n :: .n :: []), .reg (nN 4 []), .sub ⟨[(1, none), (4, none), (5, none), (10, none), (11, none), (12, none)], [none, none, none, none, none, none, none], []⟩ (.exit 0) (Wn a0 r4939 y2 y3 x27 x8 r5119), .reg (nN 4 [])]) :: nN 5 []), .reg (.n :: .n :: []), .br false, .reg (.n :: .n :: [])]) (c := ⟨[(7, none), (8, none), (26, none), (27, none)], [none, none, none, none, none, none], []⟩) (e := .normal) (s1 := (Qbv a0 r4939 r5119.2.2.1 r5119.2.2.2 (w64 (x27 + 1)) r5119.1)) (an (an (ti tt) (an (an (dt h5075) tt) (an (an (ti (an e5123 (ti (ti (ti (ti (ti tt))))))) (an (ti (ti tt)) (an (Qm h5124) tt))) (ti (ti tt))))) (ti tt)) (by kernel_rfl)
    cases r with
    | inl r => exact Qz pm pn hv hq h2
    | inr r =>
     exact Qz pm pn hv hq h2
   ·obtain ⟨h5125, h⟩ := ifn h
    have e5126 := (show 0 <= (1 : Int) /\ True /\ ((1 : Int)).toNat <= r5119.2.2.1.length /\ r5119.2.2.1.length <= r5119.2.2.1.length from ⟨h5125.1, tt, by have := h5125; omega, Nat.le_refl _⟩)
    injection h with h; subst h
    exact Q5 (c := ⟨[(2, none), (3, none), (4, none)], [none, none, none, none], []⟩) (s1 := (Qcy a0 r4939 (r5119.2.2.1, r5119.2.2.2))) pm pn (ans := [.reg (.n :: []), .br true, .reg (.n :: .inl (inlF Try.f30 [.reg (nN 3 []), .reg (.n :: .n :: []), .reg (nN 4 []), .sub ⟨[(1, none), (4, none), (5, none), (10, none), (11, none), (12, none)], [none, none, none, none, none, none, none], []⟩ (.exit 0) (Wn a0 r4939 y2 y3 x27 x8 r5119), .reg (nN 4 [])]) :: nN 5 []), .reg (.n :: .n :: []), .br true, .reg (nN 6 [])]) (by kernel_rfl) (by intro e; cases e) (an (an (ti tt) (an (an (dt h5075) tt) (an (ti (an e5123 (ti (ti (ti (ti (ti tt))))))) (an (ti (ti tt)) (an (Za (Zk h5124)) (an (ti (ti (an e5126 (ti (ti (ti tt)))))) tt)))))) (ti tt))
  ·injection h with h; subst h
   exact Q5 (c := ⟨[(7, none), (8, none)], [none, none, none, none, none, none], []⟩) (s1 := (Qcz a0 r4939 (x8, y2, y3))) pm pn (ans := [.reg (.n :: []), .br false]) (by kernel_rfl) (by intro e; cases e) (an (an (ti tt) (an (df h5075) tt)) (ti tt))
def Qp5 (z0 : ((List Ql) × Int)) : List Ans := (.n :: .call (VV.tu [VV.fr (flatMap Qh z0.1) z0.1.length, vi z0.2]) :: nN 5 [])
theorem Q0m (z0 : (List Int) × (List Int)) : List.drop (0 + ((1 : Int)).toNat * 1) (List.map unfr (List.map vi z0.1)) = List.map vi (z0.1.drop (((1 : Int)).toNat)) := by first | rfl | (simp only [Nat.zero_add, Nat.mul_one, List.map_drop, List.length_drop, Zi, map_cons, map_nil, un_i, Nat.zero_add]; done) | (simp only [Nat.zero_add, Nat.mul_one, List.map_drop, List.length_drop, Zi, map_cons, map_nil, un_i, Nat.zero_add]; rfl) | (simp only [Nat.zero_add, Nat.mul_one, List.map_drop, List.length_drop, Zi, map_cons, map_nil, un_i, Nat.zero_add, length_cons, length_nil, length_append]; done)
theorem Q0n (z0 : (List Int) × (List Int)) : z0.1.length - ((1 : Int)).toNat = (z0.1.drop (((1 : Int)).toNat)).length := by first | rfl | (simp only [Nat.zero_add, Nat.mul_one, List.map_drop, List.length_drop, map_cons, map_nil, Nat.zero_add]; done) | (simp only [Nat.zero_add, Nat.mul_one, List.map_drop, List.length_drop, map_cons, map_nil, Nat.zero_add]; rfl) | (simp only [Nat.zero_add, Nat.mul_one, List.map_drop, List.length_drop, map_cons, map_nil, Nat.zero_add, length_cons, length_nil, length_append]; done)
def Qfv (k : Nat) (a0 : Zt) : Option ((List Int) × (List Int) × Int) :=
 (Qeu k a0).bind fun r4939 => (if r4939.2 = 0 then (if 0 <= (w64 ((w64 ((a0.Steps.length : Int) + 1)) + 1)) /\ (w64 ((w64 ((a0.Steps.length : Int) + 1)) + 1)) <= 1000000000 then ((Y5 k a0 r4939 k (List.replicate (w64 ((w64 ((a0.Steps.length : Int) + 1)) + 1)).toNat (0 : Int)) 0).bind fun r4962 => ((Qba k a0 r4939 k (List.replicate (w64 ((w64 ((a0.Steps.length : Int) + 1)) + 1)).toNat (0 : Int)) r4962 0 0).bind fun r5128 => (match r5128 with | .inl r5129 => (some (r5129.1.drop (((1 : Int)).toNat), [], 0)) | .inr r5130 => ((Qcx k (⟨r4939.1, r5130.2.1, r5130.2.2⟩ : Qaf) r5130.1).bind fun r5133 => (some ([], r5133, 21)))))) else none) else (some ([], [], r4939.2)))
theorem Qje (k : Nat) (a0 : Zt) (r : ((List Int) × (List Int) × Int)) (h : Qfv k a0 = some r) : VC Try.prog 13 [VV.ag (Xg a0)] (VV.tu [VV.fr (List.map vi r.1) r.1.length, VV.fr (List.map vi r.2.1) r.2.1.length, vi r.2.2]) := by
 unfold Qfv at h
 obtain ⟨r4939, h4940, h⟩ := bs h
 have e4941 := (show VC Try.prog 28 [VV.ag (Xg a0)] (VV.tu [VV.fr (flatMap Qh r4939.1) r4939.1.length, vi r4939.2]) from (VC.weak (Qij k a0 _ h4940) (Wv.tuL (.cons (Wv.fw rfl rfl) (.cons (Wv.refl _) .nil)))))
 rcases ifs h with ⟨h4942, h⟩ | ⟨h4942, h⟩
 ·obtain ⟨h4943, h⟩ := ifn h
  have e4944 := (show 0 <= (w64 ((w64 ((a0.Steps.length : Int) + 1)) + 1)) /\ (w64 ((w64 ((a0.Steps.length : Int) + 1)) + 1)) = (w64 ((w64 ((a0.Steps.length : Int) + 1)) + 1)) /\ (8 * (w64 ((w64 ((a0.Steps.length : Int) + 1)) + 1)).toNat) <= 281474976710656 /\ (w64 ((w64 ((a0.Steps.length : Int) + 1)) + 1)) < 1099511627776 from ⟨by omega, rfl, by omega, by omega⟩)
  have e4945 := (show 0 <= (w64 ((w64 ((a0.Steps.length : Int) + 1)) + 1)) /\ (w64 ((w64 ((a0.Steps.length : Int) + 1)) + 1)) = (w64 ((w64 ((a0.Steps.length : Int) + 1)) + 1)) /\ (8 * (w64 ((w64 ((a0.Steps.length : Int) + 1)) + 1)).toNat) <= 281474976710656 /\ (w64 ((w64 ((a0.Steps.length : Int) + 1)) + 1)) < 1099511627776 from ⟨by omega, rfl, by omega, by omega⟩)
  have e4946 := (ti (ti (ti (an e4944 (ti (ti (an e4945 (ti (ti (ti tt))))))))))
  obtain ⟨r4962, h4961, h⟩ := bs h
  have hph4961 := Qft k a0 r4939 _ _ _ _ h4961
  have e4963 := (an (ti (an (show List.replicate (w64 ((w64 ((a0.Steps.length : Int) + 1)) + 1)).toNat (VV.c (.int .i64 0)) = List.map vi (List.replicate (w64 ((w64 ((a0.Steps.length : Int) + 1)) + 1)).toNat (0 : Int)) from Qd4 _) (an (show [VV.fr (flatMap Qh r4939.1) r4939.1.length, VV.rf 2 0 ((w64 ((w64 ((a0.Steps.length : Int) + 1)) + 1)).toNat), VV.rf 3 0 ((w64 ((w64 ((a0.Steps.length : Int) + 1)) + 1)).toNat)] = [VV.fr (flatMap Qh r4939.1) r4939.1.length, VV.rf 2 0 ((w64 ((w64 ((a0.Steps.length : Int) + 1)) + 1)).toNat), VV.rf 3 0 ((List.replicate (w64 ((w64 ((a0.Steps.length : Int) + 1)) + 1)).toNat (0 : Int)).length)] from (by first | rfl | simp)) tt))) (VRun.loop hph4961))
  have e4964 := (an (an Try.func29 (an (ti tt) (an e4946 (an (an (ti (ti tt)) e4963) (an (ti (ti tt)) tt))))) (ti tt))
  have e4965 := (ti (ti (ti (ti (ti (an e4964 (ti (ti tt))))))))
  obtain ⟨r5128, h5127, h⟩ := bs h
  have hph5127 := Qhc k a0 r4939 _ _ _ _ _ _ h5127
  cases r5128 with
  | inl r5129 =>
   dsimp only at h
   have e5131 := (an (ti (an (show [VV.fr (flatMap Qh r4939.1) r4939.1.length, VV.rf 2 0 ((w64 ((w64 ((a0.Steps.length : Int) + 1)) + 1)).toNat), VV.rf 3 0 r4962.length] = [VV.fr (flatMap Qh r4939.1) r4939.1.length, VV.rf 2 0 ((List.replicate (w64 ((w64 ((a0.Steps.length : Int) + 1)) + 1)).toNat (0 : Int)).length), VV.rf 3 0 r4962.length] from (by first | rfl | simp)) (an (show List.replicate (w64 ((w64 ((a0.Steps.length : Int) + 1)) + 1)).toNat (VV.c (.int .i64 0)) = List.map vi (List.replicate (w64 ((w64 ((a0.Steps.length : Int) + 1)) + 1)).toNat (0 : Int)) from Qd4 _) (an (show [VV.fr (flatMap Qh r4939.1) r4939.1.length, VV.rf 2 0 ((w64 ((w64 ((a0.Steps.length : Int) + 1)) + 1)).toNat), VV.rf 3 0 r4962.length] = [VV.fr (flatMap Qh r4939.1) r4939.1.length, VV.rf 2 0 ((List.replicate (w64 ((w64 ((a0.Steps.length : Int) + 1)) + 1)).toNat (0 : Int)).length), VV.rf 3 0 r4962.length] from (by first | rfl | simp)) (an (show [VV.fr (flatMap Qh r4939.1) r4939.1.length, VV.rf 2 0 ((w64 ((w64 ((a0.Steps.length : Int) + 1)) + 1)).toNat), VV.rf 3 0 r4962.length] = [VV.fr (flatMap Qh r4939.1) r4939.1.length, VV.rf 2 0 ((List.replicate (w64 ((w64 ((a0.Steps.length : Int) + 1)) + 1)).toNat (0 : Int)).length), VV.rf 3 0 r4962.length] from (by first | rfl | simp)) tt))))) (VRun.loop hph5127))
   injection h with h; subst h
   exact Qw pm pn Try.func13 (r0 := VV.tu [VV.fw 1 (List.drop (0 + ((1 : Int)).toNat * 1) (List.map unfr (List.map vi r5129.1))) (r5129.1.length - ((1 : Int)).toNat), VV.c (.slice none 0 0), vi 0]) (ans := [.reg (nN 4 []), .reg (Qp5 r4939), .reg (.n :: .n :: []), .br false, .reg (nN 5 (.inl (inlF Try.f29 [.reg (.n :: []), .reg (nN 10 []), .reg (.n :: .n :: []), .sub ⟨[(4, none), (5, none), (15, none), (16, none)], [none, none, none, some (List.map vi (List.replicate (w64 ((w64 ((a0.Steps.length : Int) + 1)) + 1)).toNat (0 : Int))), some [VV.fr (flatMap Qh r4939.1) r4939.1.length, VV.rf 2 0 ((w64 ((w64 ((a0.Steps.length : Int) + 1)) + 1)).toNat), VV.rf 3 0 ((List.replicate (w64 ((w64 ((a0.Steps.length : Int) + 1)) + 1)).toNat (0 : Int)).length)]], []⟩ (.exit 0) (Wl a0 r4939 r4962), .reg (.n :: .n :: [])]) :: .n :: .n :: [])), .reg (.n :: .n :: []), .reg (nN 4 []), .sub ⟨[(7, none), (8, none), (26, none), (27, none)], [none, some [VV.fr (flatMap Qh r4939.1) r4939.1.length, VV.rf 2 0 ((List.replicate (w64 ((w64 ((a0.Steps.length : Int) + 1)) + 1)).toNat (0 : Int)).length), VV.rf 3 0 r4962.length], some (List.map vi (List.replicate (w64 ((w64 ((a0.Steps.length : Int) + 1)) + 1)).toNat (0 : Int))), none, some [VV.fr (flatMap Qh r4939.1) r4939.1.length, VV.rf 2 0 ((List.replicate (w64 ((w64 ((a0.Steps.length : Int) + 1)) + 1)).toNat (0 : Int)).length), VV.rf 3 0 r4962.length], some [VV.fr (flatMap Qh r4939.1) r4939.1.length, VV.rf 2 0 ((List.replicate (w64 ((w64 ((a0.Steps.length : Int) + 1)) + 1)).toNat (0 : Int)).length), VV.rf 3 0 r4962.length]], []⟩ .ret (Qcy a0 r4939 r5129)]) (fr := true) (by kernel_rfl) (an (an (ti (ti (ti (ti tt)))) (an (ti (an e4941 (ti (ti (ti (ti (ti tt))))))) (an (an (ti (ti tt)) (an (Qm (dt h4942)) tt)) (an e4965 (an (ti (ti tt)) (an (ti (ti (ti (ti tt)))) e5131)))))) (an (show List.all (List.map vi r5129.1) new0 = true from (by exact Qns _)) (ti (ti tt)))) (Wv.tuL (.cons (Wv.fw (Q0m r5129) (Q0n r5129)) (.cons Wv.Qwc (.cons (Wv.refl _) .nil))))
  | inr r5130 =>
   dsimp only at h
   have e5132 := (an (ti (an (show [VV.fr (flatMap Qh r4939.1) r4939.1.length, VV.rf 2 0 ((w64 ((w64 ((a0.Steps.length : Int) + 1)) + 1)).toNat), VV.rf 3 0 r4962.length] = [VV.fr (flatMap Qh r4939.1) r4939.1.length, VV.rf 2 0 ((List.replicate (w64 ((w64 ((a0.Steps.length : Int) + 1)) + 1)).toNat (0 : Int)).length), VV.rf 3 0 r4962.length] from (by first | rfl | simp)) (an (show List.replicate (w64 ((w64 ((a0.Steps.length : Int) + 1)) + 1)).toNat (VV.c (.int .i64 0)) = List.map vi (List.replicate (w64 ((w64 ((a0.Steps.length : Int) + 1)) + 1)).toNat (0 : Int)) from Qd4 _) (an (show [VV.fr (flatMap Qh r4939.1) r4939.1.length, VV.rf 2 0 ((w64 ((w64 ((a0.Steps.length : Int) + 1)) + 1)).toNat), VV.rf 3 0 r4962.length] = [VV.fr (flatMap Qh r4939.1) r4939.1.length, VV.rf 2 0 ((List.replicate (w64 ((w64 ((a0.Steps.length : Int) + 1)) + 1)).toNat (0 : Int)).length), VV.rf 3 0 r4962.length] from (by first | rfl | simp)) (an (show [VV.fr (flatMap Qh r4939.1) r4939.1.length, VV.rf 2 0 ((w64 ((w64 ((a0.Steps.length : Int) + 1)) + 1)).toNat), VV.rf 3 0 r4962.length] = [VV.fr (flatMap Qh r4939.1) r4939.1.length, VV.rf 2 0 ((List.replicate (w64 ((w64 ((a0.Steps.length : Int) + 1)) + 1)).toNat (0 : Int)).length), VV.rf 3 0 r4962.length] from (by first | rfl | simp)) tt))))) (VRun.loop hph5127))
   obtain ⟨r5133, h5134, h⟩ := bs h
   have e5135 := (VC.args (VC.weak (Qf3 k (⟨r4939.1, r5130.2.1, r5130.2.2⟩ : Qaf) r5130.1 _ h5134) (Wv.fw rfl rfl)) (Q0l r4939 r5130))
   injection h with h; subst h
   exact Qw pm pn Try.func13 (r0 := VV.tu [VV.c (.slice none 0 0), VV.fr (List.map vi r5133) r5133.length, vi 21]) (ans := [.reg (nN 4 []), .reg (Qp5 r4939), .reg (.n :: .n :: []), .br false, .reg (nN 5 (.inl (inlF Try.f29 [.reg (.n :: []), .reg (nN 10 []), .reg (.n :: .n :: []), .sub ⟨[(4, none), (5, none), (15, none), (16, none)], [none, none, none, some (List.map vi (List.replicate (w64 ((w64 ((a0.Steps.length : Int) + 1)) + 1)).toNat (0 : Int))), some [VV.fr (flatMap Qh r4939.1) r4939.1.length, VV.rf 2 0 ((w64 ((w64 ((a0.Steps.length : Int) + 1)) + 1)).toNat), VV.rf 3 0 ((List.replicate (w64 ((w64 ((a0.Steps.length : Int) + 1)) + 1)).toNat (0 : Int)).length)]], []⟩ (.exit 0) (Wl a0 r4939 r4962), .reg (.n :: .n :: [])]) :: .n :: .n :: [])), .reg (.n :: .n :: []), .reg (nN 4 []), .sub ⟨[(7, none), (8, none), (26, none), (27, none)], [none, some [VV.fr (flatMap Qh r4939.1) r4939.1.length, VV.rf 2 0 ((List.replicate (w64 ((w64 ((a0.Steps.length : Int) + 1)) + 1)).toNat (0 : Int)).length), VV.rf 3 0 r4962.length], some (List.map vi (List.replicate (w64 ((w64 ((a0.Steps.length : Int) + 1)) + 1)).toNat (0 : Int))), none, some [VV.fr (flatMap Qh r4939.1) r4939.1.length, VV.rf 2 0 ((List.replicate (w64 ((w64 ((a0.Steps.length : Int) + 1)) + 1)).toNat (0 : Int)).length), VV.rf 3 0 r4962.length], some [VV.fr (flatMap Qh r4939.1) r4939.1.length, VV.rf 2 0 ((List.replicate (w64 ((w64 ((a0.Steps.length : Int) + 1)) + 1)).toNat (0 : Int)).length), VV.rf 3 0 r4962.length]], []⟩ (.exit 0) (Qcz a0 r4939 r5130), .reg (.n :: .n :: .call (VV.fr (List.map vi r5133) r5133.length) :: nN 3 [])]) (fr := true) (by kernel_rfl) (an (an (ti (ti (ti (ti tt)))) (an (ti (an e4941 (ti (ti (ti (ti (ti tt))))))) (an (an (ti (ti tt)) (an (Qm (dt h4942)) tt)) (an e4965 (an (ti (ti tt)) (an (an (ti (ti (ti (ti tt)))) e5132) (an (ti (ti (an e5135 (ti (ti (ti tt)))))) tt))))))) (ti (ti (ti tt)))) (Wv.tuL (.cons Wv.Qwc (.cons (Wv.refl _) (.cons (Wv.refl _) .nil))))
 ·injection h with h; subst h
  exact Qw pm pn Try.func13 (r0 := VV.tu [VV.c (.slice none 0 0), VV.c (.slice none 0 0), vi r4939.2]) (ans := [.reg (nN 4 []), .reg (Qp5 r4939), .reg (.n :: .n :: []), .br true, .reg (nN 4 [])]) (fr := true) (by kernel_rfl) (an (an (ti (ti (ti (ti tt)))) (an (ti (an e4941 (ti (ti (ti (ti (ti tt))))))) (an (ti (ti tt)) (an (Za (df h4942)) (an (ti (ti (ti (ti tt)))) tt))))) (ti (ti (ti tt)))) (Wv.tuL (.cons Wv.Qwc (.cons Wv.Qwc (.cons (Wv.refl _) .nil))))
def Qap (a0 : (List Int)) (a1 : (List Int)) (x5 : Int) : VS := ⟨mkA [(0, VV.tr (List.map vi a0) a0.length), (1, VV.tr (List.map vi a1) a1.length), (5, vi x5)], [], .nil⟩
def Qb1 (a0 : (List Int)) (a1 : (List Int)) (r : Unit) : VS := ⟨mkA [(4, vb false)], [], .nil⟩
def Qb2 (a0 : (List Int)) (a1 : (List Int)) (r : Unit) : VS := ⟨mkA [], [], .nil⟩
def Wp (k : Nat) (a0 : (List Int)) (a1 : (List Int)) : Nat -> Int -> Option (Sum Unit Unit)
 | 0, _ => none
 | fuel + 1, x5 => if x5 < (a0.length : Int) then (if 0 <= x5 /\ x5 < (a0.length : Int) then (if 0 <= x5 /\ x5 < (a1.length : Int) then (if (a0.getD x5.toNat 0) = (a1.getD x5.toNat 0) then (Wp k a0 a1 fuel (w64 (x5 + 1))) else (some (.inl ()))) else none) else none) else (some (.inr ()))
theorem Qf4 (k : Nat) (a0 : (List Int)) (a1 : (List Int)) : ∀ (fuel : Nat) (x5 : Int) (r : Sum Unit Unit), Wp k a0 a1 fuel x5 = some r -> (match r with | .inl r => Yw none Try.prog (szF Try.f15) (Ya Try.f15 0) (Qap a0 a1 x5) .ret (Qb1 a0 a1 r) | .inr r => Yw none Try.prog (szF Try.f15) (Ya Try.f15 0) (Qap a0 a1 x5) (.exit 0) (Qb2 a0 a1 r)) := by
 intro fuel
 induction fuel with
 | zero => intro x5 r h; rw [Wp.eq_1] at h; cases h
 | succ fuel ih =>
  intro x5 r h
  rw [Wp.eq_2] at h
  rcases ifs h with ⟨h5183, h⟩ | ⟨h5183, h⟩
  ·obtain ⟨h5184, h⟩ := ifn h
   have e5185 := (show Xt Try.prog 3 (x5.toNat * 1) (List.map vi a0) = some (vi (a0.getD x5.toNat 0)) from Qkl ag3 vi a0 0 h5184 (by omega))
   obtain ⟨h5186, h⟩ := ifn h
   have e5187 := (show Xt Try.prog 3 (x5.toNat * 1) (List.map vi a1) = some (vi (a1.getD x5.toNat 0)) from Qkl ag3 vi a1 0 h5186 (by omega))
   have e5188 := (ti (ti (an h5184 (an e5185 (ti (ti (an h5186 (an e5187 (ti tt)))))))))
   rcases ifs h with ⟨h5189, h⟩ | ⟨h5189, h⟩
   ·have h2 := ih _ _ h
    obtain ⟨q, hv, hq⟩ := pkR (rd := none) (P := Try.prog) (fn := Try.f15) (k := 0) (s := (Qap a0 a1 x5)) (ans := [.reg (nN 4 []), .br true, .reg (nN 3 (.v (vi (a0.getD x5.toNat 0)) :: nN 3 (.v (vi (a1.getD x5.toNat 0)) :: .n :: []))), .br false, .reg (nN 3 [])]) (c := ⟨[(0, none), (1, none), (5, none)], [], []⟩) (e := .normal) (s1 := (Qap a0 a1 (w64 (x5 + 1)))) (an (an (an (ti (ti (ti (ti tt)))) (an (dt h5183) tt)) (an (an e5188 (an (Qm (dt h5189)) tt)) (ti (ti (ti tt))))) (ti tt)) (by kernel_rfl)
    cases r with
    | inl r => exact Qz pm pn hv hq h2
    | inr r =>
     exact Qz pm pn hv hq h2
   ·injection h with h; subst h
    exact Q5 (c := ⟨[(4, none)], [], []⟩) (s1 := (Qb1 a0 a1 ())) pm pn (ans := [.reg (nN 4 []), .br true, .reg (nN 3 (.v (vi (a0.getD x5.toNat 0)) :: nN 3 (.v (vi (a1.getD x5.toNat 0)) :: .n :: []))), .br true, .reg (.n :: [])]) (by kernel_rfl) (by intro e; cases e) (an (an (an (ti (ti (ti (ti tt)))) (an (dt h5183) tt)) (an e5188 (an (Za (df h5189)) (an (ti tt) tt)))) (ti tt))
  ·injection h with h; subst h
   exact Q5 (c := ⟨[], [], []⟩) (s1 := (Qb2 a0 a1 ())) pm pn (ans := [.reg (nN 4 []), .br false]) (by kernel_rfl) (by intro e; cases e) (an (an (ti (ti (ti (ti tt)))) (an (df h5183) tt)) (ti tt))
def Qef (k : Nat) (a0 : (List Int)) (a1 : (List Int)) : Option Bool :=
 if (a0.length : Int) = (a1.length : Int) then ((Wp k a0 a1 k 0).bind fun r5191 => (match r5191 with | .inl r5192 => (some false) | .inr r5193 => (some true))) else (some false)
theorem Qht (k : Nat) (a0 : (List Int)) (a1 : (List Int)) (r : Bool) (h : Qef k a0 a1 = some r) : VC Try.prog 15 [VV.tr (List.map vi a0) a0.length, VV.tr (List.map vi a1) a1.length] (vb r) := by
 unfold Qef at h
 rcases ifs h with ⟨h5168, h⟩ | ⟨h5168, h⟩
 ·obtain ⟨r5191, h5190, h⟩ := bs h
  have hph5190 := Qf4 k a0 a1 _ _ _ h5190
  cases r5191 with
  | inl r5192 =>
   dsimp only at h
   have e5194 := (an (ti tt) (VRun.loop hph5190))
   injection h with h; subst h
   exact Qw pm pn Try.func15 (r0 := vb false) (ans := [.reg (.n :: []), .reg (nN 5 []), .br false, .reg (.n :: []), .sub ⟨[(0, none), (1, none), (5, none)], [], []⟩ .ret (Qb1 a0 a1 r5192)]) (fr := true) (by kernel_rfl) (an (an (ti tt) (an (an (ti (ti (ti (ti (ti tt))))) (an (Qm (dt h5168)) tt)) (an (ti tt) e5194))) (ti tt)) (Wv.refl _)
  | inr r5193 =>
   dsimp only at h
   have e5195 := (an (ti tt) (VRun.loop hph5190))
   injection h with h; subst h
   exact Qw pm pn Try.func15 (r0 := vb true) (ans := [.reg (.n :: []), .reg (nN 5 []), .br false, .reg (.n :: []), .sub ⟨[(0, none), (1, none), (5, none)], [], []⟩ (.exit 0) (Qb2 a0 a1 r5193), .reg (.n :: [])]) (fr := true) (by kernel_rfl) (an (an (ti tt) (an (an (ti (ti (ti (ti (ti tt))))) (an (Qm (dt h5168)) tt)) (an (an (ti tt) e5195) (an (ti tt) tt)))) (ti tt)) (Wv.refl _)
 ·injection h with h; subst h
  exact Qw pm pn Try.func15 (r0 := vb false) (ans := [.reg (.n :: []), .reg (nN 5 []), .br true, .reg (.n :: [])]) (fr := true) (by kernel_rfl) (an (an (ti tt) (an (ti (ti (ti (ti (ti tt))))) (an (Za (df h5168)) (an (ti tt) tt)))) (ti tt)) (Wv.refl _)
theorem Q0o (z0 : ((List Int) × (List Int) × Int)) : [VV.tr (List.map vi z0.1) z0.1.length, VV.tr (List.map vi ([0, 180, 230] : List Int)) (([0, 180, 230] : List Int).length)] = [VV.tr (List.map vi z0.1) z0.1.length, VV.tr [vi 0, vi 180, vi 230] 3] := by first | rfl | (simp only [Zi, map_cons, map_nil, un_i, Qae, length_map, length_cons, length_nil]; done) | (simp only [Zi, map_cons, map_nil, un_i, Qae, length_map, length_cons, length_nil]; rfl) | (simp only [Zi, map_cons, map_nil, un_i, Qae, length_map, length_cons, length_nil, length_cons, length_nil, length_append]; done)
def Qp6 (z0 : Zt) (z1 : ((List Int) × (List Int) × Int)) : List Ans := (.call (VV.ag (Xg z0)) :: .call (VV.tu [VV.fr (List.map vi z1.1) z1.1.length, VV.fr (List.map vi z1.2.1) z1.2.1.length, vi z1.2.2]) :: nN 7 [])
def Qbn (k : Nat)  : Option Bool :=
 (Qdb k ([] : (List Zc))).bind fun r5203 => ((Qfv k r5203).bind fun r5206 => (if r5206.2.2 = 0 then ((Qef k r5206.1 ([0, 180, 230] : List Int)).bind fun r5210 => (if r5210 = true then (some (decide ((r5206.2.1.length : Int) = 0))) else (some false))) else (some false)))
theorem Qhn (k : Nat)  (r : Bool) (h : Qbn k  = some r) : VC Try.prog 4 [] (vb r) := by
 unfold Qbn at h
 obtain ⟨r5203, h5204, h⟩ := bs h
 have e5205 := (show VC Try.prog 14 [VV.c (.slice none 0 0)] (VV.ag (Xg r5203)) from (VC.Qp7 (Qgg k ([] : (List Zc)) _ h5204) (fun h => WvL.rl (.cons (Wv.nil (k := 0)) .nil) h)))
 obtain ⟨r5206, h5207, h⟩ := bs h
 have e5208 := (an e5205 (an (Qje k r5203 _ h5207) (ti (ti (ti (ti (ti (ti (ti tt)))))))))
 rcases ifs h with ⟨h5209, h⟩ | ⟨h5209, h⟩
 ·obtain ⟨r5210, h5211, h⟩ := bs h
  have e5212 := (an (dt h5209) (VC.args (Qht k r5206.1 ([0, 180, 230] : List Int) _ h5211) (Q0o r5206)))
  rcases ifs h with ⟨h5213, h⟩ | ⟨h5213, h⟩
  ·have e5214 := (ti (ti (ti (an (an (dt h5209) tt) (an (an (dt h5209) tt) (an e5212 (an (dt h5209) (ti (an (an h5213 tt) (an (an h5213 tt) (an (an h5213 tt) (an h5213 (ti tt)))))))))))))
   injection h with h; subst h
   exact Qw pm pn Try.func4 (r0 := vb (decide ((r5206.2.1.length : Int) = 0))) (ans := [.reg (.n :: []), .reg (Qp6 r5203 r5206), .reg (nN 4 (.v VV.any :: .call (vb r5210) :: .b true :: nN 4 (.b true :: .n :: [])))]) (fr := true) (by kernel_rfl) (an (an (ti tt) (an e5208 (an e5214 tt))) (ti tt)) (Wv.refl _)
  ·have e5215 := (ti (ti (ti (an (an (dt h5209) tt) (an (an (dt h5209) tt) (an e5212 (an (dt h5209) (ti (an (Zk h5213) (an (Zk h5213) (an (Zk h5213) (an (Zk h5213) (ti tt)))))))))))))
   injection h with h; subst h
   exact Qw pm pn Try.func4 (r0 := vb false) (ans := [.reg (.n :: []), .reg (Qp6 r5203 r5206), .reg (nN 4 (.v VV.any :: .call (vb r5210) :: .b true :: .n :: nS 3 (.b false :: .n :: [])))]) (fr := true) (by kernel_rfl) (an (an (ti tt) (an e5208 (an e5215 tt))) (ti tt)) (Wv.refl _)
 ·have e5216 := (ti (ti (ti (an (df h5209) (an (df h5209) (an (df h5209) (an (df h5209) (ti (an rf (an rf (an rf (an rf (ti tt)))))))))))))
  injection h with h; subst h
  exact Qw pm pn Try.func4 (r0 := vb false) (ans := [.reg (.n :: []), .reg (Qp6 r5203 r5206), .reg (nN 3 (nS 3 (.b false :: .n :: nS 3 (.b false :: .n :: []))))]) (fr := true) (by kernel_rfl) (an (an (ti tt) (an e5208 (an e5216 tt))) (ti tt)) (Wv.refl _)
end Go.Proofs.Ytmaegladkjcmdaa.Vg

import Derived.Test.YtfeedchjdnedjaaSV
namespace Go.Proofs.Ytfeedchjdnedjaa.Vg
set_option maxRecDepth 100000
set_option maxHeartbeats 4000000
set_option linter.unusedVariables false
set_option linter.unusedSimpArgs false
open Go Go.Proofs.Ytfeedchjdnedjaa.Ev Go.Proofs.Ytfeedchjdnedjaa.Vv
open List (flatMap length_cons length_nil length_map length_append map_cons map_nil length_replicate)
structure Qd where
 Name : ByteArray
 Diameter : Int
 Thick : Int
 Count : Int
 deriving Inhabited
def Qc (x : Qd) : List VV := [vs x.Name, vi x.Diameter, vi x.Thick, vi x.Count]
theorem Zg (x : Qd) : (Qc x).length = 4 := rfl
theorem Qfq (xs : List Qd) : (xs.flatMap Qc).all VV.still = true := Qf7 (fun _ => rfl) xs
theorem Qf8 (xs : List Qd) : (xs.flatMap Qc).all new0 = true := Qf7 (fun _ => rfl) xs
theorem Zb (xs : List Qd) : (xs.flatMap Qc).map unfr = xs.flatMap Qc := Qmh (fun _ => rfl) xs
structure Qb where
 Mirror : ByteArray
 Batch : ByteArray
 deriving Inhabited
def Qa (x : Qb) : List VV := [vs x.Mirror, vs x.Batch]
theorem Qj (x : Qb) : (Qa x).length = 2 := rfl
theorem Yc (xs : List Qb) : (xs.flatMap Qa).all VV.still = true := Qf7 (fun _ => rfl) xs
theorem Qfr (xs : List Qb) : (xs.flatMap Qa).all VV.isC = true := Qf7 (fun _ => rfl) xs
theorem Wu (xs : List Qb) : (xs.flatMap Qa).all new0 = true := Qf7 (fun _ => rfl) xs
theorem Qk (xs : List Qb) : (xs.flatMap Qa).map unfr = xs.flatMap Qa := Qmh (fun _ => rfl) xs
theorem ag3 : Qaq Try.prog 3 = some false := by kernel_rfl
theorem ag4 : Qaq Try.prog 4 = some false := by kernel_rfl
theorem ag9 : Qaq Try.prog 9 = some false := by kernel_rfl
theorem ag22 : Qaq Try.prog 22 = some false := by kernel_rfl
theorem ag30 : Qaq Try.prog 30 = some false := by kernel_rfl
theorem ag67 : Qaq Try.prog 67 = some true := by kernel_rfl
theorem sz67 : szOf Try.prog 67 = some 4 := by kernel_rfl
theorem Qkn : Qaq Try.prog 106 = some false := by kernel_rfl
def Qhf (z0 : (List Qb)) (z1 : Int) : List Ans := (nN 4 (.v (vs ((z0.getD z1.toNat default).Mirror)) :: nN 7 (.v (vs ((z0.getD z1.toNat default).Batch)) :: .n :: .n :: .b false :: [])))
def Qyt  : List Ans := (nN 7 (.b true :: .n :: nS 3 (.b true :: .n :: nS 8 (.b true :: .n :: nS 3 (.b true :: [])))))
def Qyu  : List Ans := (nN 7 (.b true :: nN 4 (.b false :: nN 8 (.b true :: .b false :: .n :: nS 3 (.b true :: [])))))
def Qo7  : List Ans := (nN 7 (.b true :: nN 4 (.b false :: nN 8 (.b true :: .b false :: nN 4 (.b false :: [])))))
def Jk (a0 : (List Qd)) (a1 : (List Qb)) (x5 : Int) : VS := ⟨mkA [(0, VV.tr (flatMap Qc a0) a0.length), (1, VV.tr (flatMap Qa a1) a1.length), (5, vi x5)], [], .nil⟩
def Yq (a0 : (List Qd)) (a1 : (List Qb)) (r : Unit) : VS := ⟨mkA [(4, vb false)], [], .nil⟩
def Ja (a0 : (List Qd)) (a1 : (List Qb)) (r : Unit) : VS := ⟨mkA [(1, VV.tr (flatMap Qa a1) a1.length)], [], .nil⟩
def Zr (k : Nat) (a0 : (List Qd)) (a1 : (List Qb)) : Nat -> Int -> Option (Sum Unit Unit)
 | 0, _ => none
 | fuel + 1, x5 => if x5 < (a0.length : Int) then (if 0 <= x5 /\ x5 < (a0.length : Int) then (if 30 < (((a0.getD x5.toNat default).Name).size : Int) then (some (.inl ())) else (Zr k a0 a1 fuel (w64 (x5 + 1)))) else none) else (some (.inr ()))
theorem Qck (k : Nat) (a0 : (List Qd)) (a1 : (List Qb)) : ∀ (fuel : Nat) (x5 : Int) (r : Sum Unit Unit), Zr k a0 a1 fuel x5 = some r -> (match r with | .inl r => Ya none Try.prog (szF Try.f5) (X9 Try.f5 0) (Jk a0 a1 x5) .ret (Yq a0 a1 r) | .inr r => Ya none Try.prog (szF Try.f5) (X9 Try.f5 0) (Jk a0 a1 x5) (.exit 0) (Ja a0 a1 r)) := by
 intro fuel
 induction fuel with
 | zero => intro x5 r h; rw [Zr.eq_1] at h; cases h
 | succ fuel ih =>
  intro x5 r h
  rw [Zr.eq_2] at h
  rcases ifs h with ⟨h351, h⟩ | ⟨h351, h⟩
  ·obtain ⟨h352, h⟩ := ifn h
   have e353 := (show Jw Try.prog 9 (x5.toNat * 4 + 0) (flatMap Qc a0) = some (vs ((a0.getD x5.toNat default).Name)) from (Yh ag9 Qc 4 0 Zg (by omega) a0 default h352 (by omega)).trans rfl)
   have e354 := (ti (ti (an h352 (ti (an e353 (ti (ti tt)))))))
   rcases ifs h with ⟨h355, h⟩ | ⟨h355, h⟩
   ·injection h with h; subst h
    exact Qq (c := ⟨[(4, none)], [], []⟩) (s1 := (Yq a0 a1 ())) pm pn (ans := [.reg (nN 4 []), .br true, .reg (nN 4 (.v (vs ((a0.getD x5.toNat default).Name)) :: .n :: .n :: [])), .br true, .reg (.n :: [])]) (by kernel_rfl) (by intro e; cases e) (an (an (an (ti (ti (ti (ti tt)))) (an (dt h351) tt)) (an e354 (an (dt h355) (an (ti tt) tt)))) (ti tt))
   ·have h2 := ih _ _ h
    obtain ⟨q, hv, hq⟩ := pkR (rd := none) (P := Try.prog) (fn := Try.f5) (k := 0) (s := (Jk a0 a1 x5)) (ans := [.reg (nN 4 []), .br true, .reg (nN 4 (.v (vs ((a0.getD x5.toNat default).Name)) :: .n :: .n :: [])), .br false, .reg (nN 3 [])]) (c := ⟨[(0, none), (1, none), (5, none)], [], []⟩) (e := .normal) (s1 := (Jk a0 a1 (w64 (x5 + 1)))) (an (an (an (ti (ti (ti (ti tt)))) (an (dt h351) tt)) (an (an e354 (an (df h355) tt)) (ti (ti (ti tt))))) (ti tt)) (by kernel_rfl)
    cases r with
    | inl r => exact Qp pm pn hv hq h2
    | inr r =>
     exact Qp pm pn hv hq h2
  ·injection h with h; subst h
   exact Qq (c := ⟨[(1, none)], [], []⟩) (s1 := (Ja a0 a1 ())) pm pn (ans := [.reg (nN 4 []), .br false]) (by kernel_rfl) (by intro e; cases e) (an (an (ti (ti (ti (ti tt)))) (an (df h351) tt)) (ti tt))
def Jl (a1 : (List Qb)) (x6 : Int) : VS := ⟨mkA [(1, VV.tr (flatMap Qa a1) a1.length), (6, vi x6)], [], .nil⟩
def Jb (a1 : (List Qb)) (r : Unit) : VS := ⟨mkA [(4, vb false)], [], .nil⟩
def Yr (a1 : (List Qb)) (r : Unit) : VS := ⟨mkA [], [], .nil⟩
def Zt (k : Nat) (a1 : (List Qb)) : Nat -> Int -> Option (Sum Unit Unit)
 | 0, _ => none
 | fuel + 1, x6 => if x6 < (a1.length : Int) then (if 0 <= x6 /\ x6 < (a1.length : Int) then (if 30 < (((a1.getD x6.toNat default).Mirror).size : Int) then (some (.inl ())) else (if 30 < (((a1.getD x6.toNat default).Batch).size : Int) then (some (.inl ())) else (Zt k a1 fuel (w64 (x6 + 1))))) else none) else (some (.inr ()))
theorem Qcl (k : Nat) (a1 : (List Qb)) : ∀ (fuel : Nat) (x6 : Int) (r : Sum Unit Unit), Zt k a1 fuel x6 = some r -> (match r with | .inl r => Ya none Try.prog (szF Try.f5) (X9 Try.f5 1) (Jl a1 x6) .ret (Jb a1 r) | .inr r => Ya none Try.prog (szF Try.f5) (X9 Try.f5 1) (Jl a1 x6) (.exit 2) (Yr a1 r)) := by
 intro fuel
 induction fuel with
 | zero => intro x6 r h; rw [Zt.eq_1] at h; cases h
 | succ fuel ih =>
  intro x6 r h
  rw [Zt.eq_2] at h
  rcases ifs h with ⟨h378, h⟩ | ⟨h378, h⟩
  ·obtain ⟨h379, h⟩ := ifn h
   have e380 := (show Jw Try.prog 9 (x6.toNat * 2 + 0) (flatMap Qa a1) = some (vs ((a1.getD x6.toNat default).Mirror)) from (Yh ag9 Qa 2 0 Qj (by omega) a1 default h379 (by omega)).trans rfl)
   rcases ifs h with ⟨h381, h⟩ | ⟨h381, h⟩
   ·have e382 := (ti (ti (an h379 (ti (an e380 (ti (ti (ti (an (dt h381) (an (dt h381) (an (dt h381) (an (dt h381) (an (dt h381) (an (dt h381) (an (dt h381) (an (dt h381) tt))))))))))))))))
    injection h with h; subst h
    exact Qq (c := ⟨[(4, none)], [], []⟩) (s1 := (Jb a1 ())) pm pn (ans := [.reg (nN 4 []), .br true, .reg (nN 4 (.v (vs ((a1.getD x6.toNat default).Mirror)) :: nN 3 (nS 7 (.b true :: [])))), .br true, .reg (.n :: [])]) (by kernel_rfl) (by intro e; cases e) (an (an (an (ti (ti (ti (ti tt)))) (an (dt h378) tt)) (an e382 (an rt (an (ti tt) tt)))) (ti tt))
   ·have e383 := (an (df h381) (show Jw Try.prog 9 (x6.toNat * 2 + 1) (flatMap Qa a1) = some (vs ((a1.getD x6.toNat default).Batch)) from (Yh ag9 Qa 2 1 Qj (by omega) a1 default h379 (by omega)).trans rfl))
    have e384 := (ti (ti (an h379 (ti (an e380 (ti (ti (ti (an (an (df h381) tt) (an (an (df h381) tt) (an (an (df h381) h379) (an (an (df h381) tt) (an e383 (an (an (df h381) tt) (an (an (df h381) tt) (an (df h381) tt))))))))))))))))
    rcases ifs h with ⟨h385, h⟩ | ⟨h385, h⟩
    ·injection h with h; subst h
     exact Qq (c := ⟨[(4, none)], [], []⟩) (s1 := (Jb a1 ())) pm pn (ans := [.reg (nN 4 []), .br true, .reg (Qhf a1 x6), .br true, .reg (.n :: [])]) (by kernel_rfl) (by intro e; cases e) (an (an (an (ti (ti (ti (ti tt)))) (an (dt h378) tt)) (an e384 (an (dt h385) (an (ti tt) tt)))) (ti tt))
    ·have h2 := ih _ _ h
     obtain ⟨q, hv, hq⟩ := pkR (rd := none) (P := Try.prog) (fn := Try.f5) (k := 1) (s := (Jl a1 x6)) (ans := [.reg (nN 4 []), .br true, .reg (Qhf a1 x6), .br false, .reg (nN 3 [])]) (c := ⟨[(1, none), (6, none)], [], []⟩) (e := .normal) (s1 := (Jl a1 (w64 (x6 + 1)))) (an (an (an (ti (ti (ti (ti tt)))) (an (dt h378) tt)) (an (an e384 (an (df h385) tt)) (ti (ti (ti tt))))) (ti tt)) (by kernel_rfl)
     cases r with
     | inl r => exact Qp pm pn hv hq h2
     | inr r =>
      exact Qp pm pn hv hq h2
  ·injection h with h; subst h
   exact Qq (c := ⟨[], [], []⟩) (s1 := (Yr a1 ())) pm pn (ans := [.reg (nN 4 []), .br false]) (by kernel_rfl) (by intro e; cases e) (an (an (ti (ti (ti (ti tt)))) (an (df h378) tt)) (ti tt))
def Qo8  : List Ans := (nN 7 (.b true :: nN 4 (.b false :: nN 5 (nS 3 (.b false :: .b false :: nN 4 (.b false :: []))))))
def Jm (a0 : (List Qd)) (a1 : (List Qb)) (x5 : Int) : VS := ⟨mkA [(0, VV.tr (flatMap Qc a0) a0.length), (1, VV.tr (flatMap Qa a1) a1.length), (5, vi x5)], [], .nil⟩
def Yt (a0 : (List Qd)) (a1 : (List Qb)) (r : Unit) : VS := ⟨mkA [(4, vb false)], [], .nil⟩
def Jc (a0 : (List Qd)) (a1 : (List Qb)) (r : Unit) : VS := ⟨mkA [(1, VV.tr (flatMap Qa a1) a1.length)], [], .nil⟩
def Zu (k : Nat) (a0 : (List Qd)) (a1 : (List Qb)) : Nat -> Int -> Option (Sum Unit Unit)
 | 0, _ => none
 | fuel + 1, x5 => if x5 < (a0.length : Int) then (if 0 <= x5 /\ x5 < (a0.length : Int) then (if 30 < (((a0.getD x5.toNat default).Name).size : Int) then (some (.inl ())) else (Zu k a0 a1 fuel (w64 (x5 + 1)))) else none) else (some (.inr ()))
theorem Qcm (k : Nat) (a0 : (List Qd)) (a1 : (List Qb)) : ∀ (fuel : Nat) (x5 : Int) (r : Sum Unit Unit), Zu k a0 a1 fuel x5 = some r -> (match r with | .inl r => Ya none Try.prog (szF Try.f5) (X9 Try.f5 0) (Jm a0 a1 x5) .ret (Yt a0 a1 r) | .inr r => Ya none Try.prog (szF Try.f5) (X9 Try.f5 0) (Jm a0 a1 x5) (.exit 0) (Jc a0 a1 r)) := by
 intro fuel
 induction fuel with
 | zero => intro x5 r h; rw [Zu.eq_1] at h; cases h
 | succ fuel ih =>
  intro x5 r h
  rw [Zu.eq_2] at h
  rcases ifs h with ⟨h405, h⟩ | ⟨h405, h⟩
  ·obtain ⟨h406, h⟩ := ifn h
   have e407 := (show Jw Try.prog 9 (x5.toNat * 4 + 0) (flatMap Qc a0) = some (vs ((a0.getD x5.toNat default).Name)) from (Yh ag9 Qc 4 0 Zg (by omega) a0 default h406 (by omega)).trans rfl)
   have e408 := (ti (ti (an h406 (ti (an e407 (ti (ti tt)))))))
   rcases ifs h with ⟨h409, h⟩ | ⟨h409, h⟩
   ·injection h with h; subst h
    exact Qq (c := ⟨[(4, none)], [], []⟩) (s1 := (Yt a0 a1 ())) pm pn (ans := [.reg (nN 4 []), .br true, .reg (nN 4 (.v (vs ((a0.getD x5.toNat default).Name)) :: .n :: .n :: [])), .br true, .reg (.n :: [])]) (by kernel_rfl) (by intro e; cases e) (an (an (an (ti (ti (ti (ti tt)))) (an (dt h405) tt)) (an e408 (an (dt h409) (an (ti tt) tt)))) (ti tt))
   ·have h2 := ih _ _ h
    obtain ⟨q, hv, hq⟩ := pkR (rd := none) (P := Try.prog) (fn := Try.f5) (k := 0) (s := (Jm a0 a1 x5)) (ans := [.reg (nN 4 []), .br true, .reg (nN 4 (.v (vs ((a0.getD x5.toNat default).Name)) :: .n :: .n :: [])), .br false, .reg (nN 3 [])]) (c := ⟨[(0, none), (1, none), (5, none)], [], []⟩) (e := .normal) (s1 := (Jm a0 a1 (w64 (x5 + 1)))) (an (an (an (ti (ti (ti (ti tt)))) (an (dt h405) tt)) (an (an e408 (an (df h409) tt)) (ti (ti (ti tt))))) (ti tt)) (by kernel_rfl)
    cases r with
    | inl r => exact Qp pm pn hv hq h2
    | inr r =>
     exact Qp pm pn hv hq h2
  ·injection h with h; subst h
   exact Qq (c := ⟨[(1, none)], [], []⟩) (s1 := (Jc a0 a1 ())) pm pn (ans := [.reg (nN 4 []), .br false]) (by kernel_rfl) (by intro e; cases e) (an (an (ti (ti (ti (ti tt)))) (an (df h405) tt)) (ti tt))
def Jo (a1 : (List Qb)) (x6 : Int) : VS := ⟨mkA [(1, VV.tr (flatMap Qa a1) a1.length), (6, vi x6)], [], .nil⟩
def Jd (a1 : (List Qb)) (r : Unit) : VS := ⟨mkA [(4, vb false)], [], .nil⟩
def Yu (a1 : (List Qb)) (r : Unit) : VS := ⟨mkA [], [], .nil⟩
def Zv (k : Nat) (a1 : (List Qb)) : Nat -> Int -> Option (Sum Unit Unit)
 | 0, _ => none
 | fuel + 1, x6 => if x6 < (a1.length : Int) then (if 0 <= x6 /\ x6 < (a1.length : Int) then (if 30 < (((a1.getD x6.toNat default).Mirror).size : Int) then (some (.inl ())) else (if 30 < (((a1.getD x6.toNat default).Batch).size : Int) then (some (.inl ())) else (Zv k a1 fuel (w64 (x6 + 1))))) else none) else (some (.inr ()))
theorem Qcn (k : Nat) (a1 : (List Qb)) : ∀ (fuel : Nat) (x6 : Int) (r : Sum Unit Unit), Zv k a1 fuel x6 = some r -> (match r with | .inl r => Ya none Try.prog (szF Try.f5) (X9 Try.f5 1) (Jo a1 x6) .ret (Jd a1 r) | .inr r => Ya none Try.prog (szF Try.f5) (X9 Try.f5 1) (Jo a1 x6) (.exit 2) (Yu a1 r)) := by
 intro fuel
 induction fuel with
 | zero => intro x6 r h; rw [Zv.eq_1] at h; cases h
 | succ fuel ih =>
  intro x6 r h
  rw [Zv.eq_2] at h
  rcases ifs h with ⟨h432, h⟩ | ⟨h432, h⟩
  ·obtain ⟨h433, h⟩ := ifn h
   have e434 := (show Jw Try.prog 9 (x6.toNat * 2 + 0) (flatMap Qa a1) = some (vs ((a1.getD x6.toNat default).Mirror)) from (Yh ag9 Qa 2 0 Qj (by omega) a1 default h433 (by omega)).trans rfl)
   rcases ifs h with ⟨h435, h⟩ | ⟨h435, h⟩
   ·have e436 := (ti (ti (an h433 (ti (an e434 (ti (ti (ti (an (dt h435) (an (dt h435) (an (dt h435) (an (dt h435) (an (dt h435) (an (dt h435) (an (dt h435) (an (dt h435) tt))))))))))))))))
    injection h with h; subst h
    exact Qq (c := ⟨[(4, none)], [], []⟩) (s1 := (Jd a1 ())) pm pn (ans := [.reg (nN 4 []), .br true, .reg (nN 4 (.v (vs ((a1.getD x6.toNat default).Mirror)) :: nN 3 (nS 7 (.b true :: [])))), .br true, .reg (.n :: [])]) (by kernel_rfl) (by intro e; cases e) (an (an (an (ti (ti (ti (ti tt)))) (an (dt h432) tt)) (an e436 (an rt (an (ti tt) tt)))) (ti tt))
   ·have e437 := (an (df h435) (show Jw Try.prog 9 (x6.toNat * 2 + 1) (flatMap Qa a1) = some (vs ((a1.getD x6.toNat default).Batch)) from (Yh ag9 Qa 2 1 Qj (by omega) a1 default h433 (by omega)).trans rfl))
    have e438 := (ti (ti (an h433 (ti (an e434 (ti (ti (ti (an (an (df h435) tt) (an (an (df h435) tt) (an (an (df h435) h433) (an (an (df h435) tt) (an e437 (an (an (df h435) tt) (an (an (df h435) tt) (an (df h435) tt))))))))))))))))
    rcases ifs h with ⟨h439, h⟩ | ⟨h439, h⟩
    ·injection h with h; subst h
     exact Qq (c := ⟨[(4, none)], [], []⟩) (s1 := (Jd a1 ())) pm pn (ans := [.reg (nN 4 []), .br true, .reg (Qhf a1 x6), .br true, .reg (.n :: [])]) (by kernel_rfl) (by intro e; cases e) (an (an (an (ti (ti (ti (ti tt)))) (an (dt h432) tt)) (an e438 (an (dt h439) (an (ti tt) tt)))) (ti tt))
    ·have h2 := ih _ _ h
     obtain ⟨q, hv, hq⟩ := pkR (rd := none) (P := Try.prog) (fn := Try.f5) (k := 1) (s := (Jo a1 x6)) (ans := [.reg (nN 4 []), .br true, .reg (Qhf a1 x6), .br false, .reg (nN 3 [])]) (c := ⟨[(1, none), (6, none)], [], []⟩) (e := .normal) (s1 := (Jo a1 (w64 (x6 + 1)))) (an (an (an (ti (ti (ti (ti tt)))) (an (dt h432) tt)) (an (an e438 (an (df h439) tt)) (ti (ti (ti tt))))) (ti tt)) (by kernel_rfl)
     cases r with
     | inl r => exact Qp pm pn hv hq h2
     | inr r =>
      exact Qp pm pn hv hq h2
  ·injection h with h; subst h
   exact Qq (c := ⟨[], [], []⟩) (s1 := (Yu a1 ())) pm pn (ans := [.reg (nN 4 []), .br false]) (by kernel_rfl) (by intro e; cases e) (an (an (ti (ti (ti (ti tt)))) (an (df h432) tt)) (ti tt))
def Qyv  : List Ans := (nN 4 (nS 3 (.b false :: nN 4 (.b false :: .n :: nS 8 (.b true :: .n :: nS 3 (.b true :: []))))))
def Qyw  : List Ans := (nN 4 (nS 3 (.b false :: nN 4 (.b false :: nN 8 (.b true :: .b false :: .n :: nS 3 (.b true :: []))))))
def Qo9  : List Ans := (nN 4 (nS 3 (.b false :: nN 4 (.b false :: nN 8 (.b true :: .b false :: nN 4 (.b false :: []))))))
def Jp (a0 : (List Qd)) (a1 : (List Qb)) (x5 : Int) : VS := ⟨mkA [(0, VV.tr (flatMap Qc a0) a0.length), (1, VV.tr (flatMap Qa a1) a1.length), (5, vi x5)], [], .nil⟩
def Yv (a0 : (List Qd)) (a1 : (List Qb)) (r : Unit) : VS := ⟨mkA [(4, vb false)], [], .nil⟩
def Je (a0 : (List Qd)) (a1 : (List Qb)) (r : Unit) : VS := ⟨mkA [(1, VV.tr (flatMap Qa a1) a1.length)], [], .nil⟩
def Zw (k : Nat) (a0 : (List Qd)) (a1 : (List Qb)) : Nat -> Int -> Option (Sum Unit Unit)
 | 0, _ => none
 | fuel + 1, x5 => if x5 < (a0.length : Int) then (if 0 <= x5 /\ x5 < (a0.length : Int) then (if 30 < (((a0.getD x5.toNat default).Name).size : Int) then (some (.inl ())) else (Zw k a0 a1 fuel (w64 (x5 + 1)))) else none) else (some (.inr ()))
theorem Qco (k : Nat) (a0 : (List Qd)) (a1 : (List Qb)) : ∀ (fuel : Nat) (x5 : Int) (r : Sum Unit Unit), Zw k a0 a1 fuel x5 = some r -> (match r with | .inl r => Ya none Try.prog (szF Try.f5) (X9 Try.f5 0) (Jp a0 a1 x5) .ret (Yv a0 a1 r) | .inr r => Ya none Try.prog (szF Try.f5) (X9 Try.f5 0) (Jp a0 a1 x5) (.exit 0) (Je a0 a1 r)) := by
 intro fuel
 induction fuel with
 | zero => intro x5 r h; rw [Zw.eq_1] at h; cases h
 | succ fuel ih =>
  intro x5 r h
  rw [Zw.eq_2] at h
  rcases ifs h with ⟨h464, h⟩ | ⟨h464, h⟩
  ·obtain ⟨h465, h⟩ := ifn h
   have e466 := (show Jw Try.prog 9 (x5.toNat * 4 + 0) (flatMap Qc a0) = some (vs ((a0.getD x5.toNat default).Name)) from (Yh ag9 Qc 4 0 Zg (by omega) a0 default h465 (by omega)).trans rfl)
   have e467 := (ti (ti (an h465 (ti (an e466 (ti (ti tt)))))))
   rcases ifs h with ⟨h468, h⟩ | ⟨h468, h⟩
   ·injection h with h; subst h
    exact Qq (c := ⟨[(4, none)], [], []⟩) (s1 := (Yv a0 a1 ())) pm pn (ans := [.reg (nN 4 []), .br true, .reg (nN 4 (.v (vs ((a0.getD x5.toNat default).Name)) :: .n :: .n :: [])), .br true, .reg (.n :: [])]) (by kernel_rfl) (by intro e; cases e) (an (an (an (ti (ti (ti (ti tt)))) (an (dt h464) tt)) (an e467 (an (dt h468) (an (ti tt) tt)))) (ti tt))
   ·have h2 := ih _ _ h
    obtain ⟨q, hv, hq⟩ := pkR (rd := none) (P := Try.prog) (fn := Try.f5) (k := 0) (s := (Jp a0 a1 x5)) (ans := [.reg (nN 4 []), .br true, .reg (nN 4 (.v (vs ((a0.getD x5.toNat default).Name)) :: .n :: .n :: [])), .br false, .reg (nN 3 [])]) (c := ⟨[(0, none), (1, none), (5, none)], [], []⟩) (e := .normal) (s1 := (Jp a0 a1 (w64 (x5 + 1)))) (an (an (an (ti (ti (ti (ti tt)))) (an (dt h464) tt)) (an (an e467 (an (df h468) tt)) (ti (ti (ti tt))))) (ti tt)) (by kernel_rfl)
    cases r with
    | inl r => exact Qp pm pn hv hq h2
    | inr r =>
     exact Qp pm pn hv hq h2
  ·injection h with h; subst h
   exact Qq (c := ⟨[(1, none)], [], []⟩) (s1 := (Je a0 a1 ())) pm pn (ans := [.reg (nN 4 []), .br false]) (by kernel_rfl) (by intro e; cases e) (an (an (ti (ti (ti (ti tt)))) (an (df h464) tt)) (ti tt))
def Jq (a1 : (List Qb)) (x6 : Int) : VS := ⟨mkA [(1, VV.tr (flatMap Qa a1) a1.length), (6, vi x6)], [], .nil⟩
def Jf (a1 : (List Qb)) (r : Unit) : VS := ⟨mkA [(4, vb false)], [], .nil⟩
def Yw (a1 : (List Qb)) (r : Unit) : VS := ⟨mkA [], [], .nil⟩
def Zx (k : Nat) (a1 : (List Qb)) : Nat -> Int -> Option (Sum Unit Unit)
 | 0, _ => none
 | fuel + 1, x6 => if x6 < (a1.length : Int) then (if 0 <= x6 /\ x6 < (a1.length : Int) then (if 30 < (((a1.getD x6.toNat default).Mirror).size : Int) then (some (.inl ())) else (if 30 < (((a1.getD x6.toNat default).Batch).size : Int) then (some (.inl ())) else (Zx k a1 fuel (w64 (x6 + 1))))) else none) else (some (.inr ()))
theorem Qcp (k : Nat) (a1 : (List Qb)) : ∀ (fuel : Nat) (x6 : Int) (r : Sum Unit Unit), Zx k a1 fuel x6 = some r -> (match r with | .inl r => Ya none Try.prog (szF Try.f5) (X9 Try.f5 1) (Jq a1 x6) .ret (Jf a1 r) | .inr r => Ya none Try.prog (szF Try.f5) (X9 Try.f5 1) (Jq a1 x6) (.exit 2) (Yw a1 r)) := by
 intro fuel
 induction fuel with
 | zero => intro x6 r h; rw [Zx.eq_1] at h; cases h
 | succ fuel ih =>
  intro x6 r h
  rw [Zx.eq_2] at h
  rcases ifs h with ⟨h491, h⟩ | ⟨h491, h⟩
  ·obtain ⟨h492, h⟩ := ifn h
   have e493 := (show Jw Try.prog 9 (x6.toNat * 2 + 0) (flatMap Qa a1) = some (vs ((a1.getD x6.toNat default).Mirror)) from (Yh ag9 Qa 2 0 Qj (by omega) a1 default h492 (by omega)).trans rfl)
   rcases ifs h with ⟨h494, h⟩ | ⟨h494, h⟩
   ·have e495 := (ti (ti (an h492 (ti (an e493 (ti (ti (ti (an (dt h494) (an (dt h494) (an (dt h494) (an (dt h494) (an (dt h494) (an (dt h494) (an (dt h494) (an (dt h494) tt))))))))))))))))
    injection h with h; subst h
    exact Qq (c := ⟨[(4, none)], [], []⟩) (s1 := (Jf a1 ())) pm pn (ans := [.reg (nN 4 []), .br true, .reg (nN 4 (.v (vs ((a1.getD x6.toNat default).Mirror)) :: nN 3 (nS 7 (.b true :: [])))), .br true, .reg (.n :: [])]) (by kernel_rfl) (by intro e; cases e) (an (an (an (ti (ti (ti (ti tt)))) (an (dt h491) tt)) (an e495 (an rt (an (ti tt) tt)))) (ti tt))
   ·have e496 := (an (df h494) (show Jw Try.prog 9 (x6.toNat * 2 + 1) (flatMap Qa a1) = some (vs ((a1.getD x6.toNat default).Batch)) from (Yh ag9 Qa 2 1 Qj (by omega) a1 default h492 (by omega)).trans rfl))
    have e497 := (ti (ti (an h492 (ti (an e493 (ti (ti (ti (an (an (df h494) tt) (an (an (df h494) tt) (an (an (df h494) h492) (an (an (df h494) tt) (an e496 (an (an (df h494) tt) (an (an (df h494) tt) (an (df h494) tt))))))))))))))))
    rcases ifs h with ⟨h498, h⟩ | ⟨h498, h⟩
    ·injection h with h; subst h
     exact Qq (c := ⟨[(4, none)], [], []⟩) (s1 := (Jf a1 ())) pm pn (ans := [.reg (nN 4 []), .br true, .reg (Qhf a1 x6), .br true, .reg (.n :: [])]) (by kernel_rfl) (by intro e; cases e) (an (an (an (ti (ti (ti (ti tt)))) (an (dt h491) tt)) (an e497 (an (dt h498) (an (ti tt) tt)))) (ti tt))
    ·have h2 := ih _ _ h
     obtain ⟨q, hv, hq⟩ := pkR (rd := none) (P := Try.prog) (fn := Try.f5) (k := 1) (s := (Jq a1 x6)) (ans := [.reg (nN 4 []), .br true, .reg (Qhf a1 x6), .br false, .reg (nN 3 [])]) (c := ⟨[(1, none), (6, none)], [], []⟩) (e := .normal) (s1 := (Jq a1 (w64 (x6 + 1)))) (an (an (an (ti (ti (ti (ti tt)))) (an (dt h491) tt)) (an (an e497 (an (df h498) tt)) (ti (ti (ti tt))))) (ti tt)) (by kernel_rfl)
     cases r with
     | inl r => exact Qp pm pn hv hq h2
     | inr r =>
      exact Qp pm pn hv hq h2
  ·injection h with h; subst h
   exact Qq (c := ⟨[], [], []⟩) (s1 := (Yw a1 ())) pm pn (ans := [.reg (nN 4 []), .br false]) (by kernel_rfl) (by intro e; cases e) (an (an (ti (ti (ti (ti tt)))) (an (df h491) tt)) (ti tt))
def Qpa  : List Ans := (nN 4 (nS 3 (.b false :: nN 4 (.b false :: nN 5 (nS 3 (.b false :: .b false :: nN 4 (.b false :: [])))))))
def Jr (a0 : (List Qd)) (a1 : (List Qb)) (x5 : Int) : VS := ⟨mkA [(0, VV.tr (flatMap Qc a0) a0.length), (1, VV.tr (flatMap Qa a1) a1.length), (5, vi x5)], [], .nil⟩
def Yx (a0 : (List Qd)) (a1 : (List Qb)) (r : Unit) : VS := ⟨mkA [(4, vb false)], [], .nil⟩
def Jg (a0 : (List Qd)) (a1 : (List Qb)) (r : Unit) : VS := ⟨mkA [(1, VV.tr (flatMap Qa a1) a1.length)], [], .nil⟩
def Zy (k : Nat) (a0 : (List Qd)) (a1 : (List Qb)) : Nat -> Int -> Option (Sum Unit Unit)
 | 0, _ => none
 | fuel + 1, x5 => if x5 < (a0.length : Int) then (if 0 <= x5 /\ x5 < (a0.length : Int) then (if 30 < (((a0.getD x5.toNat default).Name).size : Int) then (some (.inl ())) else (Zy k a0 a1 fuel (w64 (x5 + 1)))) else none) else (some (.inr ()))
theorem Qcq (k : Nat) (a0 : (List Qd)) (a1 : (List Qb)) : ∀ (fuel : Nat) (x5 : Int) (r : Sum Unit Unit), Zy k a0 a1 fuel x5 = some r -> (match r with | .inl r => Ya none Try.prog (szF Try.f5) (X9 Try.f5 0) (Jr a0 a1 x5) .ret (Yx a0 a1 r) | .inr r => Ya none Try.prog (szF Try.f5) (X9 Try.f5 0) (Jr a0 a1 x5) (.exit 0) (Jg a0 a1 r)) := by
 intro fuel
 induction fuel with
 | zero => intro x5 r h; rw [Zy.eq_1] at h; cases h
 | succ fuel ih =>
  intro x5 r h
  rw [Zy.eq_2] at h
  rcases ifs h with ⟨h518, h⟩ | ⟨h518, h⟩
  ·obtain ⟨h519, h⟩ := ifn h
   have e520 := (show Jw Try.prog 9 (x5.toNat * 4 + 0) (flatMap Qc a0) = some (vs ((a0.getD x5.toNat default).Name)) from (Yh ag9 Qc 4 0 Zg (by omega) a0 default h519 (by omega)).trans rfl)
   have e521 := (ti (ti (an h519 (ti (an e520 (ti (ti tt)))))))
   rcases ifs h with ⟨h522, h⟩ | ⟨h522, h⟩
   ·injection h with h; subst h
    exact Qq (c := ⟨[(4, none)], [], []⟩) (s1 := (Yx a0 a1 ())) pm pn (ans := [.reg (nN 4 []), .br true, .reg (nN 4 (.v (vs ((a0.getD x5.toNat default).Name)) :: .n :: .n :: [])), .br true, .reg (.n :: [])]) (by kernel_rfl) (by intro e; cases e) (an (an (an (ti (ti (ti (ti tt)))) (an (dt h518) tt)) (an e521 (an (dt h522) (an (ti tt) tt)))) (ti tt))
   ·have h2 := ih _ _ h
    obtain ⟨q, hv, hq⟩ := pkR (rd := none) (P := Try.prog) (fn := Try.f5) (k := 0) (s := (Jr a0 a1 x5)) (ans := [.reg (nN 4 []), .br true, .reg (nN 4 (.v (vs ((a0.getD x5.toNat default).Name)) :: .n :: .n :: [])), .br false, .reg (nN 3 [])]) (c := ⟨[(0, none), (1, none), (5, none)], [], []⟩) (e := .normal) (s1 := (Jr a0 a1 (w64 (x5 + 1)))) (an (an (an (ti (ti (ti (ti tt)))) (an (dt h518) tt)) (an (an e521 (an (df h522) tt)) (ti (ti (ti tt))))) (ti tt)) (by kernel_rfl)
    cases r with
    | inl r => exact Qp pm pn hv hq h2
    | inr r =>
     exact Qp pm pn hv hq h2
  ·injection h with h; subst h
   exact Qq (c := ⟨[(1, none)], [], []⟩) (s1 := (Jg a0 a1 ())) pm pn (ans := [.reg (nN 4 []), .br false]) (by kernel_rfl) (by intro e; cases e) (an (an (ti (ti (ti (ti tt)))) (an (df h518) tt)) (ti tt))
def Js (a1 : (List Qb)) (x6 : Int) : VS := ⟨mkA [(1, VV.tr (flatMap Qa a1) a1.length), (6, vi x6)], [], .nil⟩
def Jh (a1 : (List Qb)) (r : Unit) : VS := ⟨mkA [(4, vb false)], [], .nil⟩
def Yy (a1 : (List Qb)) (r : Unit) : VS := ⟨mkA [], [], .nil⟩
def Zz (k : Nat) (a1 : (List Qb)) : Nat -> Int -> Option (Sum Unit Unit)
 | 0, _ => none
 | fuel + 1, x6 => if x6 < (a1.length : Int) then (if 0 <= x6 /\ x6 < (a1.length : Int) then (if 30 < (((a1.getD x6.toNat default).Mirror).size : Int) then (some (.inl ())) else (if 30 < (((a1.getD x6.toNat default).Batch).size : Int) then (some (.inl ())) else (Zz k a1 fuel (w64 (x6 + 1))))) else none) else (some (.inr ()))
theorem Qcr (k : Nat) (a1 : (List Qb)) : ∀ (fuel : Nat) (x6 : Int) (r : Sum Unit Unit), Zz k a1 fuel x6 = some r -> (match r with | .inl r => Ya none Try.prog (szF Try.f5) (X9 Try.f5 1) (Js a1 x6) .ret (Jh a1 r) | .inr r => Ya none Try.prog (szF Try.f5) (X9 Try.f5 1) (Js a1 x6) (.exit 2) (Yy a1 r)) := by
 intro fuel
 induction fuel with
 | zero => intro x6 r h; rw [Zz.eq_1] at h; cases h
 | succ fuel ih =>
  intro x6 r h
  rw [Zz.eq_2] at h
  rcases ifs h with ⟨h545, h⟩ | ⟨h545, h⟩
  ·obtain ⟨h546, h⟩ := ifn h
   have e547 := (show Jw Try.prog 9 (x6.toNat * 2 + 0) (flatMap Qa a1) = some (vs ((a1.getD x6.toNat default).Mirror)) from (Yh ag9 Qa 2 0 Qj (by omega) a1 default h546 (by omega)).trans rfl)
   rcases ifs h with ⟨h548, h⟩ | ⟨h548, h⟩
   ·have e549 := (ti (ti (an h546 (ti (an e547 (ti (ti (ti (an (dt h548) (an (dt h548) (an (dt h548) (an (dt h548) (an (dt h548) (an (dt h548) (an (dt h548) (an (dt h548) tt))))))))))))))))
    injection h with h; subst h
    exact Qq (c := ⟨[(4, none)], [], []⟩) (s1 := (Jh a1 ())) pm pn (ans := [.reg (nN 4 []), .br true, .reg (nN 4 (.v (vs ((a1.getD x6.toNat default).Mirror)) :: nN 3 (nS 7 (.b true :: [])))), .br true, .reg (.n :: [])]) (by kernel_rfl) (by intro e; cases e) (an (an (an (ti (ti (ti (ti tt)))) (an (dt h545) tt)) (an e549 (an rt (an (ti tt) tt)))) (ti tt))
   ·have e550 := (an (df h548) (show Jw Try.prog 9 (x6.toNat * 2 + 1) (flatMap Qa a1) = some (vs ((a1.getD x6.toNat default).Batch)) from (Yh ag9 Qa 2 1 Qj (by omega) a1 default h546 (by omega)).trans rfl))
    have e551 := (ti (ti (an h546 (ti (an e547 (ti (ti (ti (an (an (df h548) tt) (an (an (df h548) tt) (an (an (df h548) h546) (an (an (df h548) tt) (an e550 (an (an (df h548) tt) (an (an (df h548) tt) (an (df h548) tt))))))))))))))))
    rcases ifs h with ⟨h552, h⟩ | ⟨h552, h⟩
    ·injection h with h; subst h
     exact Qq (c := ⟨[(4, none)], [], []⟩) (s1 := (Jh a1 ())) pm pn (ans := [.reg (nN 4 []), .br true, .reg (Qhf a1 x6), .br true, .reg (.n :: [])]) (by kernel_rfl) (by intro e; cases e) (an (an (an (ti (ti (ti (ti tt)))) (an (dt h545) tt)) (an e551 (an (dt h552) (an (ti tt) tt)))) (ti tt))
    ·have h2 := ih _ _ h
     obtain ⟨q, hv, hq⟩ := pkR (rd := none) (P := Try.prog) (fn := Try.f5) (k := 1) (s := (Js a1 x6)) (ans := [.reg (nN 4 []), .br true, .reg (Qhf a1 x6), .br false, .reg (nN 3 [])]) (c := ⟨[(1, none), (6, none)], [], []⟩) (e := .normal) (s1 := (Js a1 (w64 (x6 + 1)))) (an (an (an (ti (ti (ti (ti tt)))) (an (dt h545) tt)) (an (an e551 (an (df h552) tt)) (ti (ti (ti tt))))) (ti tt)) (by kernel_rfl)
     cases r with
     | inl r => exact Qp pm pn hv hq h2
     | inr r =>
      exact Qp pm pn hv hq h2
  ·injection h with h; subst h
   exact Qq (c := ⟨[], [], []⟩) (s1 := (Yy a1 ())) pm pn (ans := [.reg (nN 4 []), .br false]) (by kernel_rfl) (by intro e; cases e) (an (an (ti (ti (ti (ti tt)))) (an (df h545) tt)) (ti tt))
def Yj (k : Nat) (a0 : (List Qd)) (a1 : (List Qb)) : Option Bool :=
 if 6 < (a0.length : Int) then (if (a0.length : Int) <= 40 then (some false) else (if 43 < (a0.length : Int) then (some false) else (if 10 < (a1.length : Int) then (if (a1.length : Int) <= 200 then (some false) else (if 203 < (a1.length : Int) then (some false) else ((Zr k a0 a1 k 0).bind fun r357 => (match r357 with | .inl r358 => (some false) | .inr r359 => ((Zt k a1 k 0).bind fun r387 => (match r387 with | .inl r388 => (some false) | .inr r389 => (some true))))))) else (if 203 < (a1.length : Int) then (some false) else ((Zu k a0 a1 k 0).bind fun r411 => (match r411 with | .inl r412 => (some false) | .inr r413 => ((Zv k a1 k 0).bind fun r441 => (match r441 with | .inl r442 => (some false) | .inr r443 => (some true))))))))) else (if 43 < (a0.length : Int) then (some false) else (if 10 < (a1.length : Int) then (if (a1.length : Int) <= 200 then (some false) else (if 203 < (a1.length : Int) then (some false) else ((Zw k a0 a1 k 0).bind fun r470 => (match r470 with | .inl r471 => (some false) | .inr r472 => ((Zx k a1 k 0).bind fun r500 => (match r500 with | .inl r501 => (some false) | .inr r502 => (some true))))))) else (if 203 < (a1.length : Int) then (some false) else ((Zy k a0 a1 k 0).bind fun r524 => (match r524 with | .inl r525 => (some false) | .inr r526 => ((Zz k a1 k 0).bind fun r554 => (match r554 with | .inl r555 => (some false) | .inr r556 => (some true))))))))
theorem Qd6 (k : Nat) (a0 : (List Qd)) (a1 : (List Qb)) (r : Bool) (h : Yj k a0 a1 = some r) : VC Try.prog 5 [VV.tr (flatMap Qc a0) a0.length, VV.tr (flatMap Qa a1) a1.length] (vb r) := by
 unfold Yj at h
 rcases ifs h with ⟨h330, h⟩ | ⟨h330, h⟩
 ·rcases ifs h with ⟨h331, h⟩ | ⟨h331, h⟩
  ·have e332 := (ti (ti (ti (ti (an (an (dt h330) tt) (an (an (dt h330) tt) (an (an (dt h330) tt) (an (dt h330) (ti (an (dt h331) (an (dt h331) (an (dt h331) (an (dt h331) (ti (an rt (an rt (an rt (an rt (ti (ti (ti (an rt (an rt (ti (an rt (an rt (an rt (an rt tt))))))))))))))))))))))))))))
   injection h with h; subst h
   exact Qo pm pn Try.func5 (r0 := vb false) (ans := [.reg (.n :: []), .reg Qyt, .br true, .reg (.n :: [])]) (fr := true) (by kernel_rfl) (an (an (ti tt) (an e332 (an rt (an (ti tt) tt)))) (ti tt)) (Wv.refl _)
  ·rcases ifs h with ⟨h333, h⟩ | ⟨h333, h⟩
   ·have e334 := (ti (ti (ti (ti (an (an (dt h330) tt) (an (an (dt h330) tt) (an (an (dt h330) tt) (an (dt h330) (ti (an (an (df h331) tt) (an (an (df h331) tt) (an (an (df h331) tt) (an (df h331) (ti (an (dt h333) (an (dt h333) (an (dt h333) (an (dt h333) (ti (ti (ti (an (dt h333) (an (dt h333) (ti (an rt (an rt (an rt (an rt tt))))))))))))))))))))))))))))
    injection h with h; subst h
    exact Qo pm pn Try.func5 (r0 := vb false) (ans := [.reg (.n :: []), .reg (nN 7 (.b true :: nN 4 (.b false :: .n :: nS 8 (.b true :: .n :: nS 3 (.b true :: []))))), .br true, .reg (.n :: [])]) (fr := true) (by kernel_rfl) (an (an (ti tt) (an e334 (an rt (an (ti tt) tt)))) (ti tt)) (Wv.refl _)
   ·rcases ifs h with ⟨h335, h⟩ | ⟨h335, h⟩
    ·have e336 := (an (df h333) (dt h335))
     rcases ifs h with ⟨h337, h⟩ | ⟨h337, h⟩
     ·have e338 := (ti (ti (ti (ti (an (an (dt h330) tt) (an (an (dt h330) tt) (an (an (dt h330) tt) (an (dt h330) (ti (an (an (df h331) tt) (an (an (df h331) tt) (an (an (df h331) tt) (an (df h331) (ti (an (an (df h333) tt) (an (an (df h333) tt) (an (an (df h333) tt) (an (an (df h333) tt) (an (an (dt h335) tt) (an (an (dt h335) tt) (an (an (dt h335) tt) (an e336 (an (df h333) (ti (an (dt h337) (an (dt h337) (an (dt h337) (an (dt h337) tt))))))))))))))))))))))))))))
      injection h with h; subst h
      exact Qo pm pn Try.func5 (r0 := vb false) (ans := [.reg (.n :: []), .reg Qyu, .br true, .reg (.n :: [])]) (fr := true) (by kernel_rfl) (an (an (ti tt) (an e338 (an rt (an (ti tt) tt)))) (ti tt)) (Wv.refl _)
     ·have e339 := (ti (ti (ti (ti (an (an (dt h330) tt) (an (an (dt h330) tt) (an (an (dt h330) tt) (an (dt h330) (ti (an (an (df h331) tt) (an (an (df h331) tt) (an (an (df h331) tt) (an (df h331) (ti (an (an (df h333) tt) (an (an (df h333) tt) (an (an (df h333) tt) (an (an (df h333) tt) (an (an (dt h335) tt) (an (an (dt h335) tt) (an (an (dt h335) tt) (an e336 (an (df h333) (ti (an (an (df h337) tt) (an (an (df h337) tt) (an (an (df h337) tt) (an (df h337) tt))))))))))))))))))))))))))))
      rcases ifs h with ⟨h340, h⟩ | ⟨h340, h⟩
      ·injection h with h; subst h
       exact Qo pm pn Try.func5 (r0 := vb false) (ans := [.reg (.n :: []), .reg Qo7, .br true, .reg (.n :: [])]) (fr := true) (by kernel_rfl) (an (an (ti tt) (an e339 (an (dt h340) (an (ti tt) tt)))) (ti tt)) (Wv.refl _)
      ·obtain ⟨r357, h356, h⟩ := bs h
       have hph356 := Qck k a0 a1 _ _ _ h356
       cases r357 with
       | inl r358 =>
        dsimp only at h
        have e360 := (an (ti tt) (VRun.loop hph356))
        injection h with h; subst h
        exact Qo pm pn Try.func5 (r0 := vb false) (ans := [.reg (.n :: []), .reg Qo7, .br false, .reg (.n :: []), .sub ⟨[(0, none), (1, none), (5, none)], [], []⟩ .ret (Yq a0 a1 r358)]) (fr := true) (by kernel_rfl) (an (an (ti tt) (an (an e339 (an (df h340) tt)) (an (ti tt) e360))) (ti tt)) (Wv.refl _)
       | inr r359 =>
        dsimp only at h
        have e361 := (an (ti tt) (VRun.loop hph356))
        obtain ⟨r387, h386, h⟩ := bs h
        have hph386 := Qcl k a1 _ _ _ h386
        cases r387 with
        | inl r388 =>
         dsimp only at h
         have e390 := (an (ti tt) (VRun.loop hph386))
         injection h with h; subst h
         exact Qo pm pn Try.func5 (r0 := vb false) (ans := [.reg (.n :: []), .reg Qo7, .br false, .reg (.n :: []), .sub ⟨[(0, none), (1, none), (5, none)], [], []⟩ (.exit 0) (Ja a0 a1 r359), .reg (.n :: []), .sub ⟨[(1, none), (6, none)], [], []⟩ .ret (Jb a1 r388)]) (fr := true) (by kernel_rfl) (an (an (ti tt) (an (an e339 (an (df h340) tt)) (an (an (ti tt) e361) (an (ti tt) e390)))) (ti tt)) (Wv.refl _)
        | inr r389 =>
         dsimp only at h
         have e391 := (an (ti tt) (VRun.loop hph386))
         injection h with h; subst h
         exact Qo pm pn Try.func5 (r0 := vb true) (ans := [.reg (.n :: []), .reg Qo7, .br false, .reg (.n :: []), .sub ⟨[(0, none), (1, none), (5, none)], [], []⟩ (.exit 0) (Ja a0 a1 r359), .reg (.n :: []), .sub ⟨[(1, none), (6, none)], [], []⟩ (.exit 2) (Yr a1 r389), .reg (.n :: [])]) (fr := true) (by kernel_rfl) (an (an (ti tt) (an (an e339 (an (df h340) tt)) (an (an (ti tt) e361) (an (an (ti tt) e391) (an (ti tt) tt))))) (ti tt)) (Wv.refl _)
    ·have e392 := (an (df h333) (df h335))
     have e393 := (ti (ti (ti (ti (an (an (dt h330) tt) (an (an (dt h330) tt) (an (an (dt h330) tt) (an (dt h330) (ti (an (an (df h331) tt) (an (an (df h331) tt) (an (an (df h331) tt) (an (df h331) (ti (an (an (df h333) tt) (an (an (df h333) tt) (an (an (df h333) tt) (an (an (df h333) tt) (an (df h335) (an (df h335) (an (df h335) (an e392 (an (df h333) (ti (an (an rf tt) (an (an rf tt) (an (an rf tt) (an rf tt))))))))))))))))))))))))))))
     rcases ifs h with ⟨h394, h⟩ | ⟨h394, h⟩
     ·injection h with h; subst h
      exact Qo pm pn Try.func5 (r0 := vb false) (ans := [.reg (.n :: []), .reg Qo8, .br true, .reg (.n :: [])]) (fr := true) (by kernel_rfl) (an (an (ti tt) (an e393 (an (dt h394) (an (ti tt) tt)))) (ti tt)) (Wv.refl _)
     ·obtain ⟨r411, h410, h⟩ := bs h
      have hph410 := Qcm k a0 a1 _ _ _ h410
      cases r411 with
      | inl r412 =>
       dsimp only at h
       have e414 := (an (ti tt) (VRun.loop hph410))
       injection h with h; subst h
       exact Qo pm pn Try.func5 (r0 := vb false) (ans := [.reg (.n :: []), .reg Qo8, .br false, .reg (.n :: []), .sub ⟨[(0, none), (1, none), (5, none)], [], []⟩ .ret (Yt a0 a1 r412)]) (fr := true) (by kernel_rfl) (an (an (ti tt) (an (an e393 (an (df h394) tt)) (an (ti tt) e414))) (ti tt)) (Wv.refl _)
      | inr r413 =>
       dsimp only at h
       have e415 := (an (ti tt) (VRun.loop hph410))
       obtain ⟨r441, h440, h⟩ := bs h
       have hph440 := Qcn k a1 _ _ _ h440
       cases r441 with
       | inl r442 =>
        dsimp only at h
        have e444 := (an (ti tt) (VRun.loop hph440))
        injection h with h; subst h
        exact Qo pm pn Try.func5 (r0 := vb false) (ans := [.reg (.n :: []), .reg Qo8, .br false, .reg (.n :: []), .sub ⟨[(0, none), (1, none), (5, none)], [], []⟩ (.exit 0) (Jc a0 a1 r413), .reg (.n :: []), .sub ⟨[(1, none), (6, none)], [], []⟩ .ret (Jd a1 r442)]) (fr := true) (by kernel_rfl) (an (an (ti tt) (an (an e393 (an (df h394) tt)) (an (an (ti tt) e415) (an (ti tt) e444)))) (ti tt)) (Wv.refl _)
       | inr r443 =>
        dsimp only at h
        have e445 := (an (ti tt) (VRun.loop hph440))
        injection h with h; subst h
        exact Qo pm pn Try.func5 (r0 := vb true) (ans := [.reg (.n :: []), .reg Qo8, .br false, .reg (.n :: []), .sub ⟨[(0, none), (1, none), (5, none)], [], []⟩ (.exit 0) (Jc a0 a1 r413), .reg (.n :: []), .sub ⟨[(1, none), (6, none)], [], []⟩ (.exit 2) (Yu a1 r443), .reg (.n :: [])]) (fr := true) (by kernel_rfl) (an (an (ti tt) (an (an e393 (an (df h394) tt)) (an (an (ti tt) e415) (an (an (ti tt) e445) (an (ti tt) tt))))) (ti tt)) (Wv.refl _)
 ·rcases ifs h with ⟨h446, h⟩ | ⟨h446, h⟩
  ·have e447 := (ti (ti (ti (ti (an (df h330) (an (df h330) (an (df h330) (an (df h330) (ti (an (an rf tt) (an (an rf tt) (an (an rf tt) (an rf (ti (an (dt h446) (an (dt h446) (an (dt h446) (an (dt h446) (ti (ti (ti (an (dt h446) (an (dt h446) (ti (an rt (an rt (an rt (an rt tt))))))))))))))))))))))))))))
   injection h with h; subst h
   exact Qo pm pn Try.func5 (r0 := vb false) (ans := [.reg (.n :: []), .reg Qyv, .br true, .reg (.n :: [])]) (fr := true) (by kernel_rfl) (an (an (ti tt) (an e447 (an rt (an (ti tt) tt)))) (ti tt)) (Wv.refl _)
  ·rcases ifs h with ⟨h448, h⟩ | ⟨h448, h⟩
   ·have e449 := (an (df h446) (dt h448))
    rcases ifs h with ⟨h450, h⟩ | ⟨h450, h⟩
    ·have e451 := (ti (ti (ti (ti (an (df h330) (an (df h330) (an (df h330) (an (df h330) (ti (an (an rf tt) (an (an rf tt) (an (an rf tt) (an rf (ti (an (an (df h446) tt) (an (an (df h446) tt) (an (an (df h446) tt) (an (an (df h446) tt) (an (an (dt h448) tt) (an (an (dt h448) tt) (an (an (dt h448) tt) (an e449 (an (df h446) (ti (an (dt h450) (an (dt h450) (an (dt h450) (an (dt h450) tt))))))))))))))))))))))))))))
     injection h with h; subst h
     exact Qo pm pn Try.func5 (r0 := vb false) (ans := [.reg (.n :: []), .reg Qyw, .br true, .reg (.n :: [])]) (fr := true) (by kernel_rfl) (an (an (ti tt) (an e451 (an rt (an (ti tt) tt)))) (ti tt)) (Wv.refl _)
    ·have e452 := (ti (ti (ti (ti (an (df h330) (an (df h330) (an (df h330) (an (df h330) (ti (an (an rf tt) (an (an rf tt) (an (an rf tt) (an rf (ti (an (an (df h446) tt) (an (an (df h446) tt) (an (an (df h446) tt) (an (an (df h446) tt) (an (an (dt h448) tt) (an (an (dt h448) tt) (an (an (dt h448) tt) (an e449 (an (df h446) (ti (an (an (df h450) tt) (an (an (df h450) tt) (an (an (df h450) tt) (an (df h450) tt))))))))))))))))))))))))))))
     rcases ifs h with ⟨h453, h⟩ | ⟨h453, h⟩
     ·injection h with h; subst h
      exact Qo pm pn Try.func5 (r0 := vb false) (ans := [.reg (.n :: []), .reg Qo9, .br true, .reg (.n :: [])]) (fr := true) (by kernel_rfl) (an (an (ti tt) (an e452 (an (dt h453) (an (ti tt) tt)))) (ti tt)) (Wv.refl _)
     ·obtain ⟨r470, h469, h⟩ := bs h
      have hph469 := Qco k a0 a1 _ _ _ h469
      cases r470 with
      | inl r471 =>
       dsimp only at h
       have e473 := (an (ti tt) (VRun.loop hph469))
       injection h with h; subst h
       exact Qo pm pn Try.func5 (r0 := vb false) (ans := [.reg (.n :: []), .reg Qo9, .br false, .reg (.n :: []), .sub ⟨[(0, none), (1, none), (5, none)], [], []⟩ .ret (Yv a0 a1 r471)]) (fr := true) (by kernel_rfl) (an (an (ti tt) (an (an e452 (an (df h453) tt)) (an (ti tt) e473))) (ti tt)) (Wv.refl _)
      | inr r472 =>
       dsimp only at h
       have e474 := (an (ti tt) (VRun.loop hph469))
       obtain ⟨r500, h499, h⟩ := bs h
       have hph499 := Qcp k a1 _ _ _ h499
       cases r500 with
       | inl r501 =>
        dsimp only at h
        have e503 := (an (ti tt) (VRun.loop hph499))
        injection h with h; subst h
        exact Qo pm pn Try.func5 (r0 := vb false) (ans := [.reg (.n :: []), .reg Qo9, .br false, .reg (.n :: []), .sub ⟨[(0, none), (1, none), (5, none)], [], []⟩ (.exit 0) (Je a0 a1 r472), .reg (.n :: []), .sub ⟨[(1, none), (6, none)], [], []⟩ .ret (Jf a1 r501)]) (fr := true) (by kernel_rfl) (an (an (ti tt) (an (an e452 (an (df h453) tt)) (an (an (ti tt) e474) (an (ti tt) e503)))) (ti tt)) (Wv.refl _)
       | inr r502 =>
        dsimp only at h
        have e504 := (an (ti tt) (VRun.loop hph499))
        injection h with h; subst h
        exact Qo pm pn Try.func5 (r0 := vb true) (ans := [.reg (.n :: []), .reg Qo9, .br false, .reg (.n :: []), .sub ⟨[(0, none), (1, none), (5, none)], [], []⟩ (.exit 0) (Je a0 a1 r472), .reg (.n :: []), .sub ⟨[(1, none), (6, none)], [], []⟩ (.exit 2) (Yw a1 r502), .reg (.n :: [])]) (fr := true) (by kernel_rfl) (an (an (ti tt) (an (an e452 (an (df h453) tt)) (an (an (ti tt) e474) (an (an (ti tt) e504) (an (ti tt) tt))))) (ti tt)) (Wv.refl _)
   ·have e505 := (an (df h446) (df h448))
    have e506 := (ti (ti (ti (ti (an (df h330) (an (df h330) (an (df h330) (an (df h330) (ti (an (an rf tt) (an (an rf tt) (an (an rf tt) (an rf (ti (an (an (df h446) tt) (an (an (df h446) tt) (an (an (df h446) tt) (an (an (df h446) tt) (an (df h448) (an (df h448) (an (df h448) (an e505 (an (df h446) (ti (an (an rf tt) (an (an rf tt) (an (an rf tt) (an rf tt))))))))))))))))))))))))))))
    rcases ifs h with ⟨h507, h⟩ | ⟨h507, h⟩
    ·injection h with h; subst h
     exact Qo pm pn Try.func5 (r0 := vb false) (ans := [.reg (.n :: []), .reg Qpa, .br true, .reg (.n :: [])]) (fr := true) (by kernel_rfl) (an (an (ti tt) (an e506 (an (dt h507) (an (ti tt) tt)))) (ti tt)) (Wv.refl _)
    ·obtain ⟨r524, h523, h⟩ := bs h
     have hph523 := Qcq k a0 a1 _ _ _ h523
     cases r524 with
     | inl r525 =>
      dsimp only at h
      have e527 := (an (ti tt) (VRun.loop hph523))
      injection h with h; subst h
      exact Qo pm pn Try.func5 (r0 := vb false) (ans := [.reg (.n :: []), .reg Qpa, .br false, .reg (.n :: []), .sub ⟨[(0, none), (1, none), (5, none)], [], []⟩ .ret (Yx a0 a1 r525)]) (fr := true) (by kernel_rfl) (an (an (ti tt) (an (an e506 (an (df h507) tt)) (an (ti tt) e527))) (ti tt)) (Wv.refl _)
     | inr r526 =>
      dsimp only at h
      have e528 := (an (ti tt) (VRun.loop hph523))
      obtain ⟨r554, h553, h⟩ := bs h
      have hph553 := Qcr k a1 _ _ _ h553
      cases r554 with
      | inl r555 =>
       dsimp only at h
       have e557 := (an (ti tt) (VRun.loop hph553))
       injection h with h; subst h
       exact Qo pm pn Try.func5 (r0 := vb false) (ans := [.reg (.n :: []), .reg Qpa, .br false, .reg (.n :: []), .sub ⟨[(0, none), (1, none), (5, none)], [], []⟩ (.exit 0) (Jg a0 a1 r526), .reg (.n :: []), .sub ⟨[(1, none), (6, none)], [], []⟩ .ret (Jh a1 r555)]) (fr := true) (by kernel_rfl) (an (an (ti tt) (an (an e506 (an (df h507) tt)) (an (an (ti tt) e528) (an (ti tt) e557)))) (ti tt)) (Wv.refl _)
      | inr r556 =>
       dsimp only at h
       have e558 := (an (ti tt) (VRun.loop hph553))
       injection h with h; subst h
       exact Qo pm pn Try.func5 (r0 := vb true) (ans := [.reg (.n :: []), .reg Qpa, .br false, .reg (.n :: []), .sub ⟨[(0, none), (1, none), (5, none)], [], []⟩ (.exit 0) (Jg a0 a1 r526), .reg (.n :: []), .sub ⟨[(1, none), (6, none)], [], []⟩ (.exit 2) (Yy a1 r556), .reg (.n :: [])]) (fr := true) (by kernel_rfl) (an (an (ti tt) (an (an e506 (an (df h507) tt)) (an (an (ti tt) e528) (an (an (ti tt) e558) (an (ti tt) tt))))) (ti tt)) (Wv.refl _)
def Yk (k : Nat) (a0 : (List Qd)) : Option (List Qd) :=
 if ([] : List Qd).length + a0.length <= 1000000000 then (some (([] : List Qd) ++ a0)) else none
theorem Qd7 (k : Nat) (a0 : (List Qd)) (r : (List Qd)) (h : Yk k a0 = some r) : VC Try.prog 7 [VV.tr (flatMap Qc a0) a0.length] (VV.fw 4 (flatMap Qc r) r.length) := by
 unfold Yk at h
 obtain ⟨h561, h⟩ := ifn h
 have e562 := (show List.length [] = 0 * 4 /\ List.length (flatMap Qc a0) = a0.length * 4 /\ (0 + a0.length) * 40 <= 140737488355328 /\ 0 + a0.length < 1099511627776 /\ List.all (flatMap Qc a0) VV.still = true from ⟨(by rw [show [] = flatMap Qc ([] : List Qd) from rfl]; rw [J4 Zg] <;> simp), (by rw [J4 Zg] <;> simp), (by first | omega | (simp at h561 ⊢; omega)), (by first | omega | (simp at h561 ⊢; omega)), (by exact Qfq _)⟩)
 injection h with h; subst h
 exact Qo pm pn Try.func7 (r0 := VV.fw 4 (List.drop 0 (List.map unfr ([] ++ (flatMap Qc a0)))) (0 + a0.length)) (ans := [.reg (.n :: []), .reg (nN 4 [])]) (fr := true) (by kernel_rfl) (an (an (ti tt) (an (ti (ti (an e562 (ti tt)))) tt)) (an (show List.all ([] ++ (flatMap Qc a0)) new0 = true from (by rw [show [] ++ (flatMap Qc a0) = flatMap Qc (([] : List Qd) ++ a0) from (by rw [show [] = flatMap Qc ([] : List Qd) from rfl]; exact List.flatMap_append.symm)]; exact Qf8 _)) tt)) (Wv.of_eq (by first | (simp only [show [] ++ (flatMap Qc a0) = flatMap Qc (([] : List Qd) ++ a0) from (by rw [show [] = flatMap Qc ([] : List Qd) from rfl]; exact List.flatMap_append.symm), Qcc, X5, Wi, X6, map_cons, map_nil, un_i, un_k, un_b, un_s, Qcd, Qff, length_map, length_replicate, length_append, List.length_set, length_cons, length_nil, Nat.zero_add, Zb, Qk]; done) | (simp only [show [] ++ (flatMap Qc a0) = flatMap Qc (([] : List Qd) ++ a0) from (by rw [show [] = flatMap Qc ([] : List Qd) from rfl]; exact List.flatMap_append.symm), Qcc, X5, Wi, X6, map_cons, map_nil, un_i, un_k, un_b, un_s, Qcd, Qff, length_map, length_replicate, length_append, List.length_set, length_cons, length_nil, Nat.zero_add, Zb, Qk]; rfl)))
def Jt (k : Nat) (a0 : (List Qb)) : Option (List Qb) :=
 if ([] : List Qb).length + a0.length <= 1000000000 then (some (([] : List Qb) ++ a0)) else none
theorem Qc8 (k : Nat) (a0 : (List Qb)) (r : (List Qb)) (h : Jt k a0 = some r) : VC Try.prog 8 [VV.tr (flatMap Qa a0) a0.length] (VV.fw 2 (flatMap Qa r) r.length) := by
 unfold Jt at h
 obtain ⟨h565, h⟩ := ifn h
 have e566 := (show List.length [] = 0 * 2 /\ List.length (flatMap Qa a0) = a0.length * 2 /\ (0 + a0.length) * 32 <= 140737488355328 /\ 0 + a0.length < 1099511627776 /\ List.all (flatMap Qa a0) VV.still = true from ⟨(by rw [show [] = flatMap Qa ([] : List Qb) from rfl]; rw [J4 Qj] <;> simp), (by rw [J4 Qj] <;> simp), (by first | omega | (simp at h565 ⊢; omega)), (by first | omega | (simp at h565 ⊢; omega)), (by exact Yc _)⟩)
 injection h with h; subst h
 exact Qo pm pn Try.func8 (r0 := VV.fw 2 (List.drop 0 (List.map unfr ([] ++ (flatMap Qa a0)))) (0 + a0.length)) (ans := [.reg (.n :: []), .reg (nN 4 [])]) (fr := true) (by kernel_rfl) (an (an (ti tt) (an (ti (ti (an e566 (ti tt)))) tt)) (an (show List.all ([] ++ (flatMap Qa a0)) new0 = true from (by rw [show [] ++ (flatMap Qa a0) = flatMap Qa (([] : List Qb) ++ a0) from (by rw [show [] = flatMap Qa ([] : List Qb) from rfl]; exact List.flatMap_append.symm)]; exact Wu _)) tt)) (Wv.of_eq (by first | (simp only [show [] ++ (flatMap Qa a0) = flatMap Qa (([] : List Qb) ++ a0) from (by rw [show [] = flatMap Qa ([] : List Qb) from rfl]; exact List.flatMap_append.symm), Qcc, X5, Wi, X6, map_cons, map_nil, un_i, un_k, un_b, un_s, Qcd, Qff, length_map, length_replicate, length_append, List.length_set, length_cons, length_nil, Nat.zero_add, Zb, Qk]; done) | (simp only [show [] ++ (flatMap Qa a0) = flatMap Qa (([] : List Qb) ++ a0) from (by rw [show [] = flatMap Qa ([] : List Qb) from rfl]; exact List.flatMap_append.symm), Qcc, X5, Wi, X6, map_cons, map_nil, un_i, un_k, un_b, un_s, Qcd, Qff, length_map, length_replicate, length_append, List.length_set, length_cons, length_nil, Nat.zero_add, Zb, Qk]; rfl)))
def Zh (k : Nat) (a0 : Bool) (a1 : Int) : Option (Bool × Int) :=
 some (a0, a1)
theorem Zc (k : Nat) (a0 : Bool) (a1 : Int) (r : (Bool × Int)) (h : Zh k a0 a1 = some r) : VC Try.prog 49 [vb a0, vi a1] (VV.fn 71 [VV.tp [vb r.1] 0, VV.tp [vi r.2] 0]) := by
 unfold Zh at h
 injection h with h; subst h
 exact Qo pm pn Try.func49 (r0 := VV.fn 71 [VV.tp [vb a0] 0, VV.tp [vi a1] 0]) (ans := [.reg (nN 3 []), .frz 0, .frz 1, .reg (.n :: .n :: [])]) (fr := false) (by kernel_rfl) (an (an (ti (ti (ti tt))) (an (ti (ti tt)) tt)) (ti tt)) (Wv.of_eq rfl)
def Xl (k : Nat) (q0_0 : Bool) (q1_0 : Int) : Option Int :=
 if q0_0 = true then (some 0) else (some q1_0)
theorem Xr (k : Nat) (q0_0 : Bool) (q1_0 : Int) (r : Int) (h : Xl k q0_0 q1_0 = some r) : VC Try.prog 71 [VV.tp [vb q0_0] 0, VV.tp [vi q1_0] 0] (vi r) := by
 unfold Xl at h
 have e575 := (show Jw Try.prog 4 0 [vb q0_0] = some (vb q0_0) from (Qee ag4 rfl))
 rcases ifs h with ⟨h576, h⟩ | ⟨h576, h⟩
 ·injection h with h; subst h
  exact Qo pm pn Try.func71 (r0 := vi 0) (ans := [.reg (.n :: []), .reg (.v (vb q0_0) :: []), .br true, .reg (.n :: [])]) (fr := true) (by kernel_rfl) (an (an (ti tt) (an (an e575 tt) (an h576 (an (ti tt) tt)))) (ti tt)) (Wv.refl _)
 ·have e577 := (show Jw Try.prog 30 0 [vi q1_0] = some (vi q1_0) from (Qee ag30 rfl))
  injection h with h; subst h
  exact Qo pm pn Try.func71 (r0 := vi q1_0) (ans := [.reg (.n :: []), .reg (.v (vb q0_0) :: []), .br false, .reg (.v (vi q1_0) :: .n :: [])]) (fr := true) (by kernel_rfl) (an (an (ti tt) (an (an (an e575 tt) (an (Qz h576) tt)) (an (an e577 (ti tt)) tt))) (ti tt)) (Wv.refl _)
def W9 (k : Nat) (a0 : Int) (a1 : Int) (a2 : Int) : Option Bool :=
 if a1 <= a0 then (some (decide (a0 <= a2))) else (some false)
theorem Qdc (k : Nat) (a0 : Int) (a1 : Int) (a2 : Int) (r : Bool) (h : W9 k a0 a1 a2 = some r) : VC Try.prog 70 [vi a0, vi a1, vi a2] (vb r) := by
 unfold W9 at h
 rcases ifs h with ⟨h593, h⟩ | ⟨h593, h⟩
 ·have e594 := (ti (ti (ti (ti (an (an (dt h593) tt) (an (an (dt h593) tt) (an (an (dt h593) tt) (an (dt h593) (ti tt)))))))))
  injection h with h; subst h
  exact Qo pm pn Try.func70 (r0 := vb (decide (a0 <= a2))) (ans := [.reg (.n :: []), .reg (nN 7 (.b true :: .n :: []))]) (fr := true) (by kernel_rfl) (an (an (ti tt) (an e594 tt)) (ti tt)) (Wv.refl _)
 ·have e595 := (ti (ti (ti (ti (an (df h593) (an (df h593) (an (df h593) (an (df h593) (ti tt)))))))))
  injection h with h; subst h
  exact Qo pm pn Try.func70 (r0 := vb false) (ans := [.reg (.n :: []), .reg (nN 4 (nS 3 (.b false :: .n :: [])))]) (fr := true) (by kernel_rfl) (an (an (ti tt) (an e595 tt)) (ti tt)) (Wv.refl _)
def Qv4  : List Ans := (nN 3 (.skip :: .skip :: .b false :: nN 4 (.skip :: .skip :: .b false :: .b false :: .n :: [])))
def Qaa (k : Nat) (a0 : Int) : Option Bool :=
 if 97 <= a0 then (if a0 <= 122 then (some true) else (if 65 <= a0 then (some (decide (a0 <= 90))) else (some false))) else (if 65 <= a0 then (some (decide (a0 <= 90))) else (some false))
theorem Wn (k : Nat) (a0 : Int) (r : Bool) (h : Qaa k a0 = some r) : VC Try.prog 93 [VV.c (.int .i32 a0)] (vb r) := by
 unfold Qaa at h
 rcases ifs h with ⟨h612, h⟩ | ⟨h612, h⟩
 ·rcases ifs h with ⟨h613, h⟩ | ⟨h613, h⟩
  ·have e614 := (ti (ti (ti (an (an (dt h612) tt) (an (an (dt h612) tt) (an (dt h612) (ti (an (dt h613) (an (dt h613) (an (dt h613) (ti (ti (an (dt h613) (an (dt h613) (ti tt)))))))))))))))
   injection h with h; subst h
   exact Qo pm pn Try.func93 (r0 := vb true) (ans := [.reg (.n :: []), .reg (nN 5 (.b true :: .n :: nS 6 (.b true :: .n :: [])))]) (fr := true) (by kernel_rfl) (an (an (ti tt) (an e614 tt)) (ti tt)) (Wv.refl _)
  ·rcases ifs h with ⟨h615, h⟩ | ⟨h615, h⟩
   ·have e616 := (an (df h613) (dt h615))
    have e617 := (ti (ti (ti (an (an (dt h612) tt) (an (an (dt h612) tt) (an (dt h612) (ti (an (an (df h613) tt) (an (an (df h613) tt) (an (an (df h613) tt) (an (an (dt h615) tt) (an (an (dt h615) tt) (an e616 (an (df h613) (ti tt)))))))))))))))
    injection h with h; subst h
    exact Qo pm pn Try.func93 (r0 := vb (decide (a0 <= 90))) (ans := [.reg (.n :: []), .reg (nN 5 (.b true :: nN 6 (.b true :: .b false :: .n :: [])))]) (fr := true) (by kernel_rfl) (an (an (ti tt) (an e617 tt)) (ti tt)) (Wv.refl _)
   ·have e618 := (an (df h613) (df h615))
    have e619 := (ti (ti (ti (an (an (dt h612) tt) (an (an (dt h612) tt) (an (dt h612) (ti (an (an (df h613) tt) (an (an (df h613) tt) (an (an (df h613) tt) (an (df h615) (an (df h615) (an e618 (an (df h613) (ti tt)))))))))))))))
    injection h with h; subst h
    exact Qo pm pn Try.func93 (r0 := vb false) (ans := [.reg (.n :: []), .reg (nN 5 (.b true :: nN 4 (.skip :: .skip :: .b false :: .b false :: .n :: [])))]) (fr := true) (by kernel_rfl) (an (an (ti tt) (an e619 tt)) (ti tt)) (Wv.refl _)
 ·rcases ifs h with ⟨h620, h⟩ | ⟨h620, h⟩
  ·have e621 := (ti (ti (ti (an (df h612) (an (df h612) (an (df h612) (ti (an (an rf tt) (an (an rf tt) (an (an rf tt) (an (an (dt h620) tt) (an (an (dt h620) tt) (an (an rf (dt h620)) (an rf (ti tt)))))))))))))))
   injection h with h; subst h
   exact Qo pm pn Try.func93 (r0 := vb (decide (a0 <= 90))) (ans := [.reg (.n :: []), .reg (nN 3 (.skip :: .skip :: .b false :: nN 6 (.b true :: .b false :: .n :: [])))]) (fr := true) (by kernel_rfl) (an (an (ti tt) (an e621 tt)) (ti tt)) (Wv.refl _)
  ·have e622 := (ti (ti (ti (an (df h612) (an (df h612) (an (df h612) (ti (an (an rf tt) (an (an rf tt) (an (an rf tt) (an (df h620) (an (df h620) (an (an rf (df h620)) (an rf (ti tt)))))))))))))))
   injection h with h; subst h
   exact Qo pm pn Try.func93 (r0 := vb false) (ans := [.reg (.n :: []), .reg Qv4]) (fr := true) (by kernel_rfl) (an (an (ti tt) (an e622 tt)) (ti tt)) (Wv.refl _)
def Qw2 (z0 : Bool) : List Ans := (.n :: .call (vb z0) :: .n :: .n :: nS 7 (.b false :: .n :: .skip :: .skip :: .b false :: .n :: []))
def Qw3 (z0 : Bool) : List Ans := (.n :: .call (vb z0) :: nN 7 (.b true :: .n :: .b true :: .n :: .skip :: .skip :: .b false :: .n :: []))
def Qw4 (z0 : Bool) : List Ans := (.n :: .call (vb z0) :: nN 5 (.skip :: .skip :: .b false :: .n :: .b true :: nN 3 (.b true :: .n :: [])))
def Qam (k : Nat) (a0 : Int) : Option Bool :=
 (Qaa k a0).bind fun r645 => (if r645 = true then (some false) else (if 48 <= a0 then (if a0 <= 57 then (some false) else (some (!(decide (a0 = 45))))) else (some (!(decide (a0 = 45))))))
theorem Qfs (k : Nat) (a0 : Int) (r : Bool) (h : Qam k a0 = some r) : VC Try.prog 95 [VV.c (.int .i32 a0)] (vb r) := by
 unfold Qam at h
 obtain ⟨r645, h646, h⟩ := bs h
 rcases ifs h with ⟨h647, h⟩ | ⟨h647, h⟩
 ·have e648 := (ti (an (Wn k a0 _ h646) (ti (ti (an (Ql h647) (an (Ql h647) (an (Ql h647) (ti (ti (an (Ql h647) (an (Ql h647) (an (Ql h647) (ti (an rf (an rf (an rf (ti tt)))))))))))))))))
  injection h with h; subst h
  exact Qo pm pn Try.func95 (r0 := vb false) (ans := [.reg (.n :: []), .reg (Qw2 r645)]) (fr := true) (by kernel_rfl) (an (an (ti tt) (an e648 tt)) (ti tt)) (Wv.refl _)
 ·rcases ifs h with ⟨h649, h⟩ | ⟨h649, h⟩
  ·have e650 := (an (Zd (Qz h647)) (dt h649))
   rcases ifs h with ⟨h651, h⟩ | ⟨h651, h⟩
   ·have e652 := (ti (an (Wn k a0 _ h646) (ti (ti (an (an (Zd (Qz h647)) tt) (an (an (Zd (Qz h647)) tt) (an (an (Zd (Qz h647)) tt) (an (an (dt h649) tt) (an (an (dt h649) tt) (an e650 (an (an (Zd (Qz h647)) tt) (an (Zd (Qz h647)) (ti (an (Ql (dt h651)) (an (Ql (dt h651)) (an (Ql (dt h651)) (ti tt)))))))))))))))))
    injection h with h; subst h
    exact Qo pm pn Try.func95 (r0 := vb false) (ans := [.reg (.n :: []), .reg (Qw3 r645)]) (fr := true) (by kernel_rfl) (an (an (ti tt) (an e652 tt)) (ti tt)) (Wv.refl _)
   ·have e653 := (an (Zd (df h651)) tt)
    have e654 := (an (Zd (df h651)) tt)
    have e655 := (ti (an (Wn k a0 _ h646) (ti (ti (an (an (Zd (Qz h647)) tt) (an (an (Zd (Qz h647)) tt) (an (an (Zd (Qz h647)) tt) (an (an (dt h649) tt) (an (an (dt h649) tt) (an e650 (an (an (Zd (Qz h647)) tt) (an (Zd (Qz h647)) (ti (an e653 (an e654 (an (Zd (df h651)) (ti tt)))))))))))))))))
    injection h with h; subst h
    exact Qo pm pn Try.func95 (r0 := vb (!(decide (a0 = 45)))) (ans := [.reg (.n :: []), .reg (.n :: .call (vb r645) :: nN 7 (.b true :: .n :: .b true :: nN 3 (.b true :: .n :: [])))]) (fr := true) (by kernel_rfl) (an (an (ti tt) (an e655 tt)) (ti tt)) (Wv.refl _)
  ·have e656 := (an (Zd (Qz h647)) (df h649))
   have e657 := (an (show (!false) = true from (Zd rfl)) tt)
   have e658 := (an (show (!false) = true from (Zd rfl)) tt)
   have e659 := (ti (an (Wn k a0 _ h646) (ti (ti (an (an (Zd (Qz h647)) tt) (an (an (Zd (Qz h647)) tt) (an (an (Zd (Qz h647)) tt) (an (df h649) (an (df h649) (an e656 (an (an (Zd (Qz h647)) tt) (an (Zd (Qz h647)) (ti (an e657 (an e658 (an (show (!false) = true from (Zd rfl)) (ti tt)))))))))))))))))
   injection h with h; subst h
   exact Qo pm pn Try.func95 (r0 := vb (!(decide (a0 = 45)))) (ans := [.reg (.n :: []), .reg (Qw4 r645)]) (fr := true) (by kernel_rfl) (an (an (ti tt) (an e659 tt)) (ti tt)) (Wv.refl _)
def Zo (a0 : ByteArray) (a2 : Bool) (b0_1 : Int) : VS := ⟨mkA [(1, VV.fn 95 []), (2, vb a2), (10, VV.it 0)], [some ⟨true, bigX, [vs a0, vi b0_1]⟩], .nil⟩
def Xd (a0 : ByteArray) (a2 : Bool) (r : Int) : VS := ⟨mkA [(6, vi r)], [], .nil⟩
def Xe (a0 : ByteArray) (a2 : Bool) (r : Unit) : VS := ⟨mkA [], [], .nil⟩
def Qn (k : Nat) (a0 : ByteArray) (a2 : Bool) : Nat -> Int -> Option (Sum Int Unit)
 | 0, _ => none
 | fuel + 1, b0_1 => if b0_1 < (a0.size : Int) then (if 0 <= b0_1 then ((Qam k (((Go.Utf8.decode a0 (b0_1).toNat).1 : Nat) : Int)).bind fun r706 => (if (r706 == a2) = true then (some (.inl b0_1)) else (Qn k a0 a2 fuel (b0_1 + (((Go.Utf8.decode a0 (b0_1).toNat).2 : Nat) : Int))))) else none) else (some (.inr ()))
theorem Qab (k : Nat) (a0 : ByteArray) (a2 : Bool) : ∀ (fuel : Nat) (b0_1 : Int) (r : Sum Int Unit), Qn k a0 a2 fuel b0_1 = some r -> (match r with | .inl r => Ya none Try.prog (szF Try.f101) (X9 Try.f101 0) (Zo a0 a2 b0_1) .ret (Xd a0 a2 r) | .inr r => Ya none Try.prog (szF Try.f101) (X9 Try.f101 0) (Zo a0 a2 b0_1) (.exit 0) (Xe a0 a2 r)) := by
 intro fuel
 induction fuel with
 | zero => intro b0_1 r h; rw [Qn.eq_1] at h; cases h
 | succ fuel ih =>
  intro b0_1 r h
  rw [Qn.eq_2] at h
  rcases ifs h with ⟨h703, h⟩ | ⟨h703, h⟩
  ·obtain ⟨h704, h⟩ := ifn h
   have e705 := (show 0 <= b0_1 /\ b0_1 < (a0.size : Int) from ⟨h704, of_decide_eq_true (dt h703)⟩)
   obtain ⟨r706, h707, h⟩ := bs h
   have e708 := (Qfs k (((Go.Utf8.decode a0 (b0_1).toNat).1 : Nat) : Int) _ h707)
   rcases ifs h with ⟨h709, h⟩ | ⟨h709, h⟩
   ·injection h with h; subst h
    exact Qq (c := ⟨[(6, none)], [], []⟩) (s1 := (Xd a0 a2 b0_1)) pm pn (ans := [.reg (.b true :: .n :: []), .br true, .reg (nN 4 []), .reg (.n :: .n :: .call (vb r706) :: .n :: .n :: []), .br true, .reg (.n :: .n :: [])]) (by kernel_rfl) (by intro e; cases e) (an (an (an e705 (ti tt)) (an (an rt tt) (an (ti (ti (ti (ti tt)))) (an (ti (ti (an e708 (ti (ti tt))))) (an h709 (an (ti (ti tt)) tt)))))) (ti tt))
   ·have h2 := ih _ _ h
    obtain ⟨q, hv, hq⟩ := pkR (rd := none) (P := Try.prog) (fn := Try.f101) (k := 0) (s := (Zo a0 a2 b0_1)) (ans := [.reg (.b true :: .n :: []), .br true, .reg (nN 4 []), .reg (.n :: .n :: .call (vb r706) :: .n :: .n :: []), .br false]) (c := ⟨[(1, none), (2, none), (10, none)], [none], []⟩) (e := .normal) (s1 := (Zo a0 a2 (b0_1 + (((Go.Utf8.decode a0 (b0_1).toNat).2 : Nat) : Int)))) (an (an (an e705 (ti tt)) (an (an rt tt) (an (ti (ti (ti (ti tt)))) (an (ti (ti (an e708 (ti (ti tt))))) (an (Qz h709) tt))))) (ti tt)) (by kernel_rfl)
    cases r with
    | inl r => exact Qp pm pn hv hq h2
    | inr r =>
     exact Qp pm pn hv hq h2
  ·have e710 := (show (a0.size : Int) <= b0_1 from (by have := of_decide_eq_false (df h703); omega))
   injection h with h; subst h
   exact Qq (c := ⟨[], [], []⟩) (s1 := (Xe a0 a2 ())) pm pn (ans := [.reg (.b false :: .n :: []), .br false]) (by kernel_rfl) (by intro e; cases e) (an (an (an e710 (ti tt)) (an rf tt)) (ti tt))
def Xa (k : Nat) (a0 : ByteArray) (a1 : Unit) (a2 : Bool) : Option Int :=
 (Qn k a0 a2 k 0).bind fun r712 => (match r712 with | .inl r713 => (some r713) | .inr r714 => (some (-1)))
theorem Qao (k : Nat) (a0 : ByteArray) (a1 : Unit) (a2 : Bool) (r : Int) (h : Xa k a0 a1 a2 = some r) : VC Try.prog 101 [vs a0, VV.fn 95 [], vb a2] (vi r) := by
 unfold Xa at h
 obtain ⟨r712, h711, h⟩ := bs h
 have hph711 := Qab k a0 a2 _ _ _ h711
 cases r712 with
 | inl r713 =>
  dsimp only at h
  have e715 := (an (ti tt) (VRun.loop hph711))
  injection h with h; subst h
  exact Qo pm pn Try.func101 (r0 := vi r713) (ans := [.reg (.n :: []), .reg (.n :: .n :: []), .sub ⟨[(1, none), (2, none), (10, none)], [none], []⟩ .ret (Xd a0 a2 r713)]) (fr := true) (by kernel_rfl) (an (an (ti tt) (an (ti (ti tt)) e715)) (ti tt)) (Wv.refl _)
 | inr r714 =>
  dsimp only at h
  have e716 := (an (ti tt) (VRun.loop hph711))
  injection h with h; subst h
  exact Qo pm pn Try.func101 (r0 := vi (-1)) (ans := [.reg (.n :: []), .reg (.n :: .n :: []), .sub ⟨[(1, none), (2, none), (10, none)], [none], []⟩ (.exit 0) (Xe a0 a2 r714), .reg (.n :: [])]) (fr := true) (by kernel_rfl) (an (an (ti tt) (an (an (ti (ti tt)) e716) (an (ti tt) tt))) (ti tt)) (Wv.refl _)
def Xb (k : Nat) (a0 : ByteArray) (a1 : Unit) : Option Int :=
 (Xa k a0 a1 true).bind fun r720 => (some r720)
theorem Qap (k : Nat) (a0 : ByteArray) (a1 : Unit) (r : Int) (h : Xb k a0 a1 = some r) : VC Try.prog 100 [vs a0, VV.fn 95 []] (vi r) := by
 unfold Xb at h
 obtain ⟨r720, h721, h⟩ := bs h
 have e722 := (Qao k a0 a1 true _ h721)
 injection h with h; subst h
 exact Qo pm pn Try.func100 (r0 := vi r720) (ans := [.reg (.n :: []), .reg (.n :: .n :: .call (vi r720) :: .n :: [])]) (fr := true) (by kernel_rfl) (an (an (ti tt) (an (ti (ti (an e722 (ti tt)))) tt)) (ti tt)) (Wv.refl _)
def Z7 (k : Nat) (a0 : ByteArray) (a1 : Unit) : Option Bool :=
 (Xb k a0 a1).bind fun r726 => (some (decide (0 <= r726)))
theorem Qai (k : Nat) (a0 : ByteArray) (a1 : Unit) (r : Bool) (h : Z7 k a0 a1 = some r) : VC Try.prog 94 [vs a0, VV.fn 95 []] (vb r) := by
 unfold Z7 at h
 obtain ⟨r726, h727, h⟩ := bs h
 have e728 := (Qap k a0 a1 _ h727)
 injection h with h; subst h
 exact Qo pm pn Try.func94 (r0 := vb (decide (0 <= r726))) (ans := [.reg (.n :: []), .reg (.n :: .n :: .call (vi r726) :: .n :: .n :: [])]) (fr := true) (by kernel_rfl) (an (an (ti tt) (an (ti (ti (an e728 (ti (ti tt))))) tt)) (ti tt)) (Wv.refl _)
def Qw5 (z0 : Bool) (z1 : Bool) (z2 : Bool) : List Ans := (.n :: .n :: .call (vb z0) :: nN 4 (.call (vb z1) :: .b true :: .n :: .n :: .call (vb z2) :: .n :: .b true :: .n :: []))
def Qw6 (z0 : Bool) (z1 : Bool) : List Ans := (.n :: .n :: .call (vb z0) :: nN 4 (.call (vb z1) :: .b true :: .n :: nS 3 (.b false :: .n :: [])))
def Qw7 (z0 : Bool) : List Ans := (.n :: .n :: .call (vb z0) :: .n :: nS 4 (.b false :: .n :: nS 3 (.b false :: .n :: [])))
def Ym (k : Nat) (a0 : ByteArray) : Option Bool :=
 (W9 k (a0.size : Int) 1 12).bind fun r735 => (if r735 = true then (if (0 : Int) <= 0 /\ 0 < (a0.size : Int) then ((Qaa k (IntKind.i32.wrap (bat a0 0))).bind fun r740 => (if r740 = true then ((Z7 k a0 ()).bind fun r744 => (some (!r744))) else (some false))) else none) else (some false))
theorem Qa4 (k : Nat) (a0 : ByteArray) (r : Bool) (h : Ym k a0 = some r) : VC Try.prog 83 [vs a0] (vb r) := by
 unfold Ym at h
 obtain ⟨r735, h736, h⟩ := bs h
 have e737 := (Qdc k (a0.size : Int) 1 12 _ h736)
 rcases ifs h with ⟨h738, h⟩ | ⟨h738, h⟩
 ·obtain ⟨h739, h⟩ := ifn h
  obtain ⟨r740, h741, h⟩ := bs h
  have e742 := (an h738 (Wn k (IntKind.i32.wrap (bat a0 0)) _ h741))
  rcases ifs h with ⟨h743, h⟩ | ⟨h743, h⟩
  ·obtain ⟨r744, h745, h⟩ := bs h
   have e746 := (an h743 (Qai k a0 () _ h745))
   have e747 := (ti (ti (an e737 (ti (an (an h738 tt) (an (an h738 h739) (an (an h738 tt) (an e742 (an h738 (ti (an (an h743 tt) (an e746 (an (an h743 tt) (an h743 (ti tt)))))))))))))))
   injection h with h; subst h
   exact Qo pm pn Try.func83 (r0 := vb (!r744)) (ans := [.reg (.n :: []), .reg (Qw5 r735 r740 r744)]) (fr := true) (by kernel_rfl) (an (an (ti tt) (an e747 tt)) (ti tt)) (Wv.refl _)
  ·have e748 := (ti (ti (an e737 (ti (an (an h738 tt) (an (an h738 h739) (an (an h738 tt) (an e742 (an h738 (ti (an (Qz h743) (an (Qz h743) (an (Qz h743) (an (Qz h743) (ti tt)))))))))))))))
   injection h with h; subst h
   exact Qo pm pn Try.func83 (r0 := vb false) (ans := [.reg (.n :: []), .reg (Qw6 r735 r740)]) (fr := true) (by kernel_rfl) (an (an (ti tt) (an e748 tt)) (ti tt)) (Wv.refl _)
 ·have e749 := (ti (ti (an e737 (ti (an (Qz h738) (an (Qz h738) (an (Qz h738) (an (Qz h738) (an (Qz h738) (ti (an rf (an rf (an rf (an rf (ti tt)))))))))))))))
  injection h with h; subst h
  exact Qo pm pn Try.func83 (r0 := vb false) (ans := [.reg (.n :: []), .reg (Qw7 r735)]) (fr := true) (by kernel_rfl) (an (an (ti tt) (an e749 tt)) (ti tt)) (Wv.refl _)
def Qw8 (z0 : Bool) (z1 : (Bool × Int)) : List Ans := (nN 3 (.call (vb z0) :: .call (VV.fn 71 [VV.tp [vb z1.1] 0, VV.tp [vi z1.2] 0]) :: .n :: []))
def Xu (k : Nat) (a0 : Int) (a1 : Int) (a2 : Int) : Option (Bool × Int) :=
 (W9 k a0 a1 a2).bind fun r763 => ((Zh k r763 2).bind fun r765 => (some r765))
theorem Wj (k : Nat) (a0 : Int) (a1 : Int) (a2 : Int) (r : (Bool × Int)) (h : Xu k a0 a1 a2 = some r) : VC Try.prog 48 [vi a0, vi a1, vi a2] (VV.fn 71 [VV.tp [vb r.1] 0, VV.tp [vi r.2] 0]) := by
 unfold Xu at h
 obtain ⟨r763, h764, h⟩ := bs h
 obtain ⟨r765, h766, h⟩ := bs h
 have e767 := (ti (ti (ti (an (Qdc k a0 a1 a2 _ h764) (an (Zc k r763 2 _ h766) (ti tt))))))
 injection h with h; subst h
 exact Qo pm pn Try.func48 (r0 := VV.fn 71 [VV.tp [vb r765.1] 0, VV.tp [vi r765.2] 0]) (ans := [.reg (.n :: []), .reg (Qw8 r763 r765)]) (fr := false) (by kernel_rfl) (an (an (ti tt) (an e767 tt)) (ti tt)) (Wv.refl _)
def Qg (k : Nat) (a0 : ((Bool × Int) × (Bool × Int) × (Bool × Int) × (Bool × Int) × (Bool × Int))) : Option Int :=
 (Xl k a0.1.1 a0.1.2).bind fun r809 => (if r809 = 0 then ((Xl k a0.2.1.1 a0.2.1.2).bind fun r815 => (if r815 = 0 then ((Xl k a0.2.2.1.1 a0.2.2.1.2).bind fun r821 => (if r821 = 0 then ((Xl k a0.2.2.2.1.1 a0.2.2.2.1.2).bind fun r827 => (if r827 = 0 then ((Xl k a0.2.2.2.2.1 a0.2.2.2.2.2).bind fun r833 => (if r833 = 0 then (some 0) else (some r833))) else (some r827))) else (some r821))) else (some r815))) else (some r809))
theorem Ze (k : Nat) (a0 : ((Bool × Int) × (Bool × Int) × (Bool × Int) × (Bool × Int) × (Bool × Int))) (r : Int) (h : Qg k a0 = some r) : VC Try.prog 47 [VV.tr ([VV.fn 71 [VV.tp [vb a0.1.1] 0, VV.tp [vi a0.1.2] 0], VV.fn 71 [VV.tp [vb a0.2.1.1] 0, VV.tp [vi a0.2.1.2] 0], VV.fn 71 [VV.tp [vb a0.2.2.1.1] 0, VV.tp [vi a0.2.2.1.2] 0], VV.fn 71 [VV.tp [vb a0.2.2.2.1.1] 0, VV.tp [vi a0.2.2.2.1.2] 0], VV.fn 71 [VV.tp [vb a0.2.2.2.2.1] 0, VV.tp [vi a0.2.2.2.2.2] 0]]) 5] (vi r) := by
 unfold Qg at h
 have e807 := (show (0 : Int) <= 0 /\ (0 : Int) < ((5 : Nat) : Int) from ⟨by decide, by decide⟩)
 have e808 := (show Jw Try.prog 106 ((0 : Int).toNat * 1) ([VV.fn 71 [VV.tp [vb a0.1.1] 0, VV.tp [vi a0.1.2] 0], VV.fn 71 [VV.tp [vb a0.2.1.1] 0, VV.tp [vi a0.2.1.2] 0], VV.fn 71 [VV.tp [vb a0.2.2.1.1] 0, VV.tp [vi a0.2.2.1.2] 0], VV.fn 71 [VV.tp [vb a0.2.2.2.1.1] 0, VV.tp [vi a0.2.2.2.1.2] 0], VV.fn 71 [VV.tp [vb a0.2.2.2.2.1] 0, VV.tp [vi a0.2.2.2.2.2] 0]]) = some (VV.fn 71 [VV.tp [vb a0.1.1] 0, VV.tp [vi a0.1.2] 0]) from (Qee Qkn rfl))
 obtain ⟨r809, h810, h⟩ := bs h
 have e811 := (Xr k a0.1.1 a0.1.2 _ h810)
 rcases ifs h with ⟨h812, h⟩ | ⟨h812, h⟩
 ·have e813 := (show (0 : Int) <= 1 /\ (1 : Int) < ((5 : Nat) : Int) from ⟨by decide, by decide⟩)
  have e814 := (show Jw Try.prog 106 ((1 : Int).toNat * 1) ([VV.fn 71 [VV.tp [vb a0.1.1] 0, VV.tp [vi a0.1.2] 0], VV.fn 71 [VV.tp [vb a0.2.1.1] 0, VV.tp [vi a0.2.1.2] 0], VV.fn 71 [VV.tp [vb a0.2.2.1.1] 0, VV.tp [vi a0.2.2.1.2] 0], VV.fn 71 [VV.tp [vb a0.2.2.2.1.1] 0, VV.tp [vi a0.2.2.2.1.2] 0], VV.fn 71 [VV.tp [vb a0.2.2.2.2.1] 0, VV.tp [vi a0.2.2.2.2.2] 0]]) = some (VV.fn 71 [VV.tp [vb a0.2.1.1] 0, VV.tp [vi a0.2.1.2] 0]) from (Qee Qkn rfl))
  obtain ⟨r815, h816, h⟩ := bs h
  have e817 := (Xr k a0.2.1.1 a0.2.1.2 _ h816)
  rcases ifs h with ⟨h818, h⟩ | ⟨h818, h⟩
  ·have e819 := (show (0 : Int) <= 2 /\ (2 : Int) < ((5 : Nat) : Int) from ⟨by decide, by decide⟩)
   have e820 := (show Jw Try.prog 106 ((2 : Int).toNat * 1) ([VV.fn 71 [VV.tp [vb a0.1.1] 0, VV.tp [vi a0.1.2] 0], VV.fn 71 [VV.tp [vb a0.2.1.1] 0, VV.tp [vi a0.2.1.2] 0], VV.fn 71 [VV.tp [vb a0.2.2.1.1] 0, VV.tp [vi a0.2.2.1.2] 0], VV.fn 71 [VV.tp [vb a0.2.2.2.1.1] 0, VV.tp [vi a0.2.2.2.1.2] 0], VV.fn 71 [VV.tp [vb a0.2.2.2.2.1] 0, VV.tp [vi a0.2.2.2.2.2] 0]]) = some (VV.fn 71 [VV.tp [vb a0.2.2.1.1] 0, VV.tp [vi a0.2.2.1.2] 0]) from (Qee Qkn rfl))
   obtain ⟨r821, h822, h⟩ := bs h
   have e823 := (Xr k a0.2.2.1.1 a0.2.2.1.2 _ h822)
   rcases ifs h with ⟨h824, h⟩ | ⟨h824, h⟩
   ·have e825 := (show (0 : Int) <= 3 /\ (3 : Int) < ((5 : Nat) : Int) from ⟨by decide, by decide⟩)
    have e826 := (show Jw Try.prog 106 ((3 : Int).toNat * 1) ([VV.fn 71 [VV.tp [vb a0.1.1] 0, VV.tp [vi a0.1.2] 0], VV.fn 71 [VV.tp [vb a0.2.1.1] 0, VV.tp [vi a0.2.1.2] 0], VV.fn 71 [VV.tp [vb a0.2.2.1.1] 0, VV.tp [vi a0.2.2.1.2] 0], VV.fn 71 [VV.tp [vb a0.2.2.2.1.1] 0, VV.tp [vi a0.2.2.2.1.2] 0], VV.fn 71 [VV.tp [vb a0.2.2.2.2.1] 0, VV.tp [vi a0.2.2.2.2.2] 0]]) = some (VV.fn 71 [VV.tp [vb a0.2.2.2.1.1] 0, VV.tp [vi a0.2.2.2.1.2] 0]) from (Qee Qkn rfl))
    obtain ⟨r827, h828, h⟩ := bs h
    have e829 := (Xr k a0.2.2.2.1.1 a0.2.2.2.1.2 _ h828)
    rcases ifs h with ⟨h830, h⟩ | ⟨h830, h⟩
    ·have e831 := (show (0 : Int) <= 4 /\ (4 : Int) < ((5 : Nat) : Int) from ⟨by decide, by decide⟩)
     have e832 := (show Jw Try.prog 106 ((4 : Int).toNat * 1) ([VV.fn 71 [VV.tp [vb a0.1.1] 0, VV.tp [vi a0.1.2] 0], VV.fn 71 [VV.tp [vb a0.2.1.1] 0, VV.tp [vi a0.2.1.2] 0], VV.fn 71 [VV.tp [vb a0.2.2.1.1] 0, VV.tp [vi a0.2.2.1.2] 0], VV.fn 71 [VV.tp [vb a0.2.2.2.1.1] 0, VV.tp [vi a0.2.2.2.1.2] 0], VV.fn 71 [VV.tp [vb a0.2.2.2.2.1] 0, VV.tp [vi a0.2.2.2.2.2] 0]]) = some (VV.fn 71 [VV.tp [vb a0.2.2.2.2.1] 0, VV.tp [vi a0.2.2.2.2.2] 0]) from (Qee Qkn rfl))
     obtain ⟨r833, h834, h⟩ := bs h
     have e835 := (Xr k a0.2.2.2.2.1 a0.2.2.2.2.2 _ h834)
     rcases ifs h with ⟨h836, h⟩ | ⟨h836, h⟩
     ·injection h with h; subst h
      exact Qo pm pn Try.func47 (r0 := vi 0) (ans := [.reg (.n :: []), .reg (nN 3 []), .unr 7, .reg (.n :: []), .br true, .reg (.n :: .v (VV.fn 71 [VV.tp [vb a0.1.1] 0, VV.tp [vi a0.1.2] 0]) :: .n :: []), .reg (.n :: .call (vi r809) :: .n :: []), .reg (.n :: .n :: []), .br false, .reg (.n :: .n :: []), .reg (.n :: []), .br true, .reg (.n :: .v (VV.fn 71 [VV.tp [vb a0.2.1.1] 0, VV.tp [vi a0.2.1.2] 0]) :: .n :: []), .reg (.n :: .call (vi r815) :: .n :: []), .reg (.n :: .n :: []), .br false, .reg (.n :: .n :: []), .reg (.n :: []), .br true, .reg (.n :: .v (VV.fn 71 [VV.tp [vb a0.2.2.1.1] 0, VV.tp [vi a0.2.2.1.2] 0]) :: .n :: []), .reg (.n :: .call (vi r821) :: .n :: []), .reg (.n :: .n :: []), .br false, .reg (.n :: .n :: []), .reg (.n :: []), .br true, .reg (.n :: .v (VV.fn 71 [VV.tp [vb a0.2.2.2.1.1] 0, VV.tp [vi a0.2.2.2.1.2] 0]) :: .n :: []), .reg (.n :: .call (vi r827) :: .n :: []), .reg (.n :: .n :: []), .br false, .reg (.n :: .n :: []), .reg (.n :: []), .br true, .reg (.n :: .v (VV.fn 71 [VV.tp [vb a0.2.2.2.2.1] 0, VV.tp [vi a0.2.2.2.2.2] 0]) :: .n :: []), .reg (.n :: .call (vi r833) :: .n :: []), .reg (.n :: .n :: []), .br false, .reg (.n :: .n :: []), .reg (.n :: []), .br false, .reg (.n :: [])]) (fr := true) (by kernel_rfl) (an (an (ti tt) (an (an (ti (ti (ti tt))) (an (an (ti tt) (an (an (show (decide ((0 : Int) < 5)) = true from (dt (by decide))) tt) (an (an (an e807 (an e808 (ti tt))) (an (ti (an e811 (ti tt))) (an (ti (ti tt)) (an (Ql (dt h812)) tt)))) (ti (ti tt))))) (an (an (ti tt) (an (an (show (decide ((1 : Int) < 5)) = true from (dt (by decide))) tt) (an (an (an e813 (an e814 (ti tt))) (an (ti (an e817 (ti tt))) (an (ti (ti tt)) (an (Ql (dt h818)) tt)))) (ti (ti tt))))) (an (an (ti tt) (an (an (show (decide ((2 : Int) < 5)) = true from (dt (by decide))) tt) (an (an (an e819 (an e820 (ti tt))) (an (ti (an e823 (ti tt))) (an (ti (ti tt)) (an (Ql (dt h824)) tt)))) (ti (ti tt))))) (an (an (ti tt) (an (an (show (decide ((3 : Int) < 5)) = true from (dt (by decide))) tt) (an (an (an e825 (an e826 (ti tt))) (an (ti (an e829 (ti tt))) (an (ti (ti tt)) (an (Ql (dt h830)) tt)))) (ti (ti tt))))) (an (an (ti tt) (an (an (show (decide ((4 : Int) < 5)) = true from (dt (by decide))) tt) (an (an (an e831 (an e832 (ti tt))) (an (ti (an e835 (ti tt))) (an (ti (ti tt)) (an (Ql (dt h836)) tt)))) (ti (ti tt))))) (an (ti tt) (an (show (decide ((5 : Int) < 5)) = false from (df (by decide))) tt)))))))) (an (ti tt) tt))) (ti tt)) (Wv.refl _)
     ·injection h with h; subst h
      exact Qo pm pn Try.func47 (r0 := vi r833) (ans := [.reg (.n :: []), .reg (nN 3 []), .unr 6, .reg (.n :: []), .br true, .reg (.n :: .v (VV.fn 71 [VV.tp [vb a0.1.1] 0, VV.tp [vi a0.1.2] 0]) :: .n :: []), .reg (.n :: .call (vi r809) :: .n :: []), .reg (.n :: .n :: []), .br false, .reg (.n :: .n :: []), .reg (.n :: []), .br true, .reg (.n :: .v (VV.fn 71 [VV.tp [vb a0.2.1.1] 0, VV.tp [vi a0.2.1.2] 0]) :: .n :: []), .reg (.n :: .call (vi r815) :: .n :: []), .reg (.n :: .n :: []), .br false, .reg (.n :: .n :: []), .reg (.n :: []), .br true, .reg (.n :: .v (VV.fn 71 [VV.tp [vb a0.2.2.1.1] 0, VV.tp [vi a0.2.2.1.2] 0]) :: .n :: []), .reg (.n :: .call (vi r821) :: .n :: []), .reg (.n :: .n :: []), .br false, .reg (.n :: .n :: []), .reg (.n :: []), .br true, .reg (.n :: .v (VV.fn 71 [VV.tp [vb a0.2.2.2.1.1] 0, VV.tp [vi a0.2.2.2.1.2] 0]) :: .n :: []), .reg (.n :: .call (vi r827) :: .n :: []), .reg (.n :: .n :: []), .br false, .reg (.n :: .n :: []), .reg (.n :: []), .br true, .reg (.n :: .v (VV.fn 71 [VV.tp [vb a0.2.2.2.2.1] 0, VV.tp [vi a0.2.2.2.2.2] 0]) :: .n :: []), .reg (.n :: .call (vi r833) :: .n :: []), .reg (.n :: .n :: []), .br true, .reg (.n :: .n :: [])]) (fr := true) (by kernel_rfl) (an (an (ti tt) (an (ti (ti (ti tt))) (an (an (ti tt) (an (an (show (decide ((0 : Int) < 5)) = true from (dt (by decide))) tt) (an (an (an e807 (an e808 (ti tt))) (an (ti (an e811 (ti tt))) (an (ti (ti tt)) (an (Ql (dt h812)) tt)))) (ti (ti tt))))) (an (an (ti tt) (an (an (show (decide ((1 : Int) < 5)) = true from (dt (by decide))) tt) (an (an (an e813 (an e814 (ti tt))) (an (ti (an e817 (ti tt))) (an (ti (ti tt)) (an (Ql (dt h818)) tt)))) (ti (ti tt))))) (an (an (ti tt) (an (an (show (decide ((2 : Int) < 5)) = true from (dt (by decide))) tt) (an (an (an e819 (an e820 (ti tt))) (an (ti (an e823 (ti tt))) (an (ti (ti tt)) (an (Ql (dt h824)) tt)))) (ti (ti tt))))) (an (an (ti tt) (an (an (show (decide ((3 : Int) < 5)) = true from (dt (by decide))) tt) (an (an (an e825 (an e826 (ti tt))) (an (ti (an e829 (ti tt))) (an (ti (ti tt)) (an (Ql (dt h830)) tt)))) (ti (ti tt))))) (an (ti tt) (an (an (show (decide ((4 : Int) < 5)) = true from (dt (by decide))) tt) (an (an e831 (an e832 (ti tt))) (an (ti (an e835 (ti tt))) (an (ti (ti tt)) (an (Zd (df h836)) (an (ti (ti tt)) tt))))))))))))) (ti tt)) (Wv.refl _)
    ·injection h with h; subst h
     exact Qo pm pn Try.func47 (r0 := vi r827) (ans := [.reg (.n :: []), .reg (nN 3 []), .unr 5, .reg (.n :: []), .br true, .reg (.n :: .v (VV.fn 71 [VV.tp [vb a0.1.1] 0, VV.tp [vi a0.1.2] 0]) :: .n :: []), .reg (.n :: .call (vi r809) :: .n :: []), .reg (.n :: .n :: []), .br false, .reg (.n :: .n :: []), .reg (.n :: []), .br true, .reg (.n :: .v (VV.fn 71 [VV.tp [vb a0.2.1.1] 0, VV.tp [vi a0.2.1.2] 0]) :: .n :: []), .reg (.n :: .call (vi r815) :: .n :: []), .reg (.n :: .n :: []), .br false, .reg (.n :: .n :: []), .reg (.n :: []), .br true, .reg (.n :: .v (VV.fn 71 [VV.tp [vb a0.2.2.1.1] 0, VV.tp [vi a0.2.2.1.2] 0]) :: .n :: []), .reg (.n :: .call (vi r821) :: .n :: []), .reg (.n :: .n :: []), .br false, .reg (.n :: .n :: []), .reg (.n :: []), .br true, .reg (.n :: .v (VV.fn 71 [VV.tp [vb a0.2.2.2.1.1] 0, VV.tp [vi a0.2.2.2.1.2] 0]) :: .n :: []), .reg (.n :: .call (vi r827) :: .n :: []), .reg (.n :: .n :: []), .br true, .reg (.n :: .n :: [])]) (fr := true) (by kernel_rfl) (an (an (ti tt) (an (ti (ti (ti tt))) (an (an (ti tt) (an (an (show (decide ((0 : Int) < 5)) = true from (dt (by decide))) tt) (an (an (an e807 (an e808 (ti tt))) (an (ti (an e811 (ti tt))) (an (ti (ti tt)) (an (Ql (dt h812)) tt)))) (ti (ti tt))))) (an (an (ti tt) (an (an (show (decide ((1 : Int) < 5)) = true from (dt (by decide))) tt) (an (an (an e813 (an e814 (ti tt))) (an (ti (an e817 (ti tt))) (an (ti (ti tt)) (an (Ql (dt h818)) tt)))) (ti (ti tt))))) (an (an (ti tt) (an (an (show (decide ((2 : Int) < 5)) = true from (dt (by decide))) tt) (an (an (an e819 (an e820 (ti tt))) (an (ti (an e823 (ti tt))) (an (ti (ti tt)) (an (Ql (dt h824)) tt)))) (ti (ti tt))))) (an (ti tt) (an (an (show (decide ((3 : Int) < 5)) = true from (dt (by decide))) tt) (an (an e825 (an e826 (ti tt))) (an (ti (an e829 (ti tt))) (an (ti (ti tt)) (an (Zd (df h830)) (an (ti (ti tt)) tt)))))))))))) (ti tt)) (Wv.refl _)
   ·injection h with h; subst h
    exact Qo pm pn Try.func47 (r0 := vi r821) (ans := [.reg (.n :: []), .reg (nN 3 []), .unr 4, .reg (.n :: []), .br true, .reg (.n :: .v (VV.fn 71 [VV.tp [vb a0.1.1] 0, VV.tp [vi a0.1.2] 0]) :: .n :: []), .reg (.n :: .call (vi r809) :: .n :: []), .reg (.n :: .n :: []), .br false, .reg (.n :: .n :: []), .reg (.n :: []), .br true, .reg (.n :: .v (VV.fn 71 [VV.tp [vb a0.2.1.1] 0, VV.tp [vi a0.2.1.2] 0]) :: .n :: []), .reg (.n :: .call (vi r815) :: .n :: []), .reg (.n :: .n :: []), .br false, .reg (.n :: .n :: []), .reg (.n :: []), .br true, .reg (.n :: .v (VV.fn 71 [VV.tp [vb a0.2.2.1.1] 0, VV.tp [vi a0.2.2.1.2] 0]) :: .n :: []), .reg (.n :: .call (vi r821) :: .n :: []), .reg (.n :: .n :: []), .br true, .reg (.n :: .n :: [])]) (fr := true) (by kernel_rfl) (an (an (ti tt) (an (ti (ti (ti tt))) (an (an (ti tt) (an (an (show (decide ((0 : Int) < 5)) = true from (dt (by decide))) tt) (an (an (an e807 (an e808 (ti tt))) (an (ti (an e811 (ti tt))) (an (ti (ti tt)) (an (Ql (dt h812)) tt)))) (ti (ti tt))))) (an (an (ti tt) (an (an (show (decide ((1 : Int) < 5)) = true from (dt (by decide))) tt) (an (an (an e813 (an e814 (ti tt))) (an (ti (an e817 (ti tt))) (an (ti (ti tt)) (an (Ql (dt h818)) tt)))) (ti (ti tt))))) (an (ti tt) (an (an (show (decide ((2 : Int) < 5)) = true from (dt (by decide))) tt) (an (an e819 (an e820 (ti tt))) (an (ti (an e823 (ti tt))) (an (ti (ti tt)) (an (Zd (df h824)) (an (ti (ti tt)) tt))))))))))) (ti tt)) (Wv.refl _)
  ·injection h with h; subst h
   exact Qo pm pn Try.func47 (r0 := vi r815) (ans := [.reg (.n :: []), .reg (nN 3 []), .unr 3, .reg (.n :: []), .br true, .reg (.n :: .v (VV.fn 71 [VV.tp [vb a0.1.1] 0, VV.tp [vi a0.1.2] 0]) :: .n :: []), .reg (.n :: .call (vi r809) :: .n :: []), .reg (.n :: .n :: []), .br false, .reg (.n :: .n :: []), .reg (.n :: []), .br true, .reg (.n :: .v (VV.fn 71 [VV.tp [vb a0.2.1.1] 0, VV.tp [vi a0.2.1.2] 0]) :: .n :: []), .reg (.n :: .call (vi r815) :: .n :: []), .reg (.n :: .n :: []), .br true, .reg (.n :: .n :: [])]) (fr := true) (by kernel_rfl) (an (an (ti tt) (an (ti (ti (ti tt))) (an (an (ti tt) (an (an (show (decide ((0 : Int) < 5)) = true from (dt (by decide))) tt) (an (an (an e807 (an e808 (ti tt))) (an (ti (an e811 (ti tt))) (an (ti (ti tt)) (an (Ql (dt h812)) tt)))) (ti (ti tt))))) (an (ti tt) (an (an (show (decide ((1 : Int) < 5)) = true from (dt (by decide))) tt) (an (an e813 (an e814 (ti tt))) (an (ti (an e817 (ti tt))) (an (ti (ti tt)) (an (Zd (df h818)) (an (ti (ti tt)) tt)))))))))) (ti tt)) (Wv.refl _)
 ·injection h with h; subst h
  exact Qo pm pn Try.func47 (r0 := vi r809) (ans := [.reg (.n :: []), .reg (nN 3 []), .unr 2, .reg (.n :: []), .br true, .reg (.n :: .v (VV.fn 71 [VV.tp [vb a0.1.1] 0, VV.tp [vi a0.1.2] 0]) :: .n :: []), .reg (.n :: .call (vi r809) :: .n :: []), .reg (.n :: .n :: []), .br true, .reg (.n :: .n :: [])]) (fr := true) (by kernel_rfl) (an (an (ti tt) (an (ti (ti (ti tt))) (an (ti tt) (an (an (show (decide ((0 : Int) < 5)) = true from (dt (by decide))) tt) (an (an e807 (an e808 (ti tt))) (an (ti (an e811 (ti tt))) (an (ti (ti tt)) (an (Zd (df h812)) (an (ti (ti tt)) tt))))))))) (ti tt)) (Wv.refl _)
theorem Qv5 (z0 : (Bool × Int)) (z1 : (Bool × Int)) (z2 : (Bool × Int)) (z3 : (Bool × Int)) (z4 : (Bool × Int)) : [VV.tr ([VV.fn 71 [VV.tp [vb (((z0, z1, z2, z3, z4).1).1)] 0, VV.tp [vi (((z0, z1, z2, z3, z4).1).2)] 0], VV.fn 71 [VV.tp [vb (((z0, z1, z2, z3, z4).2.1).1)] 0, VV.tp [vi (((z0, z1, z2, z3, z4).2.1).2)] 0], VV.fn 71 [VV.tp [vb (((z0, z1, z2, z3, z4).2.2.1).1)] 0, VV.tp [vi (((z0, z1, z2, z3, z4).2.2.1).2)] 0], VV.fn 71 [VV.tp [vb (((z0, z1, z2, z3, z4).2.2.2.1).1)] 0, VV.tp [vi (((z0, z1, z2, z3, z4).2.2.2.1).2)] 0], VV.fn 71 [VV.tp [vb (((z0, z1, z2, z3, z4).2.2.2.2).1)] 0, VV.tp [vi (((z0, z1, z2, z3, z4).2.2.2.2).2)] 0]]) 5] = [VV.tr (List.drop 0 (List.map unfr [VV.fn 71 [VV.tp [vb z0.1] 0, VV.tp [vi z0.2] 0], VV.fn 71 [VV.tp [vb z1.1] 0, VV.tp [vi z1.2] 0], VV.fn 71 [VV.tp [vb z2.1] 0, VV.tp [vi z2.2] 0], VV.fn 71 [VV.tp [vb z3.1] 0, VV.tp [vi z3.2] 0], VV.fn 71 [VV.tp [vb z4.1] 0, VV.tp [vi z4.2] 0]])) 5] := by first | rfl | (simp only [Qcc, X5, Wi, map_cons, map_nil, un_i, un_b, Qcd]; done) | (simp only [Qcc, X5, Wi, map_cons, map_nil, un_i, un_b, Qcd]; rfl) | (simp only [Qcc, X5, Wi, map_cons, map_nil, un_i, un_b, Qcd, length_cons, length_nil, length_append]; done)
def Qsk (z0 : Bool) (z1 : (Bool × Int)) (z2 : (Bool × Int)) (z3 : (Bool × Int)) (z4 : (Bool × Int)) (z5 : (Bool × Int)) (z6 : Int) : List Ans := (.n :: .n :: .call (vb z0) :: .call (VV.fn 71 [VV.tp [vb z1.1] 0, VV.tp [vi z1.2] 0]) :: .n :: .n :: .call (VV.fn 71 [VV.tp [vb z2.1] 0, VV.tp [vi z2.2] 0]) :: .n :: .n :: .call (VV.fn 71 [VV.tp [vb z3.1] 0, VV.tp [vi z3.2] 0]) :: .n :: .n :: .call (VV.fn 71 [VV.tp [vb z4.1] 0, VV.tp [vi z4.2] 0]) :: .n :: .n :: .call (VV.fn 71 [VV.tp [vb z5.1] 0, VV.tp [vi z5.2] 0]) :: .n :: .call (vi z6) :: .n :: [])
noncomputable def Qsl (z0 : List (ByteArray × Bool)) (z1 : (List Qd)) (z2 : Int) (z3 : Bool) (z4 : (Bool × Int)) (z5 : (Bool × Int)) (z6 : (Bool × Int)) (z7 : (Bool × Int)) (z8 : (Bool × Int)) (z9 : Int) : List Ans := (.n :: .n :: .inl (inlF Try.f82 [.reg (.n :: .n :: []), .reg (nN 3 (.v (vb (mget z0 ((z1.getD z2.toNat default).Name))) :: .n :: [])), .reg (nN 4 []), .reg (Qsk z3 z4 z5 z6 z7 z8 z9)]) :: .n :: [])
noncomputable def Qsm (z0 : Bool) (z1 : (Bool × Int)) (z2 : (Bool × Int)) (z3 : (Bool × Int)) (z4 : (Bool × Int)) (z5 : (Bool × Int)) (z6 : Int) : List Ans := (.n :: .n :: .inl (inlF Try.f82 [.reg (.n :: .n :: []), .reg (nN 3 (.b false :: .n :: [])), .reg (nN 4 []), .reg (Qsk z0 z1 z2 z3 z4 z5 z6)]) :: .n :: [])
def Zl (a0 : (List Qd)) (r990 : (Bool × Int)) (r995 : Int) (y0 : List (ByteArray × Bool)) (x8 : Int) : VS := ⟨mkA [(1, VV.pt 3 0), (6, VV.tr (flatMap Qc a0) a0.length), (7, vi (a0.length : Int)), (8, vi x8)], [some ⟨true, bigX + 1, flatMap (mpE vb) y0⟩, some ⟨true, 1, [VV.mp 0]⟩, none, some ⟨true, 1, [VV.fn 82 [VV.pt 1 0]]⟩, some ⟨true, 1, [VV.fn 71 [VV.tp [vb r990.1] 0, VV.tp [vi r990.2] 0], VV.fn 92 [VV.tp [VV.tr (flatMap Qc a0) a0.length] 0, VV.pt 3 0]]⟩], (.node none (mkA [(0, VV.rf 4 0 2), (2, vi 0), (4, VV.fn 92 [VV.tp [VV.tr (flatMap Qc a0) a0.length] 0, VV.pt 3 0]), (5, vi r995), (6, VV.rf 4 0 2), (7, vi 2), (8, vi 1), (9, vb (decide ((1 : Int) < 2))), (10, VV.pt 4 1), (11, VV.fn 92 [VV.tp [VV.tr (flatMap Qc a0) a0.length] 0, VV.pt 3 0]), (12, VV.fn 92 [VV.tp [VV.tr (flatMap Qc a0) a0.length] 0, VV.pt 3 0]), (13, vi r995), (14, vi r995), (15, vb (!(decide (r995 = 0)))), (17, vi 1)]) (.node none (mkA [(0, VV.tr (flatMap Qc a0) a0.length), (2, vi 0), (3, VV.pt 1 0), (4, VV.mp 0), (5, VV.tr (flatMap Qc a0) a0.length), (6, vi (a0.length : Int)), (7, vb (decide ((a0.length : Int) <= 40))), (8, VV.fn 71 [VV.tp [vb r990.1] 0, VV.tp [vi r990.2] 0]), (9, VV.tr (flatMap Qc a0) a0.length), (10, VV.fn 82 [VV.pt 1 0]), (11, VV.fn 92 [VV.tp [VV.tr (flatMap Qc a0) a0.length] 0, VV.pt 3 0]), (12, VV.rf 4 0 2)]) .nil))⟩
def Z5 (a0 : (List Qd)) (r990 : (Bool × Int)) (r995 : Int) (r : Int × (List (ByteArray × Bool))) : VS := ⟨mkA [(2, vi r.1)], [some ⟨true, bigX + 1, flatMap (mpE vb) r.2⟩, some ⟨true, 1, [VV.mp 0]⟩, none, some ⟨true, 1, [VV.fn 82 [VV.pt 1 0]]⟩, some ⟨true, 1, [VV.fn 71 [VV.tp [vb r990.1] 0, VV.tp [vi r990.2] 0], VV.fn 92 [VV.tp [VV.tr (flatMap Qc a0) a0.length] 0, VV.pt 3 0]]⟩], (.node none (mkA [(0, VV.rf 4 0 2), (2, vi 0), (4, VV.fn 92 [VV.tp [VV.tr (flatMap Qc a0) a0.length] 0, VV.pt 3 0]), (5, vi r995), (6, VV.rf 4 0 2), (7, vi 2), (8, vi 1), (9, vb (decide ((1 : Int) < 2))), (10, VV.pt 4 1), (11, VV.fn 92 [VV.tp [VV.tr (flatMap Qc a0) a0.length] 0, VV.pt 3 0]), (12, VV.fn 92 [VV.tp [VV.tr (flatMap Qc a0) a0.length] 0, VV.pt 3 0]), (13, vi r995), (14, vi r995), (15, vb (!(decide (r995 = 0)))), (17, vi 1)]) (.node none (mkA [(0, VV.tr (flatMap Qc a0) a0.length), (2, vi 0), (3, VV.pt 1 0), (4, VV.mp 0), (5, VV.tr (flatMap Qc a0) a0.length), (6, vi (a0.length : Int)), (7, vb (decide ((a0.length : Int) <= 40))), (8, VV.fn 71 [VV.tp [vb r990.1] 0, VV.tp [vi r990.2] 0]), (9, VV.tr (flatMap Qc a0) a0.length), (10, VV.fn 82 [VV.pt 1 0]), (11, VV.fn 92 [VV.tp [VV.tr (flatMap Qc a0) a0.length] 0, VV.pt 3 0]), (12, VV.rf 4 0 2)]) .nil))⟩
def X7 (a0 : (List Qd)) (r990 : (Bool × Int)) (r995 : Int) (r : (List (ByteArray × Bool))) : VS := ⟨mkA [], [some ⟨true, bigX + 1, flatMap (mpE vb) r⟩, some ⟨true, 1, [VV.mp 0]⟩, none, some ⟨true, 1, [VV.fn 82 [VV.pt 1 0]]⟩, some ⟨true, 1, [VV.fn 71 [VV.tp [vb r990.1] 0, VV.tp [vi r990.2] 0], VV.fn 92 [VV.tp [VV.tr (flatMap Qc a0) a0.length] 0, VV.pt 3 0]]⟩], (.node none (mkA [(0, VV.rf 4 0 2), (2, vi 0), (4, VV.fn 92 [VV.tp [VV.tr (flatMap Qc a0) a0.length] 0, VV.pt 3 0]), (5, vi r995), (6, VV.rf 4 0 2), (7, vi 2), (8, vi 1), (9, vb (decide ((1 : Int) < 2))), (10, VV.pt 4 1), (11, VV.fn 92 [VV.tp [VV.tr (flatMap Qc a0) a0.length] 0, VV.pt 3 0]), (12, VV.fn 92 [VV.tp [VV.tr (flatMap Qc a0) a0.length] 0, VV.pt 3 0]), (13, vi r995), (14, vi r995), (15, vb (!(decide (r995 = 0)))), (17, vi 1)]) (.node none (mkA [(0, VV.tr (flatMap Qc a0) a0.length), (2, vi 0), (3, VV.pt 1 0), (4, VV.mp 0), (5, VV.tr (flatMap Qc a0) a0.length), (6, vi (a0.length : Int)), (7, vb (decide ((a0.length : Int) <= 40))), (8, VV.fn 71 [VV.tp [vb r990.1] 0, VV.tp [vi r990.2] 0]), (9, VV.tr (flatMap Qc a0) a0.length), (10, VV.fn 82 [VV.pt 1 0]), (11, VV.fn 92 [VV.tp [VV.tr (flatMap Qc a0) a0.length] 0, VV.pt 3 0]), (12, VV.rf 4 0 2)]) .nil))⟩
def Qu (k : Nat) (a0 : (List Qd)) (r990 : (Bool × Int)) (r995 : Int) : Nat -> (List (ByteArray × Bool)) -> Int -> Option (Sum (Int × (List (ByteArray × Bool))) (List (ByteArray × Bool)))
 | 0, _, _ => none
 | fuel + 1, y0, x8 => if x8 < (a0.length : Int) then (if 0 <= x8 /\ x8 < (a0.length : Int) then (if mhas y0 ((a0.getD x8.toNat default).Name) = true then ((Ym k ((a0.getD x8.toNat default).Name)).bind fun r1113 => ((Zh k r1113 4).bind fun r1116 => ((Zh k (!(mget y0 ((a0.getD x8.toNat default).Name))) 5).bind fun r1118 => ((Xu k ((a0.getD x8.toNat default).Diameter) 1 1000).bind fun r1121 => ((Xu k ((a0.getD x8.toNat default).Thick) 1 500).bind fun r1124 => ((Xu k ((a0.getD x8.toNat default).Count) 0 1000).bind fun r1127 => ((Qg k (r1116, r1118, r1121, r1124, r1127)).bind fun r1130 => (if r1130 = 0 then (Qu k a0 r990 r995 fuel (mset y0 ((a0.getD x8.toNat default).Name) true) (w64 (x8 + 1))) else (some (.inl (r1130, mset y0 ((a0.getD x8.toNat default).Name) true))))))))))) else ((Ym k ((a0.getD x8.toNat default).Name)).bind fun r1138 => ((Zh k r1138 4).bind fun r1141 => ((Zh k (!false) 5).bind fun r1143 => ((Xu k ((a0.getD x8.toNat default).Diameter) 1 1000).bind fun r1145 => ((Xu k ((a0.getD x8.toNat default).Thick) 1 500).bind fun r1148 => ((Xu k ((a0.getD x8.toNat default).Count) 0 1000).bind fun r1151 => ((Qg k (r1141, r1143, r1145, r1148, r1151)).bind fun r1154 => (if r1154 = 0 then (Qu k a0 r990 r995 fuel (mset y0 ((a0.getD x8.toNat default).Name) true) (w64 (x8 + 1))) else (some (.inl (r1154, mset y0 ((a0.getD x8.toNat default).Name) true)))))))))))) else none) else (some (.inr y0))
theorem Qa9 (k : Nat) (a0 : (List Qd)) (r990 : (Bool × Int)) (r995 : Int) : ∀ (fuel : Nat) (y0 : List (ByteArray × Bool)) (x8 : Int) (r : Sum (Int × (List (ByteArray × Bool))) (List (ByteArray × Bool))), Qu k a0 r990 r995 fuel y0 x8 = some r -> (match r with | .inl r => Ya none Try.prog (szF Try.f92) (X9 Try.f92 0) (Zl a0 r990 r995 y0 x8) .ret (Z5 a0 r990 r995 r) | .inr r => Ya none Try.prog (szF Try.f92) (X9 Try.f92 0) (Zl a0 r990 r995 y0 x8) (.exit 0) (X7 a0 r990 r995 r)) := by
 intro fuel
 induction fuel with
 | zero => intro y0 x8 r h; rw [Qu.eq_1] at h; cases h
 | succ fuel ih =>
  intro y0 x8 r h
  rw [Qu.eq_2] at h
  rcases ifs h with ⟨h1107, h⟩ | ⟨h1107, h⟩
  ·obtain ⟨h1108, h⟩ := ifn h
   have e1109 := (show Jw Try.prog 67 (x8.toNat * 4) (flatMap Qc a0) = some (VV.ag (Qc (a0.getD x8.toNat default))) from Qfw ag67 Qc 4 sz67 Zg a0 default h1108 (by omega))
   rcases ifs h with ⟨h1110, h⟩ | ⟨h1110, h⟩
   ·have e1111 := (show Qbo (kdV (.string ((a0.getD x8.toNat default).Name))) (flatMap (mpE vb) y0) = true /\ lkM (.string ((a0.getD x8.toNat default).Name)) (flatMap (mpE vb) y0) = some (vb (mget y0 ((a0.getD x8.toNat default).Name))) from ⟨(Yg vb ((a0.getD x8.toNat default).Name) y0), (Qh4 vb ((a0.getD x8.toNat default).Name) y0 h1110)⟩)
    have e1112 := (show Qbo (kdV (.string ((a0.getD x8.toNat default).Name))) (flatMap (mpE vb) y0) = true from (Yg vb ((a0.getD x8.toNat default).Name) y0))
    obtain ⟨r1113, h1114, h⟩ := bs h
    have e1115 := (Qa4 k ((a0.getD x8.toNat default).Name) _ h1114)
    obtain ⟨r1116, h1117, h⟩ := bs h
    obtain ⟨r1118, h1119, h⟩ := bs h
    have e1120 := (Zc k (!(mget y0 ((a0.getD x8.toNat default).Name))) 5 _ h1119)
    obtain ⟨r1121, h1122, h⟩ := bs h
    have e1123 := (Wj k ((a0.getD x8.toNat default).Diameter) 1 1000 _ h1122)
    obtain ⟨r1124, h1125, h⟩ := bs h
    have e1126 := (Wj k ((a0.getD x8.toNat default).Thick) 1 500 _ h1125)
    obtain ⟨r1127, h1128, h⟩ := bs h
    have e1129 := (Wj k ((a0.getD x8.toNat default).Count) 0 1000 _ h1128)
    obtain ⟨r1130, h1131, h⟩ := bs h
    have e1132 := (VC.args (Ze k (r1116, r1118, r1121, r1124, r1127) _ h1131) (Qv5 r1116 r1118 r1121 r1124 r1127))
    have e1133 := (ti (ti (an e1115 (an (Zc k r1113 4 _ h1117) (ti (ti (an e1120 (ti (ti (an e1123 (ti (ti (an e1126 (ti (ti (an e1129 (ti (an e1132 (ti tt)))))))))))))))))))
    have e1134 := (an (an Try.func82 (an (ti (ti tt)) (an (ti (ti (ti (an e1111 (ti tt))))) (an (ti (ti (ti (an e1112 tt)))) (an e1133 tt))))) (ti tt))
    rcases ifs h with ⟨h1135, h⟩ | ⟨h1135, h⟩
    ·have h2 := ih _ _ _ h
     obtain ⟨q, hv, hq⟩ := pkR (rd := none) (P := Try.prog) (fn := Try.f92) (k := 0) (s := (Zl a0 r990 r995 y0 x8)) (ans := [.reg (.n :: []), .br true, .reg (.n :: .v (VV.ag (Qc (a0.getD x8.toNat default))) :: .n :: .n :: []), .reg (Qsl y0 a0 x8 r1113 r1116 r1118 r1121 r1124 r1127 r1130), .reg (.n :: .n :: []), .br false, .reg (.n :: .n :: [])]) (c := ⟨[(1, none), (6, none), (7, none), (8, none)], [some (flatMap (mpE vb) (mset y0 ((a0.getD x8.toNat default).Name) true)), none, none, none, none], []⟩) (e := .normal) (s1 := (Zl a0 r990 r995 (mset y0 ((a0.getD x8.toNat default).Name) true) (w64 (x8 + 1)))) (an (an (ti tt) (an (an (dt h1107) tt) (an (an (an h1108 (an e1109 (ti (ti tt)))) (an (ti (ti (an e1134 (ti tt)))) (an (ti (ti tt)) (an (Ql (dt h1135)) tt)))) (ti (ti tt))))) (ti (an (show upM (.string ((a0.getD x8.toNat default).Name)) (vb true) (flatMap (mpE vb) y0) = flatMap (mpE vb) (mset y0 ((a0.getD x8.toNat default).Name) true) from (by exact Qda vb ((a0.getD x8.toNat default).Name) true y0)) tt))) (by kernel_rfl)
     cases r with
     | inl r => exact Qp pm pn hv hq h2
     | inr r =>
      exact Qp pm pn hv hq h2
    ·injection h with h; subst h
     exact Qq (c := ⟨[(2, none)], [some (flatMap (mpE vb) (mset y0 ((a0.getD x8.toNat default).Name) true)), none, none, none, none], []⟩) (s1 := (Z5 a0 r990 r995 (r1130, mset y0 ((a0.getD x8.toNat default).Name) true))) pm pn (ans := [.reg (.n :: []), .br true, .reg (.n :: .v (VV.ag (Qc (a0.getD x8.toNat default))) :: .n :: .n :: []), .reg (Qsl y0 a0 x8 r1113 r1116 r1118 r1121 r1124 r1127 r1130), .reg (.n :: .n :: []), .br true, .reg (.n :: .n :: [])]) (by kernel_rfl) (by intro e; cases e) (an (an (ti tt) (an (an (dt h1107) tt) (an (an h1108 (an e1109 (ti (ti tt)))) (an (ti (ti (an e1134 (ti tt)))) (an (ti (ti tt)) (an (Zd (df h1135)) (an (ti (ti tt)) tt))))))) (ti (an (show upM (.string ((a0.getD x8.toNat default).Name)) (vb true) (flatMap (mpE vb) y0) = flatMap (mpE vb) (mset y0 ((a0.getD x8.toNat default).Name) true) from (by exact Qda vb ((a0.getD x8.toNat default).Name) true y0)) tt)))
   ·have e1136 := (show Qbo (kdV (.string ((a0.getD x8.toNat default).Name))) (flatMap (mpE vb) y0) = true /\ lkM (.string ((a0.getD x8.toNat default).Name)) (flatMap (mpE vb) y0) = none from ⟨(Yg vb ((a0.getD x8.toNat default).Name) y0), (Ql3 vb ((a0.getD x8.toNat default).Name) y0 (Qz h1110))⟩)
    have e1137 := (show Qbo (kdV (.string ((a0.getD x8.toNat default).Name))) (flatMap (mpE vb) y0) = true from (Yg vb ((a0.getD x8.toNat default).Name) y0))
    obtain ⟨r1138, h1139, h⟩ := bs h
    have e1140 := (Qa4 k ((a0.getD x8.toNat default).Name) _ h1139)
    obtain ⟨r1141, h1142, h⟩ := bs h
    obtain ⟨r1143, h1144, h⟩ := bs h
    obtain ⟨r1145, h1146, h⟩ := bs h
    have e1147 := (Wj k ((a0.getD x8.toNat default).Diameter) 1 1000 _ h1146)
    obtain ⟨r1148, h1149, h⟩ := bs h
    have e1150 := (Wj k ((a0.getD x8.toNat default).Thick) 1 500 _ h1149)
    obtain ⟨r1151, h1152, h⟩ := bs h
    have e1153 := (Wj k ((a0.getD x8.toNat default).Count) 0 1000 _ h1152)
    obtain ⟨r1154, h1155, h⟩ := bs h
    have e1156 := (VC.args (Ze k (r1141, r1143, r1145, r1148, r1151) _ h1155) (Qv5 r1141 r1143 r1145 r1148 r1151))
    have e1157 := (ti (ti (an e1140 (an (Zc k r1138 4 _ h1142) (ti (ti (an (Zc k (!false) 5 _ h1144) (ti (ti (an e1147 (ti (ti (an e1150 (ti (ti (an e1153 (ti (an e1156 (ti tt)))))))))))))))))))
    have e1158 := (an (an Try.func82 (an (ti (ti tt)) (an (ti (ti (ti (an e1136 (ti tt))))) (an (ti (ti (ti (an e1137 tt)))) (an e1157 tt))))) (ti tt))
    rcases ifs h with ⟨h1159, h⟩ | ⟨h1159, h⟩
    ·have h2 := ih _ _ _ h
     obtain ⟨q, hv, hq⟩ := pkR (rd := none) (P := Try.prog) (fn := Try.f92) (k := 0) (s := (Zl a0 r990 r995 y0 x8)) (ans := [.reg (.n :: []), .br true, .reg (.n :: .v (VV.ag (Qc (a0.getD x8.toNat default))) :: .n :: .n :: []), .reg (Qsm r1138 r1141 r1143 r1145 r1148 r1151 r1154), .reg (.n :: .n :: []), .br false, .reg (.n :: .n :: [])]) (c := ⟨[(1, none), (6, none), (7, none), (8, none)], [some (flatMap (mpE vb) (mset y0 ((a0.getD x8.toNat default).Name) true)), none, none, none, none], []⟩) (e := .normal) (s1 := (Zl a0 r990 r995 (mset y0 ((a0.getD x8.toNat default).Name) true) (w64 (x8 + 1)))) (an (an (ti tt) (an (an (dt h1107) tt) (an (an (an h1108 (an e1109 (ti (ti tt)))) (an (ti (ti (an e1158 (ti tt)))) (an (ti (ti tt)) (an (Ql (dt h1159)) tt)))) (ti (ti tt))))) (ti (an (show upM (.string ((a0.getD x8.toNat default).Name)) (vb true) (flatMap (mpE vb) y0) = flatMap (mpE vb) (mset y0 ((a0.getD x8.toNat default).Name) true) from (by exact Qda vb ((a0.getD x8.toNat default).Name) true y0)) tt))) (by kernel_rfl)
     cases r with
     | inl r => exact Qp pm pn hv hq h2
     | inr r =>
      exact Qp pm pn hv hq h2
    ·injection h with h; subst h
     exact Qq (c := ⟨[(2, none)], [some (flatMap (mpE vb) (mset y0 ((a0.getD x8.toNat default).Name) true)), none, none, none, none], []⟩) (s1 := (Z5 a0 r990 r995 (r1154, mset y0 ((a0.getD x8.toNat default).Name) true))) pm pn (ans := [.reg (.n :: []), .br true, .reg (.n :: .v (VV.ag (Qc (a0.getD x8.toNat default))) :: .n :: .n :: []), .reg (Qsm r1138 r1141 r1143 r1145 r1148 r1151 r1154), .reg (.n :: .n :: []), .br true, .reg (.n :: .n :: [])]) (by kernel_rfl) (by intro e; cases e) (an (an (ti tt) (an (an (dt h1107) tt) (an (an h1108 (an e1109 (ti (ti tt)))) (an (ti (ti (an e1158 (ti tt)))) (an (ti (ti tt)) (an (Zd (df h1159)) (an (ti (ti tt)) tt))))))) (ti (an (show upM (.string ((a0.getD x8.toNat default).Name)) (vb true) (flatMap (mpE vb) y0) = flatMap (mpE vb) (mset y0 ((a0.getD x8.toNat default).Name) true) from (by exact Qda vb ((a0.getD x8.toNat default).Name) true y0)) tt)))
  ·injection h with h; subst h
   exact Qq (c := ⟨[], [none, none, none, none, none], []⟩) (s1 := (X7 a0 r990 r995 y0)) pm pn (ans := [.reg (.n :: []), .br false]) (by kernel_rfl) (by intro e; cases e) (an (an (ti tt) (an (df h1107) tt)) (ti tt))
noncomputable def Qw9 (z0 : (Bool × Int)) (z1 : Int) : List Ans := (nN 3 (.call (VV.fn 71 [VV.tp [vb z0.1] 0, VV.tp [vi z0.2] 0]) :: .n :: .n :: .inl (inlF Try.f81 [.reg (nN 3 []), .frz 2, .reg (.n :: .n :: [])]) :: .n :: .inl (inlF Try.f47 [.reg (.n :: []), .reg (nN 3 []), .unr 2, .reg (.n :: []), .br true, .reg (.v (VV.pt 4 0) :: .n :: .n :: []), .reg (.n :: .call (vi z1) :: .n :: []), .reg (.n :: .n :: []), .br true, .reg (.n :: .n :: [])]) :: .n :: []))
def Y4 (k : Nat) (a0 : (List Qd)) : Option Int :=
 (Zh k (decide ((a0.length : Int) <= 40)) 8).bind fun r990 => ((Xl k r990.1 r990.2).bind fun r995 => (if r995 = 0 then ((Qu k a0 r990 r995 k ([] : List (ByteArray × Bool)) 0).bind fun r1161 => (match r1161 with | .inl r1162 => (if r1162.1 = 0 then (some 0) else (some r1162.1)) | .inr r1163 => (some 0))) else (some r995)))
theorem Qei (k : Nat) (a0 : (List Qd)) (r : Int) (h : Y4 k a0 = some r) : VC Try.prog 63 [VV.tr (flatMap Qc a0) a0.length] (vi r) := by
 unfold Y4 at h
 obtain ⟨r990, h991, h⟩ := bs h
 have e992 := (Zc k (decide ((a0.length : Int) <= 40)) 8 _ h991)
 have e993 := (an (an Try.func81 (an (ti (ti (ti tt))) (an (ti (ti tt)) tt))) (ti tt))
 have e994 := (show ((0 : Int) <= 0 /\ (0 : Int) < ((2 : Nat) : Int)) /\ VV.pt 4 (0 + (0 : Int).toNat * 1) = VV.pt 4 0 from ⟨⟨by decide, by decide⟩, rfl⟩)
 obtain ⟨r995, h996, h⟩ := bs h
 have e997 := (Xr k r990.1 r990.2 _ h996)
 rcases ifs h with ⟨h998, h⟩ | ⟨h998, h⟩
 ·have e999 := (show ((0 : Int) <= 1 /\ (1 : Int) < ((2 : Nat) : Int)) /\ VV.pt 4 (0 + (1 : Int).toNat * 1) = VV.pt 4 1 from ⟨⟨by decide, by decide⟩, rfl⟩)
  have e1000 := (show Jw Try.prog 22 0 [VV.tr (flatMap Qc a0) a0.length] = some (VV.tr (flatMap Qc a0) a0.length) from (Qee ag22 rfl))
  obtain ⟨r1161, h1160, h⟩ := bs h
  have hph1160 := Qa9 k a0 r990 r995 _ _ _ _ h1160
  cases r1161 with
  | inl r1162 =>
   dsimp only at h
   have e1164 := (an (ti (an (show [] = flatMap (mpE vb) ([] : List (ByteArray × Bool)) from rfl) tt)) (VRun.loop hph1160))
   have e1165 := (an (an Try.func92 (an (ti tt) (an (an e1000 (ti (ti tt))) e1164))) (ti tt))
   rcases ifs h with ⟨h1166, h⟩ | ⟨h1166, h⟩
   ·have e1167 := (an (an Try.func47 (an (ti tt) (an (an (ti (ti (ti tt))) (an (an (ti tt) (an (an (show (decide ((0 : Int) < 2)) = true from (dt (by decide))) tt) (an (an (an e994 (ti (ti tt))) (an (ti (an e997 (ti tt))) (an (ti (ti tt)) (an (Ql (dt h998)) tt)))) (ti (ti tt))))) (an (an (ti tt) (an (an (show (decide ((1 : Int) < 2)) = true from (dt (by decide))) tt) (an (an (an e999 (ti (ti tt))) (an (ti (an e1165 (ti tt))) (an (ti (ti tt)) (an (Ql (dt h1166)) tt)))) (ti (ti tt))))) (an (ti tt) (an (show (decide ((2 : Int) < 2)) = false from (df (by decide))) tt))))) (an (ti tt) tt)))) (ti tt))
    have e1168 := (ti (ti (ti (an e992 (ti (ti (an e993 (ti (an e1167 (ti tt))))))))))
    injection h with h; subst h
    exact Qo pm pn Try.func63 (r0 := vi 0) (ans := [.reg (.n :: []), .reg (nN 3 []), .reg (nN 3 (.call (VV.fn 71 [VV.tp [vb r990.1] 0, VV.tp [vi r990.2] 0]) :: .n :: .n :: .inl (inlF Try.f81 [.reg (nN 3 []), .frz 2, .reg (.n :: .n :: [])]) :: .n :: .inl (inlF Try.f47 [.reg (.n :: []), .reg (nN 3 []), .unr 4, .reg (.n :: []), .br true, .reg (.v (VV.pt 4 0) :: .n :: .n :: []), .reg (.n :: .call (vi r995) :: .n :: []), .reg (.n :: .n :: []), .br false, .reg (.n :: .n :: []), .reg (.n :: []), .br true, .reg (.v (VV.pt 4 1) :: .n :: .n :: []), .reg (.n :: .inl (inlF Try.f92 [.reg (.n :: []), .reg (.v (VV.tr (flatMap Qc a0) a0.length) :: .n :: .n :: []), .sub ⟨[(1, none), (6, none), (7, none), (8, none)], [some (flatMap (mpE vb) ([] : List (ByteArray × Bool))), none, none, none, none], []⟩ .ret (Z5 a0 r990 r995 r1162)]) :: .n :: []), .reg (.n :: .n :: []), .br false, .reg (.n :: .n :: []), .reg (.n :: []), .br false, .reg (.n :: [])]) :: .n :: []))]) (fr := true) (by kernel_rfl) (an (an (ti tt) (an (ti (ti (ti tt))) (an e1168 tt))) (ti tt)) (Wv.refl _)
   ·have e1169 := (an (an Try.func47 (an (ti tt) (an (ti (ti (ti tt))) (an (an (ti tt) (an (an (show (decide ((0 : Int) < 2)) = true from (dt (by decide))) tt) (an (an (an e994 (ti (ti tt))) (an (ti (an e997 (ti tt))) (an (ti (ti tt)) (an (Ql (dt h998)) tt)))) (ti (ti tt))))) (an (ti tt) (an (an (show (decide ((1 : Int) < 2)) = true from (dt (by decide))) tt) (an (an e999 (ti (ti tt))) (an (ti (an e1165 (ti tt))) (an (ti (ti tt)) (an (Zd (df h1166)) (an (ti (ti tt)) tt))))))))))) (ti tt))
    have e1170 := (ti (ti (ti (an e992 (ti (ti (an e993 (ti (an e1169 (ti tt))))))))))
    injection h with h; subst h
    exact Qo pm pn Try.func63 (r0 := vi r1162.1) (ans := [.reg (.n :: []), .reg (nN 3 []), .reg (nN 3 (.call (VV.fn 71 [VV.tp [vb r990.1] 0, VV.tp [vi r990.2] 0]) :: .n :: .n :: .inl (inlF Try.f81 [.reg (nN 3 []), .frz 2, .reg (.n :: .n :: [])]) :: .n :: .inl (inlF Try.f47 [.reg (.n :: []), .reg (nN 3 []), .unr 3, .reg (.n :: []), .br true, .reg (.v (VV.pt 4 0) :: .n :: .n :: []), .reg (.n :: .call (vi r995) :: .n :: []), .reg (.n :: .n :: []), .br false, .reg (.n :: .n :: []), .reg (.n :: []), .br true, .reg (.v (VV.pt 4 1) :: .n :: .n :: []), .reg (.n :: .inl (inlF Try.f92 [.reg (.n :: []), .reg (.v (VV.tr (flatMap Qc a0) a0.length) :: .n :: .n :: []), .sub ⟨[(1, none), (6, none), (7, none), (8, none)], [some (flatMap (mpE vb) ([] : List (ByteArray × Bool))), none, none, none, none], []⟩ .ret (Z5 a0 r990 r995 r1162)]) :: .n :: []), .reg (.n :: .n :: []), .br true, .reg (.n :: .n :: [])]) :: .n :: []))]) (fr := true) (by kernel_rfl) (an (an (ti tt) (an (ti (ti (ti tt))) (an e1170 tt))) (ti tt)) (Wv.refl _)
  | inr r1163 =>
   dsimp only at h
   have e1171 := (an (ti (an (show [] = flatMap (mpE vb) ([] : List (ByteArray × Bool)) from rfl) tt)) (VRun.loop hph1160))
   have e1172 := (an (an Try.func92 (an (ti tt) (an (an (an e1000 (ti (ti tt))) e1171) (an (ti tt) tt)))) (ti tt))
   have e1173 := (an (an Try.func47 (an (ti tt) (an (an (ti (ti (ti tt))) (an (an (ti tt) (an (an (show (decide ((0 : Int) < 2)) = true from (dt (by decide))) tt) (an (an (an e994 (ti (ti tt))) (an (ti (an e997 (ti tt))) (an (ti (ti tt)) (an (Ql (dt h998)) tt)))) (ti (ti tt))))) (an (an (ti tt) (an (an (show (decide ((1 : Int) < 2)) = true from (dt (by decide))) tt) (an (an (an e999 (ti (ti tt))) (an (ti (an e1172 (ti tt))) (an (ti (ti tt)) (an (show (!(decide ((0 : Int) = 0))) = false from (Ql (dt (by decide)))) tt)))) (ti (ti tt))))) (an (ti tt) (an (show (decide ((2 : Int) < 2)) = false from (df (by decide))) tt))))) (an (ti tt) tt)))) (ti tt))
   have e1174 := (ti (ti (ti (an e992 (ti (ti (an e993 (ti (an e1173 (ti tt))))))))))
   injection h with h; subst h
   exact Qo pm pn Try.func63 (r0 := vi 0) (ans := [.reg (.n :: []), .reg (nN 3 []), .reg (nN 3 (.call (VV.fn 71 [VV.tp [vb r990.1] 0, VV.tp [vi r990.2] 0]) :: .n :: .n :: .inl (inlF Try.f81 [.reg (nN 3 []), .frz 2, .reg (.n :: .n :: [])]) :: .n :: .inl (inlF Try.f47 [.reg (.n :: []), .reg (nN 3 []), .unr 4, .reg (.n :: []), .br true, .reg (.v (VV.pt 4 0) :: .n :: .n :: []), .reg (.n :: .call (vi r995) :: .n :: []), .reg (.n :: .n :: []), .br false, .reg (.n :: .n :: []), .reg (.n :: []), .br true, .reg (.v (VV.pt 4 1) :: .n :: .n :: []), .reg (.n :: .inl (inlF Try.f92 [.reg (.n :: []), .reg (.v (VV.tr (flatMap Qc a0) a0.length) :: .n :: .n :: []), .sub ⟨[(1, none), (6, none), (7, none), (8, none)], [some (flatMap (mpE vb) ([] : List (ByteArray × Bool))), none, none, none, none], []⟩ (.exit 0) (X7 a0 r990 r995 r1163), .reg (.n :: [])]) :: .n :: []), .reg (.n :: .n :: []), .br false, .reg (.n :: .n :: []), .reg (.n :: []), .br false, .reg (.n :: [])]) :: .n :: []))]) (fr := true) (by kernel_rfl) (an (an (ti tt) (an (ti (ti (ti tt))) (an e1174 tt))) (ti tt)) (Wv.refl _)
 ·have e1175 := (an (an Try.func47 (an (ti tt) (an (ti (ti (ti tt))) (an (ti tt) (an (an (show (decide ((0 : Int) < 2)) = true from (dt (by decide))) tt) (an (an e994 (ti (ti tt))) (an (ti (an e997 (ti tt))) (an (ti (ti tt)) (an (Zd (df h998)) (an (ti (ti tt)) tt)))))))))) (ti tt))
  have e1176 := (ti (ti (ti (an e992 (ti (ti (an e993 (ti (an e1175 (ti tt))))))))))
  injection h with h; subst h
  exact Qo pm pn Try.func63 (r0 := vi r995) (ans := [.reg (.n :: []), .reg (nN 3 []), .reg (Qw9 r990 r995)]) (fr := true) (by kernel_rfl) (an (an (ti tt) (an (ti (ti (ti tt))) (an e1176 tt))) (ti tt)) (Wv.refl _)
def Xx (k : Nat) (a0 : Int) : Option Bool :=
 if 97 <= a0 then (if a0 <= 122 then (some true) else (if 65 <= a0 then (some (decide (a0 <= 90))) else (some false))) else (if 65 <= a0 then (some (decide (a0 <= 90))) else (some false))
theorem Qa0 (k : Nat) (a0 : Int) (r : Bool) (h : Xx k a0 = some r) : VC Try.prog 29 [VV.c (.int .u8 a0)] (vb r) := by
 unfold Xx at h
 rcases ifs h with ⟨h1197, h⟩ | ⟨h1197, h⟩
 ·rcases ifs h with ⟨h1198, h⟩ | ⟨h1198, h⟩
  ·have e1199 := (ti (ti (ti (an (an (dt h1197) tt) (an (an (dt h1197) tt) (an (dt h1197) (ti (an (dt h1198) (an (dt h1198) (an (dt h1198) (ti (ti (an (dt h1198) (an (dt h1198) (ti tt)))))))))))))))
   injection h with h; subst h
   exact Qo pm pn Try.func29 (r0 := vb true) (ans := [.reg (.n :: []), .reg (nN 5 (.b true :: .n :: nS 6 (.b true :: .n :: [])))]) (fr := true) (by kernel_rfl) (an (an (ti tt) (an e1199 tt)) (ti tt)) (Wv.refl _)
  ·rcases ifs h with ⟨h1200, h⟩ | ⟨h1200, h⟩
   ·have e1201 := (an (df h1198) (dt h1200))
    have e1202 := (ti (ti (ti (an (an (dt h1197) tt) (an (an (dt h1197) tt) (an (dt h1197) (ti (an (an (df h1198) tt) (an (an (df h1198) tt) (an (an (df h1198) tt) (an (an (dt h1200) tt) (an (an (dt h1200) tt) (an e1201 (an (df h1198) (ti tt)))))))))))))))
    injection h with h; subst h
    exact Qo pm pn Try.func29 (r0 := vb (decide (a0 <= 90))) (ans := [.reg (.n :: []), .reg (nN 5 (.b true :: nN 6 (.b true :: .b false :: .n :: [])))]) (fr := true) (by kernel_rfl) (an (an (ti tt) (an e1202 tt)) (ti tt)) (Wv.refl _)
   ·have e1203 := (an (df h1198) (df h1200))
    have e1204 := (ti (ti (ti (an (an (dt h1197) tt) (an (an (dt h1197) tt) (an (dt h1197) (ti (an (an (df h1198) tt) (an (an (df h1198) tt) (an (an (df h1198) tt) (an (df h1200) (an (df h1200) (an e1203 (an (df h1198) (ti tt)))))))))))))))
    injection h with h; subst h
    exact Qo pm pn Try.func29 (r0 := vb false) (ans := [.reg (.n :: []), .reg (nN 5 (.b true :: nN 4 (.skip :: .skip :: .b false :: .b false :: .n :: [])))]) (fr := true) (by kernel_rfl) (an (an (ti tt) (an e1204 tt)) (ti tt)) (Wv.refl _)
 ·rcases ifs h with ⟨h1205, h⟩ | ⟨h1205, h⟩
  ·have e1206 := (ti (ti (ti (an (df h1197) (an (df h1197) (an (df h1197) (ti (an (an rf tt) (an (an rf tt) (an (an rf tt) (an (an (dt h1205) tt) (an (an (dt h1205) tt) (an (an rf (dt h1205)) (an rf (ti tt)))))))))))))))
   injection h with h; subst h
   exact Qo pm pn Try.func29 (r0 := vb (decide (a0 <= 90))) (ans := [.reg (.n :: []), .reg (nN 3 (.skip :: .skip :: .b false :: nN 6 (.b true :: .b false :: .n :: [])))]) (fr := true) (by kernel_rfl) (an (an (ti tt) (an e1206 tt)) (ti tt)) (Wv.refl _)
  ·have e1207 := (ti (ti (ti (an (df h1197) (an (df h1197) (an (df h1197) (ti (an (an rf tt) (an (an rf tt) (an (an rf tt) (an (df h1205) (an (df h1205) (an (an rf (df h1205)) (an rf (ti tt)))))))))))))))
   injection h with h; subst h
   exact Qo pm pn Try.func29 (r0 := vb false) (ans := [.reg (.n :: []), .reg Qv4]) (fr := true) (by kernel_rfl) (an (an (ti tt) (an e1207 tt)) (ti tt)) (Wv.refl _)
def Yd (k : Nat) (a0 : Int) : Option Bool :=
 if 48 <= a0 then (some (decide (a0 <= 57))) else (some false)
theorem Qds (k : Nat) (a0 : Int) (r : Bool) (h : Yd k a0 = some r) : VC Try.prog 30 [VV.c (.int .u8 a0)] (vb r) := by
 unfold Yd at h
 rcases ifs h with ⟨h1223, h⟩ | ⟨h1223, h⟩
 ·have e1224 := (ti (ti (ti (an (an (dt h1223) tt) (an (an (dt h1223) tt) (an (dt h1223) (ti tt)))))))
  injection h with h; subst h
  exact Qo pm pn Try.func30 (r0 := vb (decide (a0 <= 57))) (ans := [.reg (.n :: []), .reg (nN 5 (.b true :: .n :: []))]) (fr := true) (by kernel_rfl) (an (an (ti tt) (an e1224 tt)) (ti tt)) (Wv.refl _)
 ·have e1225 := (ti (ti (ti (an (df h1223) (an (df h1223) (an (df h1223) (ti tt)))))))
  injection h with h; subst h
  exact Qo pm pn Try.func30 (r0 := vb false) (ans := [.reg (.n :: []), .reg (nN 3 (.skip :: .skip :: .b false :: .n :: []))]) (fr := true) (by kernel_rfl) (an (an (ti tt) (an e1225 tt)) (ti tt)) (Wv.refl _)
def Qxa (z0 : Bool) (z1 : Bool) : List Ans := (nN 3 (.call (vb z0) :: nN 5 (.call (vb z1) :: .n :: .b true :: .n :: nS 4 (.b false :: []))))
def Qsn (z0 : Bool) (z1 : Bool) : List Ans := (nN 3 (.call (vb z0) :: nN 5 (.call (vb z1) :: .n :: .b true :: nN 5 (.b true :: []))))
def Zm (a0 : ByteArray) (x3 : Int) : VS := ⟨mkA [(0, vs a0), (3, vi x3)], [], .nil⟩
def Yz (a0 : ByteArray) (r : Unit) : VS := ⟨mkA [(2, vb false)], [], .nil⟩
def Y0 (a0 : ByteArray) (r : Unit) : VS := ⟨mkA [], [], .nil⟩
def Q8 (k : Nat) (a0 : ByteArray) : Nat -> Int -> Option (Sum Unit Unit)
 | 0, _ => none
 | fuel + 1, x3 => if x3 < (a0.size : Int) then (if 0 <= x3 /\ x3 < (a0.size : Int) then ((Xx k (bat a0 x3)).bind fun r1307 => (if r1307 = true then (Q8 k a0 fuel (w64 (x3 + 1))) else ((Yd k (bat a0 x3)).bind fun r1312 => (if r1312 = true then (Q8 k a0 fuel (w64 (x3 + 1))) else (if (bat a0 x3) = 45 then (Q8 k a0 fuel (w64 (x3 + 1))) else (some (.inl ()))))))) else none) else (some (.inr ()))
theorem Qcs (k : Nat) (a0 : ByteArray) : ∀ (fuel : Nat) (x3 : Int) (r : Sum Unit Unit), Q8 k a0 fuel x3 = some r -> (match r with | .inl r => Ya none Try.prog (szF Try.f14) (X9 Try.f14 0) (Zm a0 x3) .ret (Yz a0 r) | .inr r => Ya none Try.prog (szF Try.f14) (X9 Try.f14 0) (Zm a0 x3) (.exit 0) (Y0 a0 r)) := by
 intro fuel
 induction fuel with
 | zero => intro x3 r h; rw [Q8.eq_1] at h; cases h
 | succ fuel ih =>
  intro x3 r h
  rw [Q8.eq_2] at h
  rcases ifs h with ⟨h1305, h⟩ | ⟨h1305, h⟩
  ·obtain ⟨h1306, h⟩ := ifn h
   obtain ⟨r1307, h1308, h⟩ := bs h
   have e1309 := (Qa0 k (bat a0 x3) _ h1308)
   rcases ifs h with ⟨h1310, h⟩ | ⟨h1310, h⟩
   ·have e1311 := (ti (ti (an h1306 (an e1309 (ti (ti (an (Ql h1310) (an (Ql h1310) (an (Ql h1310) (an (Ql h1310) (an (Ql h1310) (an (Ql h1310) (ti (an rf (an rf (an rf (an rf (an rf tt))))))))))))))))))
    have h2 := ih _ _ h
    obtain ⟨q, hv, hq⟩ := pkR (rd := none) (P := Try.prog) (fn := Try.f14) (k := 0) (s := (Zm a0 x3)) (ans := [.reg (nN 4 []), .br true, .reg (nN 3 (.call (vb r1307) :: .n :: .n :: nS 5 (.b false :: .n :: nS 4 (.b false :: [])))), .br false, .reg (nN 3 [])]) (c := ⟨[(0, none), (3, none)], [], []⟩) (e := .normal) (s1 := (Zm a0 (w64 (x3 + 1)))) (an (an (an (ti (ti (ti (ti tt)))) (an (dt h1305) tt)) (an (an e1311 (an rf tt)) (ti (ti (ti tt))))) (ti tt)) (by kernel_rfl)
    cases r with
    | inl r => exact Qp pm pn hv hq h2
    | inr r =>
     exact Qp pm pn hv hq h2
   ·obtain ⟨r1312, h1313, h⟩ := bs h
    have e1314 := (an (Zd (Qz h1310)) (Qds k (bat a0 x3) _ h1313))
    rcases ifs h with ⟨h1315, h⟩ | ⟨h1315, h⟩
    ·have e1316 := (ti (ti (an h1306 (an e1309 (ti (ti (an (an (Zd (Qz h1310)) tt) (an (an (Zd (Qz h1310)) tt) (an (an (Zd (Qz h1310)) h1306) (an e1314 (an (an (Zd (Qz h1310)) tt) (an (Zd (Qz h1310)) (ti (an (Ql h1315) (an (Ql h1315) (an (Ql h1315) (an (Ql h1315) (an (Ql h1315) tt))))))))))))))))))
     have h2 := ih _ _ h
     obtain ⟨q, hv, hq⟩ := pkR (rd := none) (P := Try.prog) (fn := Try.f14) (k := 0) (s := (Zm a0 x3)) (ans := [.reg (nN 4 []), .br true, .reg (Qxa r1307 r1312), .br false, .reg (nN 3 [])]) (c := ⟨[(0, none), (3, none)], [], []⟩) (e := .normal) (s1 := (Zm a0 (w64 (x3 + 1)))) (an (an (an (ti (ti (ti (ti tt)))) (an (dt h1305) tt)) (an (an e1316 (an rf tt)) (ti (ti (ti tt))))) (ti tt)) (by kernel_rfl)
     cases r with
     | inl r => exact Qp pm pn hv hq h2
     | inr r =>
      exact Qp pm pn hv hq h2
    ·have e1317 := (ti (ti (an h1306 (an e1309 (ti (ti (an (an (Zd (Qz h1310)) tt) (an (an (Zd (Qz h1310)) tt) (an (an (Zd (Qz h1310)) h1306) (an e1314 (an (an (Zd (Qz h1310)) tt) (an (Zd (Qz h1310)) (ti (an (an (Zd (Qz h1315)) tt) (an (an (Zd (Qz h1315)) tt) (an (an (Zd (Qz h1315)) h1306) (an (an (Zd (Qz h1315)) tt) (an (Zd (Qz h1315)) tt))))))))))))))))))
     rcases ifs h with ⟨h1318, h⟩ | ⟨h1318, h⟩
     ·have h2 := ih _ _ h
      obtain ⟨q, hv, hq⟩ := pkR (rd := none) (P := Try.prog) (fn := Try.f14) (k := 0) (s := (Zm a0 x3)) (ans := [.reg (nN 4 []), .br true, .reg (Qsn r1307 r1312), .br false, .reg (nN 3 [])]) (c := ⟨[(0, none), (3, none)], [], []⟩) (e := .normal) (s1 := (Zm a0 (w64 (x3 + 1)))) (an (an (an (ti (ti (ti (ti tt)))) (an (dt h1305) tt)) (an (an e1317 (an (Ql (dt h1318)) tt)) (ti (ti (ti tt))))) (ti tt)) (by kernel_rfl)
      cases r with
      | inl r => exact Qp pm pn hv hq h2
      | inr r =>
       exact Qp pm pn hv hq h2
     ·injection h with h; subst h
      exact Qq (c := ⟨[(2, none)], [], []⟩) (s1 := (Yz a0 ())) pm pn (ans := [.reg (nN 4 []), .br true, .reg (Qsn r1307 r1312), .br true, .reg (.n :: [])]) (by kernel_rfl) (by intro e; cases e) (an (an (an (ti (ti (ti (ti tt)))) (an (dt h1305) tt)) (an e1317 (an (Zd (df h1318)) (an (ti tt) tt)))) (ti tt))
  ·injection h with h; subst h
   exact Qq (c := ⟨[], [], []⟩) (s1 := (Y0 a0 ())) pm pn (ans := [.reg (nN 4 []), .br false]) (by kernel_rfl) (by intro e; cases e) (an (an (ti (ti (ti (ti tt)))) (an (df h1305) tt)) (ti tt))
def Xk (k : Nat) (a0 : ByteArray) : Option Bool :=
 if (a0.size : Int) = 0 then (some false) else (if 12 < (a0.size : Int) then (some false) else (if (0 : Int) <= 0 /\ 0 < (a0.size : Int) then ((Xx k (bat a0 0)).bind fun r1272 => (if r1272 = true then ((Q8 k a0 k 0).bind fun r1320 => (match r1320 with | .inl r1321 => (some false) | .inr r1322 => (some true))) else (some false))) else none))
theorem Yn (k : Nat) (a0 : ByteArray) (r : Bool) (h : Xk k a0 = some r) : VC Try.prog 14 [vs a0] (vb r) := by
 unfold Xk at h
 rcases ifs h with ⟨h1267, h⟩ | ⟨h1267, h⟩
 ·have e1268 := (ti (ti (ti (ti (an (dt h1267) (an (dt h1267) (an (dt h1267) (an (dt h1267) (ti (an rt (an rt (an rt (an rt (an rt tt))))))))))))))
  injection h with h; subst h
  exact Qo pm pn Try.func14 (r0 := vb false) (ans := [.reg (.n :: []), .reg (nN 4 (nS 3 (.b true :: .n :: nS 4 (.b true :: [])))), .br true, .reg (.n :: [])]) (fr := true) (by kernel_rfl) (an (an (ti tt) (an e1268 (an rt (an (ti tt) tt)))) (ti tt)) (Wv.refl _)
 ·rcases ifs h with ⟨h1269, h⟩ | ⟨h1269, h⟩
  ·have e1270 := (ti (ti (ti (ti (an (an (df h1267) tt) (an (an (df h1267) tt) (an (an (df h1267) tt) (an (df h1267) (ti (an (dt h1269) (an (dt h1269) (an (dt h1269) (an (dt h1269) (an (dt h1269) tt))))))))))))))
   injection h with h; subst h
   exact Qo pm pn Try.func14 (r0 := vb false) (ans := [.reg (.n :: []), .reg (nN 7 (.b false :: .n :: nS 4 (.b true :: []))), .br true, .reg (.n :: [])]) (fr := true) (by kernel_rfl) (an (an (ti tt) (an e1270 (an rt (an (ti tt) tt)))) (ti tt)) (Wv.refl _)
  ·obtain ⟨h1271, h⟩ := ifn h
   obtain ⟨r1272, h1273, h⟩ := bs h
   have e1274 := (an (df h1269) (Qa0 k (bat a0 0) _ h1273))
   have e1275 := (ti (ti (ti (ti (an (an (df h1267) tt) (an (an (df h1267) tt) (an (an (df h1267) tt) (an (df h1267) (ti (an (an (df h1269) tt) (an (an (df h1269) h1271) (an e1274 (an (an (df h1269) tt) (an (df h1269) tt))))))))))))))
   rcases ifs h with ⟨h1276, h⟩ | ⟨h1276, h⟩
   ·obtain ⟨r1320, h1319, h⟩ := bs h
    have hph1319 := Qcs k a0 _ _ _ h1319
    cases r1320 with
    | inl r1321 =>
     dsimp only at h
     have e1323 := (an (ti tt) (VRun.loop hph1319))
     injection h with h; subst h
     exact Qo pm pn Try.func14 (r0 := vb false) (ans := [.reg (.n :: []), .reg (nN 7 (.b false :: nN 3 (.call (vb r1272) :: .n :: .b false :: []))), .br false, .reg (.n :: []), .sub ⟨[(0, none), (3, none)], [], []⟩ .ret (Yz a0 r1321)]) (fr := true) (by kernel_rfl) (an (an (ti tt) (an (an e1275 (an (Ql h1276) tt)) (an (ti tt) e1323))) (ti tt)) (Wv.refl _)
    | inr r1322 =>
     dsimp only at h
     have e1324 := (an (ti tt) (VRun.loop hph1319))
     injection h with h; subst h
     exact Qo pm pn Try.func14 (r0 := vb true) (ans := [.reg (.n :: []), .reg (nN 7 (.b false :: nN 3 (.call (vb r1272) :: .n :: .b false :: []))), .br false, .reg (.n :: []), .sub ⟨[(0, none), (3, none)], [], []⟩ (.exit 0) (Y0 a0 r1322), .reg (.n :: [])]) (fr := true) (by kernel_rfl) (an (an (ti tt) (an (an e1275 (an (Ql h1276) tt)) (an (an (ti tt) e1324) (an (ti tt) tt)))) (ti tt)) (Wv.refl _)
   ·injection h with h; subst h
    exact Qo pm pn Try.func14 (r0 := vb false) (ans := [.reg (.n :: []), .reg (nN 7 (.b false :: nN 3 (.call (vb r1272) :: .n :: .b false :: []))), .br true, .reg (.n :: [])]) (fr := true) (by kernel_rfl) (an (an (ti tt) (an e1275 (an (Zd (Qz h1276)) (an (ti tt) tt)))) (ti tt)) (Wv.refl _)
def X4 (a0 : (List Qd)) (a1 : ByteArray) (x5 : Int) : VS := ⟨mkA [(0, VV.tr (flatMap Qc a0) a0.length), (1, vs a1), (5, vi x5)], [], .nil⟩
def Ye (a0 : (List Qd)) (a1 : ByteArray) (r : Int) : VS := ⟨mkA [(4, vi r)], [], .nil⟩
def Yf (a0 : (List Qd)) (a1 : ByteArray) (r : Unit) : VS := ⟨mkA [], [], .nil⟩
def Q7 (k : Nat) (a0 : (List Qd)) (a1 : ByteArray) : Nat -> Int -> Option (Sum Int Unit)
 | 0, _ => none
 | fuel + 1, x5 => if x5 < (a0.length : Int) then (if 0 <= x5 /\ x5 < (a0.length : Int) then (if ((a0.getD x5.toNat default).Name) = a1 then (some (.inl x5)) else (Q7 k a0 a1 fuel (w64 (x5 + 1)))) else none) else (some (.inr ()))
theorem Qb5 (k : Nat) (a0 : (List Qd)) (a1 : ByteArray) : ∀ (fuel : Nat) (x5 : Int) (r : Sum Int Unit), Q7 k a0 a1 fuel x5 = some r -> (match r with | .inl r => Ya none Try.prog (szF Try.f41) (X9 Try.f41 0) (X4 a0 a1 x5) .ret (Ye a0 a1 r) | .inr r => Ya none Try.prog (szF Try.f41) (X9 Try.f41 0) (X4 a0 a1 x5) (.exit 0) (Yf a0 a1 r)) := by
 intro fuel
 induction fuel with
 | zero => intro x5 r h; rw [Q7.eq_1] at h; cases h
 | succ fuel ih =>
  intro x5 r h
  rw [Q7.eq_2] at h
  rcases ifs h with ⟨h1362, h⟩ | ⟨h1362, h⟩
  ·obtain ⟨h1363, h⟩ := ifn h
   have e1364 := (show Jw Try.prog 9 (x5.toNat * 4 + 0) (flatMap Qc a0) = some (vs ((a0.getD x5.toNat default).Name)) from (Yh ag9 Qc 4 0 Zg (by omega) a0 default h1363 (by omega)).trans rfl)
   have e1365 := (ti (ti (an h1363 (ti (an e1364 (ti (ti tt)))))))
   rcases ifs h with ⟨h1366, h⟩ | ⟨h1366, h⟩
   ·injection h with h; subst h
    exact Qq (c := ⟨[(4, none)], [], []⟩) (s1 := (Ye a0 a1 x5)) pm pn (ans := [.reg (nN 4 []), .br true, .reg (nN 4 (.v (vs ((a0.getD x5.toNat default).Name)) :: .n :: .n :: [])), .br true, .reg (.n :: .n :: [])]) (by kernel_rfl) (by intro e; cases e) (an (an (an (ti (ti (ti (ti tt)))) (an (dt h1362) tt)) (an e1365 (an (dt h1366) (an (ti (ti tt)) tt)))) (ti tt))
   ·have h2 := ih _ _ h
    obtain ⟨q, hv, hq⟩ := pkR (rd := none) (P := Try.prog) (fn := Try.f41) (k := 0) (s := (X4 a0 a1 x5)) (ans := [.reg (nN 4 []), .br true, .reg (nN 4 (.v (vs ((a0.getD x5.toNat default).Name)) :: .n :: .n :: [])), .br false, .reg (nN 3 [])]) (c := ⟨[(0, none), (1, none), (5, none)], [], []⟩) (e := .normal) (s1 := (X4 a0 a1 (w64 (x5 + 1)))) (an (an (an (ti (ti (ti (ti tt)))) (an (dt h1362) tt)) (an (an e1365 (an (df h1366) tt)) (ti (ti (ti tt))))) (ti tt)) (by kernel_rfl)
    cases r with
    | inl r => exact Qp pm pn hv hq h2
    | inr r =>
     exact Qp pm pn hv hq h2
  ·injection h with h; subst h
   exact Qq (c := ⟨[], [], []⟩) (s1 := (Yf a0 a1 ())) pm pn (ans := [.reg (nN 4 []), .br false]) (by kernel_rfl) (by intro e; cases e) (an (an (ti (ti (ti (ti tt)))) (an (df h1362) tt)) (ti tt))
def Z9 (k : Nat) (a0 : (List Qd)) (a1 : ByteArray) : Option Int :=
 (Q7 k a0 a1 k 0).bind fun r1368 => (match r1368 with | .inl r1369 => (some r1369) | .inr r1370 => (some (-1)))
theorem Qay (k : Nat) (a0 : (List Qd)) (a1 : ByteArray) (r : Int) (h : Z9 k a0 a1 = some r) : VC Try.prog 41 [VV.tr (flatMap Qc a0) a0.length, vs a1] (vi r) := by
 unfold Z9 at h
 obtain ⟨r1368, h1367, h⟩ := bs h
 have hph1367 := Qb5 k a0 a1 _ _ _ h1367
 cases r1368 with
 | inl r1369 =>
  dsimp only at h
  have e1371 := (an (ti tt) (VRun.loop hph1367))
  injection h with h; subst h
  exact Qo pm pn Try.func41 (r0 := vi r1369) (ans := [.reg (.n :: []), .reg (.n :: []), .sub ⟨[(0, none), (1, none), (5, none)], [], []⟩ .ret (Ye a0 a1 r1369)]) (fr := true) (by kernel_rfl) (an (an (ti tt) (an (ti tt) e1371)) (ti tt)) (Wv.refl _)
 | inr r1370 =>
  dsimp only at h
  have e1372 := (an (ti tt) (VRun.loop hph1367))
  injection h with h; subst h
  exact Qo pm pn Try.func41 (r0 := vi (-1)) (ans := [.reg (.n :: []), .reg (.n :: []), .sub ⟨[(0, none), (1, none), (5, none)], [], []⟩ (.exit 0) (Yf a0 a1 r1370), .reg (.n :: [])]) (fr := true) (by kernel_rfl) (an (an (ti tt) (an (an (ti tt) e1372) (an (ti tt) tt))) (ti tt)) (Wv.refl _)
def Xw (k : Nat) (a0 : Int) (a1 : Int) (a2 : Int) : Option Bool :=
 if a1 <= a0 then (some (decide (a0 <= a2))) else (some false)
theorem Qaj (k : Nat) (a0 : Int) (a1 : Int) (a2 : Int) (r : Bool) (h : Xw k a0 a1 a2 = some r) : VC Try.prog 65 [vi a0, vi a1, vi a2] (vb r) := by
 unfold Xw at h
 rcases ifs h with ⟨h1382, h⟩ | ⟨h1382, h⟩
 ·have e1383 := (ti (ti (ti (ti (an (an (dt h1382) tt) (an (an (dt h1382) tt) (an (an (dt h1382) tt) (an (dt h1382) (ti tt)))))))))
  injection h with h; subst h
  exact Qo pm pn Try.func65 (r0 := vb (decide (a0 <= a2))) (ans := [.reg (.n :: []), .reg (nN 7 (.b true :: .n :: []))]) (fr := true) (by kernel_rfl) (an (an (ti tt) (an e1383 tt)) (ti tt)) (Wv.refl _)
 ·have e1384 := (ti (ti (ti (ti (an (df h1382) (an (df h1382) (an (df h1382) (an (df h1382) (ti tt)))))))))
  injection h with h; subst h
  exact Qo pm pn Try.func65 (r0 := vb false) (ans := [.reg (.n :: []), .reg (nN 4 (nS 3 (.b false :: .n :: [])))]) (fr := true) (by kernel_rfl) (an (an (ti tt) (an e1384 tt)) (ti tt)) (Wv.refl _)
def Qso (z0 : (List Qd)) (z1 : Int) (z2 : Bool) (z3 : Bool) (z4 : Bool) : List Ans := (nN 4 (.v (vi ((z0.getD z1.toNat default).Diameter)) :: .call (vb z2) :: nN 6 (.v (vi ((z0.getD z1.toNat default).Thick)) :: .call (vb z3) :: .n :: .b false :: nN 5 (.v (vi ((z0.getD z1.toNat default).Count)) :: .call (vb z4) :: .n :: .b false :: []))))
def Qxb (z0 : (List Qd)) (z1 : Int) (z2 : Bool) (z3 : Bool) : List Ans := (nN 4 (.v (vi ((z0.getD z1.toNat default).Diameter)) :: .call (vb z2) :: nN 6 (.v (vi ((z0.getD z1.toNat default).Thick)) :: .call (vb z3) :: .n :: .b false :: .n :: nS 7 (.b true :: []))))
def Qxc (z0 : (List Qd)) (z1 : Int) (z2 : Bool) : List Ans := (nN 4 (.v (vi ((z0.getD z1.toNat default).Diameter)) :: .call (vb z2) :: .n :: .n :: nS 7 (.b true :: .n :: nS 7 (.b true :: []))))
def Xj (a0 : (List Qd)) (x3 : Int) : VS := ⟨mkA [(0, VV.tr (flatMap Qc a0) a0.length), (3, vi x3)], [], .nil⟩
def Za (a0 : (List Qd)) (r : Int) : VS := ⟨mkA [(2, vi r)], [], .nil⟩
def X8 (a0 : (List Qd)) (r : Unit) : VS := ⟨mkA [], [], .nil⟩
def Q5 (k : Nat) (a0 : (List Qd)) : Nat -> Int -> Option (Sum Int Unit)
 | 0, _ => none
 | fuel + 1, x3 => if x3 < (a0.length : Int) then (if 0 <= x3 /\ x3 < (a0.length : Int) then ((Xk k ((a0.getD x3.toNat default).Name)).bind fun r1540 => (if r1540 = true then ((Z9 k a0 ((a0.getD x3.toNat default).Name)).bind fun r1546 => (if r1546 < x3 then (some (.inl 5)) else ((Xw k ((a0.getD x3.toNat default).Diameter) 1 1000).bind fun r1552 => (if r1552 = true then ((Xw k ((a0.getD x3.toNat default).Thick) 1 500).bind fun r1557 => (if r1557 = true then ((Xw k ((a0.getD x3.toNat default).Count) 0 1000).bind fun r1562 => (if r1562 = true then (Q5 k a0 fuel (w64 (x3 + 1))) else (some (.inl 2)))) else (some (.inl 2)))) else (some (.inl 2)))))) else (some (.inl 4)))) else none) else (some (.inr ()))
theorem Qba (k : Nat) (a0 : (List Qd)) : ∀ (fuel : Nat) (x3 : Int) (r : Sum Int Unit), Q5 k a0 fuel x3 = some r -> (match r with | .inl r => Ya none Try.prog (szF Try.f40) (X9 Try.f40 0) (Xj a0 x3) .ret (Za a0 r) | .inr r => Ya none Try.prog (szF Try.f40) (X9 Try.f40 0) (Xj a0 x3) (.exit 0) (X8 a0 r)) := by
 intro fuel
 induction fuel with
 | zero => intro x3 r h; rw [Q5.eq_1] at h; cases h
 | succ fuel ih =>
  intro x3 r h
  rw [Q5.eq_2] at h
  rcases ifs h with ⟨h1537, h⟩ | ⟨h1537, h⟩
  ·obtain ⟨h1538, h⟩ := ifn h
   have e1539 := (show Jw Try.prog 9 (x3.toNat * 4 + 0) (flatMap Qc a0) = some (vs ((a0.getD x3.toNat default).Name)) from (Yh ag9 Qc 4 0 Zg (by omega) a0 default h1538 (by omega)).trans rfl)
   obtain ⟨r1540, h1541, h⟩ := bs h
   have e1542 := (Yn k ((a0.getD x3.toNat default).Name) _ h1541)
   have e1543 := (ti (ti (an h1538 (ti (an e1539 (an e1542 (ti tt)))))))
   rcases ifs h with ⟨h1544, h⟩ | ⟨h1544, h⟩
   ·have e1545 := (show Jw Try.prog 9 (x3.toNat * 4 + 0) (flatMap Qc a0) = some (vs ((a0.getD x3.toNat default).Name)) from (Yh ag9 Qc 4 0 Zg (by omega) a0 default h1538 (by omega)).trans rfl)
    obtain ⟨r1546, h1547, h⟩ := bs h
    have e1548 := (Qay k a0 ((a0.getD x3.toNat default).Name) _ h1547)
    have e1549 := (ti (ti (ti (an h1538 (ti (an e1545 (an e1548 (ti (ti tt)))))))))
    rcases ifs h with ⟨h1550, h⟩ | ⟨h1550, h⟩
    ·injection h with h; subst h
     exact Qq (c := ⟨[(2, none)], [], []⟩) (s1 := (Za a0 5)) pm pn (ans := [.reg (nN 4 []), .br true, .reg (nN 4 (.v (vs ((a0.getD x3.toNat default).Name)) :: .call (vb r1540) :: .n :: [])), .br false, .reg (nN 5 (.v (vs ((a0.getD x3.toNat default).Name)) :: .call (vi r1546) :: .n :: .n :: [])), .br true, .reg (.n :: [])]) (by kernel_rfl) (by intro e; cases e) (an (an (an (ti (ti (ti (ti tt)))) (an (dt h1537) tt)) (an (an e1543 (an (Ql h1544) tt)) (an e1549 (an (dt h1550) (an (ti tt) tt))))) (ti tt))
    ·have e1551 := (show Jw Try.prog 3 (x3.toNat * 4 + 1) (flatMap Qc a0) = some (vi ((a0.getD x3.toNat default).Diameter)) from (Yh ag3 Qc 4 1 Zg (by omega) a0 default h1538 (by omega)).trans rfl)
     obtain ⟨r1552, h1553, h⟩ := bs h
     have e1554 := (Qaj k ((a0.getD x3.toNat default).Diameter) 1 1000 _ h1553)
     rcases ifs h with ⟨h1555, h⟩ | ⟨h1555, h⟩
     ·have e1556 := (an (Ql h1555) (show Jw Try.prog 3 (x3.toNat * 4 + 2) (flatMap Qc a0) = some (vi ((a0.getD x3.toNat default).Thick)) from (Yh ag3 Qc 4 2 Zg (by omega) a0 default h1538 (by omega)).trans rfl))
      obtain ⟨r1557, h1558, h⟩ := bs h
      have e1559 := (an (Ql h1555) (Qaj k ((a0.getD x3.toNat default).Thick) 1 500 _ h1558))
      rcases ifs h with ⟨h1560, h⟩ | ⟨h1560, h⟩
      ·have e1561 := (an (Ql h1560) (show Jw Try.prog 3 (x3.toNat * 4 + 3) (flatMap Qc a0) = some (vi ((a0.getD x3.toNat default).Count)) from (Yh ag3 Qc 4 3 Zg (by omega) a0 default h1538 (by omega)).trans rfl))
       obtain ⟨r1562, h1563, h⟩ := bs h
       have e1564 := (an (Ql h1560) (Qaj k ((a0.getD x3.toNat default).Count) 0 1000 _ h1563))
       have e1565 := (ti (ti (an h1538 (ti (an e1551 (an e1554 (ti (ti (an (an (Ql h1555) tt) (an (an (Ql h1555) tt) (an (an (Ql h1555) h1538) (an (an (Ql h1555) tt) (an e1556 (an e1559 (an (an (Ql h1555) tt) (an (Ql h1555) (ti (an (an (Ql h1560) tt) (an (an (Ql h1560) tt) (an (an (Ql h1560) h1538) (an (an (Ql h1560) tt) (an e1561 (an e1564 (an (an (Ql h1560) tt) (an (Ql h1560) tt)))))))))))))))))))))))))
       rcases ifs h with ⟨h1566, h⟩ | ⟨h1566, h⟩
       ·have h2 := ih _ _ h
        obtain ⟨q, hv, hq⟩ := pkR (rd := none) (P := Try.prog) (fn := Try.f40) (k := 0) (s := (Xj a0 x3)) (ans := [.reg (nN 4 []), .br true, .reg (nN 4 (.v (vs ((a0.getD x3.toNat default).Name)) :: .call (vb r1540) :: .n :: [])), .br false, .reg (nN 5 (.v (vs ((a0.getD x3.toNat default).Name)) :: .call (vi r1546) :: .n :: .n :: [])), .br false, .reg (Qso a0 x3 r1552 r1557 r1562), .br false, .reg (nN 3 [])]) (c := ⟨[(0, none), (3, none)], [], []⟩) (e := .normal) (s1 := (Xj a0 (w64 (x3 + 1)))) (an (an (an (ti (ti (ti (ti tt)))) (an (dt h1537) tt)) (an (an (an e1543 (an (Ql h1544) tt)) (an (an e1549 (an (df h1550) tt)) (an e1565 (an (Ql h1566) tt)))) (ti (ti (ti tt))))) (ti tt)) (by kernel_rfl)
        cases r with
        | inl r => exact Qp pm pn hv hq h2
        | inr r =>
         exact Qp pm pn hv hq h2
       ·injection h with h; subst h
        exact Qq (c := ⟨[(2, none)], [], []⟩) (s1 := (Za a0 2)) pm pn (ans := [.reg (nN 4 []), .br true, .reg (nN 4 (.v (vs ((a0.getD x3.toNat default).Name)) :: .call (vb r1540) :: .n :: [])), .br false, .reg (nN 5 (.v (vs ((a0.getD x3.toNat default).Name)) :: .call (vi r1546) :: .n :: .n :: [])), .br false, .reg (Qso a0 x3 r1552 r1557 r1562), .br true, .reg (.n :: [])]) (by kernel_rfl) (by intro e; cases e) (an (an (an (ti (ti (ti (ti tt)))) (an (dt h1537) tt)) (an (an e1543 (an (Ql h1544) tt)) (an (an e1549 (an (df h1550) tt)) (an e1565 (an (Zd (Qz h1566)) (an (ti tt) tt)))))) (ti tt))
      ·have e1567 := (ti (ti (an h1538 (ti (an e1551 (an e1554 (ti (ti (an (an (Ql h1555) tt) (an (an (Ql h1555) tt) (an (an (Ql h1555) h1538) (an (an (Ql h1555) tt) (an e1556 (an e1559 (an (an (Ql h1555) tt) (an (Ql h1555) (ti (an (Zd (Qz h1560)) (an (Zd (Qz h1560)) (an (Zd (Qz h1560)) (an (Zd (Qz h1560)) (an (Zd (Qz h1560)) (an (Zd (Qz h1560)) (an (Zd (Qz h1560)) (an (Zd (Qz h1560)) tt)))))))))))))))))))))))))
       injection h with h; subst h
       exact Qq (c := ⟨[(2, none)], [], []⟩) (s1 := (Za a0 2)) pm pn (ans := [.reg (nN 4 []), .br true, .reg (nN 4 (.v (vs ((a0.getD x3.toNat default).Name)) :: .call (vb r1540) :: .n :: [])), .br false, .reg (nN 5 (.v (vs ((a0.getD x3.toNat default).Name)) :: .call (vi r1546) :: .n :: .n :: [])), .br false, .reg (Qxb a0 x3 r1552 r1557), .br true, .reg (.n :: [])]) (by kernel_rfl) (by intro e; cases e) (an (an (an (ti (ti (ti (ti tt)))) (an (dt h1537) tt)) (an (an e1543 (an (Ql h1544) tt)) (an (an e1549 (an (df h1550) tt)) (an e1567 (an rt (an (ti tt) tt)))))) (ti tt))
     ·have e1568 := (ti (ti (an h1538 (ti (an e1551 (an e1554 (ti (ti (an (Zd (Qz h1555)) (an (Zd (Qz h1555)) (an (Zd (Qz h1555)) (an (Zd (Qz h1555)) (an (Zd (Qz h1555)) (an (Zd (Qz h1555)) (an (Zd (Qz h1555)) (an (Zd (Qz h1555)) (ti (an rt (an rt (an rt (an rt (an rt (an rt (an rt (an rt tt)))))))))))))))))))))))))
      injection h with h; subst h
      exact Qq (c := ⟨[(2, none)], [], []⟩) (s1 := (Za a0 2)) pm pn (ans := [.reg (nN 4 []), .br true, .reg (nN 4 (.v (vs ((a0.getD x3.toNat default).Name)) :: .call (vb r1540) :: .n :: [])), .br false, .reg (nN 5 (.v (vs ((a0.getD x3.toNat default).Name)) :: .call (vi r1546) :: .n :: .n :: [])), .br false, .reg (Qxc a0 x3 r1552), .br true, .reg (.n :: [])]) (by kernel_rfl) (by intro e; cases e) (an (an (an (ti (ti (ti (ti tt)))) (an (dt h1537) tt)) (an (an e1543 (an (Ql h1544) tt)) (an (an e1549 (an (df h1550) tt)) (an e1568 (an rt (an (ti tt) tt)))))) (ti tt))
   ·injection h with h; subst h
    exact Qq (c := ⟨[(2, none)], [], []⟩) (s1 := (Za a0 4)) pm pn (ans := [.reg (nN 4 []), .br true, .reg (nN 4 (.v (vs ((a0.getD x3.toNat default).Name)) :: .call (vb r1540) :: .n :: [])), .br true, .reg (.n :: [])]) (by kernel_rfl) (by intro e; cases e) (an (an (an (ti (ti (ti (ti tt)))) (an (dt h1537) tt)) (an e1543 (an (Zd (Qz h1544)) (an (ti tt) tt)))) (ti tt))
  ·injection h with h; subst h
   exact Qq (c := ⟨[], [], []⟩) (s1 := (X8 a0 ())) pm pn (ans := [.reg (nN 4 []), .br false]) (by kernel_rfl) (by intro e; cases e) (an (an (ti (ti (ti (ti tt)))) (an (df h1537) tt)) (ti tt))
def Xp (k : Nat) (a0 : (List Qd)) : Option Int :=
 if 40 < (a0.length : Int) then (some 8) else ((Q5 k a0 k 0).bind fun r1570 => (match r1570 with | .inl r1571 => (some r1571) | .inr r1572 => (some 0)))
theorem Qb1 (k : Nat) (a0 : (List Qd)) (r : Int) (h : Xp k a0 = some r) : VC Try.prog 40 [VV.tr (flatMap Qc a0) a0.length] (vi r) := by
 unfold Xp at h
 rcases ifs h with ⟨h1472, h⟩ | ⟨h1472, h⟩
 ·injection h with h; subst h
  exact Qo pm pn Try.func40 (r0 := vi 8) (ans := [.reg (.n :: []), .reg (nN 3 []), .br true, .reg (.n :: [])]) (fr := true) (by kernel_rfl) (an (an (ti tt) (an (ti (ti (ti tt))) (an (dt h1472) (an (ti tt) tt)))) (ti tt)) (Wv.refl _)
 ·obtain ⟨r1570, h1569, h⟩ := bs h
  have hph1569 := Qba k a0 _ _ _ h1569
  cases r1570 with
  | inl r1571 =>
   dsimp only at h
   have e1573 := (an (ti tt) (VRun.loop hph1569))
   injection h with h; subst h
   exact Qo pm pn Try.func40 (r0 := vi r1571) (ans := [.reg (.n :: []), .reg (nN 3 []), .br false, .reg (.n :: []), .sub ⟨[(0, none), (3, none)], [], []⟩ .ret (Za a0 r1571)]) (fr := true) (by kernel_rfl) (an (an (ti tt) (an (an (ti (ti (ti tt))) (an (df h1472) tt)) (an (ti tt) e1573))) (ti tt)) (Wv.refl _)
  | inr r1572 =>
   dsimp only at h
   have e1574 := (an (ti tt) (VRun.loop hph1569))
   injection h with h; subst h
   exact Qo pm pn Try.func40 (r0 := vi 0) (ans := [.reg (.n :: []), .reg (nN 3 []), .br false, .reg (.n :: []), .sub ⟨[(0, none), (3, none)], [], []⟩ (.exit 0) (X8 a0 r1572), .reg (.n :: [])]) (fr := true) (by kernel_rfl) (an (an (ti tt) (an (an (ti (ti (ti tt))) (an (df h1472) tt)) (an (an (ti tt) e1574) (an (ti tt) tt)))) (ti tt)) (Wv.refl _)
end Go.Proofs.Ytfeedchjdnedjaa.Vg

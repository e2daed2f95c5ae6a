import Derived.Test.YtiekbdbedonnoaaK0
namespace Go.Proofs.Ytiekbdbedonnoaa.Vg
set_option maxRecDepth 100000
set_option maxHeartbeats 4000000
set_option linter.unusedVariables false
set_option linter.unusedSimpArgs false
open Go Go.Proofs.Ytiekbdbedonnoaa.Ev Go.Proofs.Ytiekbdbedonnoaa.Vv
open List (flatMap length_cons length_nil length_map length_append map_cons map_nil length_replicate)
structure Qd where
 Name : ByteArray
 Wear : (List Int)
 deriving Inhabited
def Qc (x : Qd) : List VV := [vs x.Name, VV.tr (List.map vi x.Wear) x.Wear.length]
theorem Q7 (x : Qd) : (Qc x).length = 2 := rfl
def Qaj (x : Qd) : List VV := [vs x.Name, VV.fr (List.map vi x.Wear) x.Wear.length]
theorem Qiu (x : Qd) : (Qaj x).length = 2 := rfl
theorem Qla (xs : List Qd) : (xs.flatMap Qaj).all VV.still = true := Qiv (fun _ => rfl) xs
theorem Qm (xs : List Qd) : (xs.flatMap Qc).map unfr = xs.flatMap Qc := Qd8 (fun _ => rfl) xs
theorem Qr (xs : List Qd) : (xs.flatMap Qaj).map unfr = xs.flatMap Qc := Qd8 (fun _ => rfl) xs
theorem Qma (xs : List Qd) : (xs.flatMap Qaj).all new0 = true := Qiv (fun _ => rfl) xs
theorem ag3 : Qb2 Try.prog 3 = some false := by kernel_rfl
theorem ag4 : Qb2 Try.prog 4 = some false := by kernel_rfl
theorem ag9 : Qb2 Try.prog 9 = some false := by kernel_rfl
theorem ag22 : Qb2 Try.prog 22 = some false := by kernel_rfl
theorem ag23 : Qb2 Try.prog 23 = some false := by kernel_rfl
theorem ag31 : Qb2 Try.prog 31 = some false := by kernel_rfl
theorem ag86 : Qb2 Try.prog 86 = some false := by kernel_rfl
def Qyz (z0 : (List Qd)) (z1 : Int) : List Ans := (nN 4 (.v (vs ((z0.getD z1.toNat default).Name)) :: nN 3 (nS 16 (.b true :: .n :: nS 7 (.b true :: [])))))
def Qy0 (z0 : (List Qd)) (z1 : Int) : List Ans := (nN 4 (.v (vs ((z0.getD z1.toNat default).Name)) :: nN 7 (.v (VV.tr (List.map vi ((z0.getD z1.toNat default).Wear)) (((z0.getD z1.toNat default).Wear).length)) :: nN 7 (.v (VV.tr (List.map vi ((z0.getD z1.toNat default).Wear)) (((z0.getD z1.toNat default).Wear).length)) :: .n :: .n :: .b true :: .b false :: .n :: nS 7 (.b true :: [])))))
def Qsg (z0 : (List Qd)) (z1 : Int) : List Ans := (nN 4 (.v (vs ((z0.getD z1.toNat default).Name)) :: nN 7 (.v (VV.tr (List.map vi ((z0.getD z1.toNat default).Wear)) (((z0.getD z1.toNat default).Wear).length)) :: nN 7 (.v (VV.tr (List.map vi ((z0.getD z1.toNat default).Wear)) (((z0.getD z1.toNat default).Wear).length)) :: .n :: .n :: .b true :: .b false :: nN 5 (.v (VV.tr (List.map vi ((z0.getD z1.toNat default).Wear)) (((z0.getD z1.toNat default).Wear).length)) :: .n :: .n :: .b false :: [])))))
def Qsh (z0 : (List Qd)) (z1 : Int) : List Ans := (nN 4 (.v (vs ((z0.getD z1.toNat default).Name)) :: nN 7 (.v (VV.tr (List.map vi ((z0.getD z1.toNat default).Wear)) (((z0.getD z1.toNat default).Wear).length)) :: nN 3 (nS 7 (.b false :: .b false :: nN 5 (.v (VV.tr (List.map vi ((z0.getD z1.toNat default).Wear)) (((z0.getD z1.toNat default).Wear).length)) :: .n :: .n :: .b false :: []))))))
def Ji (a0 : (List Qd)) (x3 : Int) : VS := ⟨mkA [(0, VV.tr (flatMap Qc a0) a0.length), (3, vi x3)], [], .nil⟩
def X7 (a0 : (List Qd)) (r : Unit) : VS := ⟨mkA [(2, vb false)], [], .nil⟩
def Qa2 (a0 : (List Qd)) (r : Unit) : VS := ⟨mkA [], [], .nil⟩
def Z4 (k : Nat) (a0 : (List Qd)) : Nat -> Int -> Option (Sum Unit Unit)
 | 0, _ => none
 | fuel + 1, x3 => if x3 < (a0.length : Int) then (if 0 <= x3 /\ x3 < (a0.length : Int) then (if 30 < (((a0.getD x3.toNat default).Name).size : Int) then (some (.inl ())) else (if 10 < (((a0.getD x3.toNat default).Wear).length : Int) then (if (((a0.getD x3.toNat default).Wear).length : Int) <= 40 then (some (.inl ())) else (if 43 < (((a0.getD x3.toNat default).Wear).length : Int) then (some (.inl ())) else (Z4 k a0 fuel (w64 (x3 + 1))))) else (if 43 < (((a0.getD x3.toNat default).Wear).length : Int) then (some (.inl ())) else (Z4 k a0 fuel (w64 (x3 + 1)))))) else none) else (some (.inr ()))
theorem Qe5 (k : Nat) (a0 : (List Qd)) : ∀ (fuel : Nat) (x3 : Int) (r : Sum Unit Unit), Z4 k a0 fuel x3 = some r -> (match r with | .inl r => Y0 none Try.prog (szF Try.f6) (J5 Try.f6 0) (Ji a0 x3) .ret (X7 a0 r) | .inr r => Y0 none Try.prog (szF Try.f6) (J5 Try.f6 0) (Ji a0 x3) (.exit 0) (Qa2 a0 r)) := by
 intro fuel
 induction fuel with
 | zero => intro x3 r h; rw [Z4.eq_1] at h; cases h
 | succ fuel ih =>
  intro x3 r h
  rw [Z4.eq_2] at h
  rcases ifs h with ⟨h579, h⟩ | ⟨h579, h⟩
  ·obtain ⟨h580, h⟩ := ifn h
   have e581 := (show Zg Try.prog 9 (x3.toNat * 2 + 0) (flatMap Qc a0) = some (vs ((a0.getD x3.toNat default).Name)) from (Xn ag9 Qc 2 0 Q7 (by omega) a0 default h580 (by omega)).trans rfl)
   rcases ifs h with ⟨h582, h⟩ | ⟨h582, h⟩
   ·have e583 := (ti (ti (an h580 (ti (an e581 (ti (ti (ti (an (dt h582) (an (dt h582) (an (dt h582) (an (dt h582) (an (dt h582) (an (dt h582) (an (dt h582) (an (dt h582) (ti (ti (ti (ti (ti (ti (ti (an (dt h582) (an (dt h582) (ti (an rt (an rt (an rt (an rt (an rt (an rt (an rt (an rt tt))))))))))))))))))))))))))))))))))
    injection h with h; subst h
    exact Qv (c := ⟨[(2, none)], [], []⟩) (s1 := (X7 a0 ())) pm pn (ans := [.reg (nN 4 []), .br true, .reg (Qyz a0 x3), .br true, .reg (.n :: [])]) (by kernel_rfl) (by intro e; cases e) (an (an (an (ti (ti (ti (ti tt)))) (an (dt h579) tt)) (an e583 (an rt (an (ti tt) tt)))) (ti tt))
   ·have e584 := (an (df h582) (show Zg Try.prog 23 (x3.toNat * 2 + 1) (flatMap Qc a0) = some (VV.tr (List.map vi ((a0.getD x3.toNat default).Wear)) (((a0.getD x3.toNat default).Wear).length)) from (Xn ag23 Qc 2 1 Q7 (by omega) a0 default h580 (by omega)).trans rfl))
    rcases ifs h with ⟨h585, h⟩ | ⟨h585, h⟩
    ·have e586 := (an (dt h585) (show Zg Try.prog 23 (x3.toNat * 2 + 1) (flatMap Qc a0) = some (VV.tr (List.map vi ((a0.getD x3.toNat default).Wear)) (((a0.getD x3.toNat default).Wear).length)) from (Xn ag23 Qc 2 1 Q7 (by omega) a0 default h580 (by omega)).trans rfl))
     have e587 := (an (df h582) (dt h585))
     rcases ifs h with ⟨h588, h⟩ | ⟨h588, h⟩
     ·have e589 := (ti (ti (an h580 (ti (an e581 (ti (ti (ti (an (an (df h582) tt) (an (an (df h582) tt) (an (an (df h582) h580) (an (an (df h582) tt) (an e584 (an (an (df h582) tt) (an (an (df h582) tt) (an (an (df h582) tt) (an (an (dt h585) tt) (an (an (dt h585) tt) (an (an (dt h585) h580) (an (an (dt h585) tt) (an e586 (an (an (dt h585) tt) (an (an (dt h585) tt) (an e587 (an (df h582) (ti (an (dt h588) (an (dt h588) (an (dt h588) (an (dt h588) (an (dt h588) (an (dt h588) (an (dt h588) (an (dt h588) tt))))))))))))))))))))))))))))))))))
      injection h with h; subst h
      exact Qv (c := ⟨[(2, none)], [], []⟩) (s1 := (X7 a0 ())) pm pn (ans := [.reg (nN 4 []), .br true, .reg (Qy0 a0 x3), .br true, .reg (.n :: [])]) (by kernel_rfl) (by intro e; cases e) (an (an (an (ti (ti (ti (ti tt)))) (an (dt h579) tt)) (an e589 (an rt (an (ti tt) tt)))) (ti tt))
     ·have e590 := (an (df h588) (show Zg Try.prog 23 (x3.toNat * 2 + 1) (flatMap Qc a0) = some (VV.tr (List.map vi ((a0.getD x3.toNat default).Wear)) (((a0.getD x3.toNat default).Wear).length)) from (Xn ag23 Qc 2 1 Q7 (by omega) a0 default h580 (by omega)).trans rfl))
      have e591 := (ti (ti (an h580 (ti (an e581 (ti (ti (ti (an (an (df h582) tt) (an (an (df h582) tt) (an (an (df h582) h580) (an (an (df h582) tt) (an e584 (an (an (df h582) tt) (an (an (df h582) tt) (an (an (df h582) tt) (an (an (dt h585) tt) (an (an (dt h585) tt) (an (an (dt h585) h580) (an (an (dt h585) tt) (an e586 (an (an (dt h585) tt) (an (an (dt h585) tt) (an e587 (an (df h582) (ti (an (an (df h588) tt) (an (an (df h588) tt) (an (an (df h588) h580) (an (an (df h588) tt) (an e590 (an (an (df h588) tt) (an (an (df h588) tt) (an (df h588) tt))))))))))))))))))))))))))))))))))
      rcases ifs h with ⟨h592, h⟩ | ⟨h592, h⟩
      ·injection h with h; subst h
       exact Qv (c := ⟨[(2, none)], [], []⟩) (s1 := (X7 a0 ())) pm pn (ans := [.reg (nN 4 []), .br true, .reg (Qsg a0 x3), .br true, .reg (.n :: [])]) (by kernel_rfl) (by intro e; cases e) (an (an (an (ti (ti (ti (ti tt)))) (an (dt h579) tt)) (an e591 (an (dt h592) (an (ti tt) tt)))) (ti tt))
      ·have h2 := ih _ _ h
       obtain ⟨q, hv, hq⟩ := pkR (rd := none) (P := Try.prog) (fn := Try.f6) (k := 0) (s := (Ji a0 x3)) (ans := [.reg (nN 4 []), .br true, .reg (Qsg a0 x3), .br false, .reg (nN 3 [])]) (c := ⟨[(0, none), (3, none)], [], []⟩) (e := .normal) (s1 := (Ji a0 (w64 (x3 + 1)))) (an (an (an (ti (ti (ti (ti tt)))) (an (dt h579) tt)) (an (an e591 (an (df h592) tt)) (ti (ti (ti tt))))) (ti tt)) (by kernel_rfl)
       cases r with
       | inl r => exact Qw pm pn hv hq h2
       | inr r =>
        exact Qw pm pn hv hq h2
    ·have e593 := (an (df h582) (df h585))
     have e594 := (an rf (show Zg Try.prog 23 (x3.toNat * 2 + 1) (flatMap Qc a0) = some (VV.tr (List.map vi ((a0.getD x3.toNat default).Wear)) (((a0.getD x3.toNat default).Wear).length)) from (Xn ag23 Qc 2 1 Q7 (by omega) a0 default h580 (by omega)).trans rfl))
     have e595 := (ti (ti (an h580 (ti (an e581 (ti (ti (ti (an (an (df h582) tt) (an (an (df h582) tt) (an (an (df h582) h580) (an (an (df h582) tt) (an e584 (an (an (df h582) tt) (an (an (df h582) tt) (an (an (df h582) tt) (an (df h585) (an (df h585) (an (df h585) (an (df h585) (an (df h585) (an (df h585) (an (df h585) (an e593 (an (df h582) (ti (an (an rf tt) (an (an rf tt) (an (an rf h580) (an (an rf tt) (an e594 (an (an rf tt) (an (an rf tt) (an rf tt))))))))))))))))))))))))))))))))))
     rcases ifs h with ⟨h596, h⟩ | ⟨h596, h⟩
     ·injection h with h; subst h
      exact Qv (c := ⟨[(2, none)], [], []⟩) (s1 := (X7 a0 ())) pm pn (ans := [.reg (nN 4 []), .br true, .reg (Qsh a0 x3), .br true, .reg (.n :: [])]) (by kernel_rfl) (by intro e; cases e) (an (an (an (ti (ti (ti (ti tt)))) (an (dt h579) tt)) (an e595 (an (dt h596) (an (ti tt) tt)))) (ti tt))
     ·have h2 := ih _ _ h
      obtain ⟨q, hv, hq⟩ := pkR (rd := none) (P := Try.prog) (fn := Try.f6) (k := 0) (s := (Ji a0 x3)) (ans := [.reg (nN 4 []), .br true, .reg (Qsh a0 x3), .br false, .reg (nN 3 [])]) (c := ⟨[(0, none), (3, none)], [], []⟩) (e := .normal) (s1 := (Ji a0 (w64 (x3 + 1)))) (an (an (an (ti (ti (ti (ti tt)))) (an (dt h579) tt)) (an (an e595 (an (df h596) tt)) (ti (ti (ti tt))))) (ti tt)) (by kernel_rfl)
      cases r with
      | inl r => exact Qw pm pn hv hq h2
      | inr r =>
       exact Qw pm pn hv hq h2
  ·injection h with h; subst h
   exact Qv (c := ⟨[], [], []⟩) (s1 := (Qa2 a0 ())) pm pn (ans := [.reg (nN 4 []), .br false]) (by kernel_rfl) (by intro e; cases e) (an (an (ti (ti (ti (ti tt)))) (an (df h579) tt)) (ti tt))
def Jj (a0 : (List Qd)) (x3 : Int) : VS := ⟨mkA [(0, VV.tr (flatMap Qc a0) a0.length), (3, vi x3)], [], .nil⟩
def X8 (a0 : (List Qd)) (r : Unit) : VS := ⟨mkA [(2, vb false)], [], .nil⟩
def Qa3 (a0 : (List Qd)) (r : Unit) : VS := ⟨mkA [], [], .nil⟩
def Z5 (k : Nat) (a0 : (List Qd)) : Nat -> Int -> Option (Sum Unit Unit)
 | 0, _ => none
 | fuel + 1, x3 => if x3 < (a0.length : Int) then (if 0 <= x3 /\ x3 < (a0.length : Int) then (if 30 < (((a0.getD x3.toNat default).Name).size : Int) then (some (.inl ())) else (if 10 < (((a0.getD x3.toNat default).Wear).length : Int) then (if (((a0.getD x3.toNat default).Wear).length : Int) <= 40 then (some (.inl ())) else (if 43 < (((a0.getD x3.toNat default).Wear).length : Int) then (some (.inl ())) else (Z5 k a0 fuel (w64 (x3 + 1))))) else (if 43 < (((a0.getD x3.toNat default).Wear).length : Int) then (some (.inl ())) else (Z5 k a0 fuel (w64 (x3 + 1)))))) else none) else (some (.inr ()))
theorem Qe6 (k : Nat) (a0 : (List Qd)) : ∀ (fuel : Nat) (x3 : Int) (r : Sum Unit Unit), Z5 k a0 fuel x3 = some r -> (match r with | .inl r => Y0 none Try.prog (szF Try.f6) (J5 Try.f6 0) (Jj a0 x3) .ret (X8 a0 r) | .inr r => Y0 none Try.prog (szF Try.f6) (J5 Try.f6 0) (Jj a0 x3) (.exit 0) (Qa3 a0 r)) := by
 intro fuel
 induction fuel with
 | zero => intro x3 r h; rw [Z5.eq_1] at h; cases h
 | succ fuel ih =>
  intro x3 r h
  rw [Z5.eq_2] at h
  rcases ifs h with ⟨h641, h⟩ | ⟨h641, h⟩
  ·obtain ⟨h642, h⟩ := ifn h
   have e643 := (show Zg Try.prog 9 (x3.toNat * 2 + 0) (flatMap Qc a0) = some (vs ((a0.getD x3.toNat default).Name)) from (Xn ag9 Qc 2 0 Q7 (by omega) a0 default h642 (by omega)).trans rfl)
   rcases ifs h with ⟨h644, h⟩ | ⟨h644, h⟩
   ·have e645 := (ti (ti (an h642 (ti (an e643 (ti (ti (ti (an (dt h644) (an (dt h644) (an (dt h644) (an (dt h644) (an (dt h644) (an (dt h644) (an (dt h644) (an (dt h644) (ti (ti (ti (ti (ti (ti (ti (an (dt h644) (an (dt h644) (ti (an rt (an rt (an rt (an rt (an rt (an rt (an rt (an rt tt))))))))))))))))))))))))))))))))))
    injection h with h; subst h
    exact Qv (c := ⟨[(2, none)], [], []⟩) (s1 := (X8 a0 ())) pm pn (ans := [.reg (nN 4 []), .br true, .reg (Qyz a0 x3), .br true, .reg (.n :: [])]) (by kernel_rfl) (by intro e; cases e) (an (an (an (ti (ti (ti (ti tt)))) (an (dt h641) tt)) (an e645 (an rt (an (ti tt) tt)))) (ti tt))
   ·have e646 := (an (df h644) (show Zg Try.prog 23 (x3.toNat * 2 + 1) (flatMap Qc a0) = some (VV.tr (List.map vi ((a0.getD x3.toNat default).Wear)) (((a0.getD x3.toNat default).Wear).length)) from (Xn ag23 Qc 2 1 Q7 (by omega) a0 default h642 (by omega)).trans rfl))
    rcases ifs h with ⟨h647, h⟩ | ⟨h647, h⟩
    ·have e648 := (an (dt h647) (show Zg Try.prog 23 (x3.toNat * 2 + 1) (flatMap Qc a0) = some (VV.tr (List.map vi ((a0.getD x3.toNat default).Wear)) (((a0.getD x3.toNat default).Wear).length)) from (Xn ag23 Qc 2 1 Q7 (by omega) a0 default h642 (by omega)).trans rfl))
     have e649 := (an (df h644) (dt h647))
     rcases ifs h with ⟨h650, h⟩ | ⟨h650, h⟩
     ·have e651 := (ti (ti (an h642 (ti (an e643 (ti (ti (ti (an (an (df h644) tt) (an (an (df h644) tt) (an (an (df h644) h642) (an (an (df h644) tt) (an e646 (an (an (df h644) tt) (an (an (df h644) tt) (an (an (df h644) tt) (an (an (dt h647) tt) (an (an (dt h647) tt) (an (an (dt h647) h642) (an (an (dt h647) tt) (an e648 (an (an (dt h647) tt) (an (an (dt h647) tt) (an e649 (an (df h644) (ti (an (dt h650) (an (dt h650) (an (dt h650) (an (dt h650) (an (dt h650) (an (dt h650) (an (dt h650) (an (dt h650) tt))))))))))))))))))))))))))))))))))
      injection h with h; subst h
      exact Qv (c := ⟨[(2, none)], [], []⟩) (s1 := (X8 a0 ())) pm pn (ans := [.reg (nN 4 []), .br true, .reg (Qy0 a0 x3), .br true, .reg (.n :: [])]) (by kernel_rfl) (by intro e; cases e) (an (an (an (ti (ti (ti (ti tt)))) (an (dt h641) tt)) (an e651 (an rt (an (ti tt) tt)))) (ti tt))
     ·have e652 := (an (df h650) (show Zg Try.prog 23 (x3.toNat * 2 + 1) (flatMap Qc a0) = some (VV.tr (List.map vi ((a0.getD x3.toNat default).Wear)) (((a0.getD x3.toNat default).Wear).length)) from (Xn ag23 Qc 2 1 Q7 (by omega) a0 default h642 (by omega)).trans rfl))
      have e653 := (ti (ti (an h642 (ti (an e643 (ti (ti (ti (an (an (df h644) tt) (an (an (df h644) tt) (an (an (df h644) h642) (an (an (df h644) tt) (an e646 (an (an (df h644) tt) (an (an (df h644) tt) (an (an (df h644) tt) (an (an (dt h647) tt) (an (an (dt h647) tt) (an (an (dt h647) h642) (an (an (dt h647) tt) (an e648 (an (an (dt h647) tt) (an (an (dt h647) tt) (an e649 (an (df h644) (ti (an (an (df h650) tt) (an (an (df h650) tt) (an (an (df h650) h642) (an (an (df h650) tt) (an e652 (an (an (df h650) tt) (an (an (df h650) tt) (an (df h650) tt))))))))))))))))))))))))))))))))))
      rcases ifs h with ⟨h654, h⟩ | ⟨h654, h⟩
      ·injection h with h; subst h
       exact Qv (c := ⟨[(2, none)], [], []⟩) (s1 := (X8 a0 ())) pm pn (ans := [.reg (nN 4 []), .br true, .reg (Qsg a0 x3), .br true, .reg (.n :: [])]) (by kernel_rfl) (by intro e; cases e) (an (an (an (ti (ti (ti (ti tt)))) (an (dt h641) tt)) (an e653 (an (dt h654) (an (ti tt) tt)))) (ti tt))
      ·have h2 := ih _ _ h
       obtain ⟨q, hv, hq⟩ := pkR (rd := none) (P := Try.prog) (fn := Try.f6) (k := 0) (s := (Jj a0 x3)) (ans := [.reg (nN 4 []), .br true, .reg (Qsg a0 x3), .br false, .reg (nN 3 [])]) (c := ⟨[(0, none), (3, none)], [], []⟩) (e := .normal) (s1 := (Jj a0 (w64 (x3 + 1)))) (an (an (an (ti (ti (ti (ti tt)))) (an (dt h641) tt)) (an (an e653 (an (df h654) tt)) (ti (ti (ti tt))))) (ti tt)) (by kernel_rfl)
       cases r with
       | inl r => exact Qw pm pn hv hq h2
       | inr r =>
        exact Qw pm pn hv hq h2
    ·have e655 := (an (df h644) (df h647))
     have e656 := (an rf (show Zg Try.prog 23 (x3.toNat * 2 + 1) (flatMap Qc a0) = some (VV.tr (List.map vi ((a0.getD x3.toNat default).Wear)) (((a0.getD x3.toNat default).Wear).length)) from (Xn ag23 Qc 2 1 Q7 (by omega) a0 default h642 (by omega)).trans rfl))
     have e657 := (ti (ti (an h642 (ti (an e643 (ti (ti (ti (an (an (df h644) tt) (an (an (df h644) tt) (an (an (df h644) h642) (an (an (df h644) tt) (an e646 (an (an (df h644) tt) (an (an (df h644) tt) (an (an (df h644) tt) (an (df h647) (an (df h647) (an (df h647) (an (df h647) (an (df h647) (an (df h647) (an (df h647) (an e655 (an (df h644) (ti (an (an rf tt) (an (an rf tt) (an (an rf h642) (an (an rf tt) (an e656 (an (an rf tt) (an (an rf tt) (an rf tt))))))))))))))))))))))))))))))))))
     rcases ifs h with ⟨h658, h⟩ | ⟨h658, h⟩
     ·injection h with h; subst h
      exact Qv (c := ⟨[(2, none)], [], []⟩) (s1 := (X8 a0 ())) pm pn (ans := [.reg (nN 4 []), .br true, .reg (Qsh a0 x3), .br true, .reg (.n :: [])]) (by kernel_rfl) (by intro e; cases e) (an (an (an (ti (ti (ti (ti tt)))) (an (dt h641) tt)) (an e657 (an (dt h658) (an (ti tt) tt)))) (ti tt))
     ·have h2 := ih _ _ h
      obtain ⟨q, hv, hq⟩ := pkR (rd := none) (P := Try.prog) (fn := Try.f6) (k := 0) (s := (Jj a0 x3)) (ans := [.reg (nN 4 []), .br true, .reg (Qsh a0 x3), .br false, .reg (nN 3 [])]) (c := ⟨[(0, none), (3, none)], [], []⟩) (e := .normal) (s1 := (Jj a0 (w64 (x3 + 1)))) (an (an (an (ti (ti (ti (ti tt)))) (an (dt h641) tt)) (an (an e657 (an (df h658) tt)) (ti (ti (ti tt))))) (ti tt)) (by kernel_rfl)
      cases r with
      | inl r => exact Qw pm pn hv hq h2
      | inr r =>
       exact Qw pm pn hv hq h2
  ·injection h with h; subst h
   exact Qv (c := ⟨[], [], []⟩) (s1 := (Qa3 a0 ())) pm pn (ans := [.reg (nN 4 []), .br false]) (by kernel_rfl) (by intro e; cases e) (an (an (ti (ti (ti (ti tt)))) (an (df h641) tt)) (ti tt))
def Qax (k : Nat) (a0 : (List Qd)) : Option Bool :=
 if 4 < (a0.length : Int) then (if (a0.length : Int) <= 12 then (some false) else (if 15 < (a0.length : Int) then (some false) else ((Z4 k a0 k 0).bind fun r598 => (match r598 with | .inl r599 => (some false) | .inr r600 => (some true))))) else (if 15 < (a0.length : Int) then (some false) else ((Z5 k a0 k 0).bind fun r660 => (match r660 with | .inl r661 => (some false) | .inr r662 => (some true))))
theorem Qay (k : Nat) (a0 : (List Qd)) (r : Bool) (h : Qax k a0 = some r) : VC Try.prog 6 [VV.tr (flatMap Qc a0) a0.length] (vb r) := by
 unfold Qax at h
 rcases ifs h with ⟨h538, h⟩ | ⟨h538, h⟩
 ·rcases ifs h with ⟨h539, h⟩ | ⟨h539, h⟩
  ·have e540 := (ti (ti (ti (ti (an (an (dt h538) tt) (an (an (dt h538) tt) (an (an (dt h538) tt) (an (dt h538) (ti (an (dt h539) (an (dt h539) (an (dt h539) (an (dt h539) tt)))))))))))))
   injection h with h; subst h
   exact Qq pm pn Try.func6 (r0 := vb false) (ans := [.reg (.n :: []), .reg (nN 7 (.b true :: .n :: nS 3 (.b true :: []))), .br true, .reg (.n :: [])]) (fr := true) (by kernel_rfl) (an (an (ti tt) (an e540 (an rt (an (ti tt) tt)))) (ti tt)) (Wv.refl _)
  ·have e541 := (ti (ti (ti (ti (an (an (dt h538) tt) (an (an (dt h538) tt) (an (an (dt h538) tt) (an (dt h538) (ti (an (an (df h539) tt) (an (an (df h539) tt) (an (an (df h539) tt) (an (df h539) tt)))))))))))))
   rcases ifs h with ⟨h542, h⟩ | ⟨h542, h⟩
   ·injection h with h; subst h
    exact Qq pm pn Try.func6 (r0 := vb false) (ans := [.reg (.n :: []), .reg (nN 7 (.b true :: nN 4 (.b false :: []))), .br true, .reg (.n :: [])]) (fr := true) (by kernel_rfl) (an (an (ti tt) (an e541 (an (dt h542) (an (ti tt) tt)))) (ti tt)) (Wv.refl _)
   ·obtain ⟨r598, h597, h⟩ := bs h
    have hph597 := Qe5 k a0 _ _ _ h597
    cases r598 with
    | inl r599 =>
     dsimp only at h
     have e601 := (an (ti tt) (VRun.loop hph597))
     injection h with h; subst h
     exact Qq pm pn Try.func6 (r0 := vb false) (ans := [.reg (.n :: []), .reg (nN 7 (.b true :: nN 4 (.b false :: []))), .br false, .reg (.n :: []), .sub ⟨[(0, none), (3, none)], [], []⟩ .ret (X7 a0 r599)]) (fr := true) (by kernel_rfl) (an (an (ti tt) (an (an e541 (an (df h542) tt)) (an (ti tt) e601))) (ti tt)) (Wv.refl _)
    | inr r600 =>
     dsimp only at h
     have e602 := (an (ti tt) (VRun.loop hph597))
     injection h with h; subst h
     exact Qq pm pn Try.func6 (r0 := vb true) (ans := [.reg (.n :: []), .reg (nN 7 (.b true :: nN 4 (.b false :: []))), .br false, .reg (.n :: []), .sub ⟨[(0, none), (3, none)], [], []⟩ (.exit 0) (Qa2 a0 r600), .reg (.n :: [])]) (fr := true) (by kernel_rfl) (an (an (ti tt) (an (an e541 (an (df h542) tt)) (an (an (ti tt) e602) (an (ti tt) tt)))) (ti tt)) (Wv.refl _)
 ·have e603 := (ti (ti (ti (ti (an (df h538) (an (df h538) (an (df h538) (an (df h538) (ti (an (an rf tt) (an (an rf tt) (an (an rf tt) (an rf tt)))))))))))))
  rcases ifs h with ⟨h604, h⟩ | ⟨h604, h⟩
  ·injection h with h; subst h
   exact Qq pm pn Try.func6 (r0 := vb false) (ans := [.reg (.n :: []), .reg (nN 4 (nS 3 (.b false :: nN 4 (.b false :: [])))), .br true, .reg (.n :: [])]) (fr := true) (by kernel_rfl) (an (an (ti tt) (an e603 (an (dt h604) (an (ti tt) tt)))) (ti tt)) (Wv.refl _)
  ·obtain ⟨r660, h659, h⟩ := bs h
   have hph659 := Qe6 k a0 _ _ _ h659
   cases r660 with
   | inl r661 =>
    dsimp only at h
    have e663 := (an (ti tt) (VRun.loop hph659))
    injection h with h; subst h
    exact Qq pm pn Try.func6 (r0 := vb false) (ans := [.reg (.n :: []), .reg (nN 4 (nS 3 (.b false :: nN 4 (.b false :: [])))), .br false, .reg (.n :: []), .sub ⟨[(0, none), (3, none)], [], []⟩ .ret (X8 a0 r661)]) (fr := true) (by kernel_rfl) (an (an (ti tt) (an (an e603 (an (df h604) tt)) (an (ti tt) e663))) (ti tt)) (Wv.refl _)
   | inr r662 =>
    dsimp only at h
    have e664 := (an (ti tt) (VRun.loop hph659))
    injection h with h; subst h
    exact Qq pm pn Try.func6 (r0 := vb true) (ans := [.reg (.n :: []), .reg (nN 4 (nS 3 (.b false :: nN 4 (.b false :: [])))), .br false, .reg (.n :: []), .sub ⟨[(0, none), (3, none)], [], []⟩ (.exit 0) (Qa3 a0 r662), .reg (.n :: [])]) (fr := true) (by kernel_rfl) (an (an (ti tt) (an (an e603 (an (df h604) tt)) (an (an (ti tt) e664) (an (ti tt) tt)))) (ti tt)) (Wv.refl _)
def J3 (k : Nat) (a0 : (List Int)) : Option (List Int) :=
 if ([] : List Int).length + a0.length <= 1000000000 then (some (([] : List Int) ++ a0)) else none
theorem Qbx (k : Nat) (a0 : (List Int)) (r : (List Int)) (h : J3 k a0 = some r) : VC Try.prog 41 [VV.tr (List.map vi a0) a0.length] (VV.fw 1 (List.map vi r) r.length) := by
 unfold J3 at h
 obtain ⟨h671, h⟩ := ifn h
 have e672 := (show List.length [] = 0 * 1 /\ List.length (List.map vi a0) = a0.length * 1 /\ (0 + a0.length) * 8 <= 140737488355328 /\ 0 + a0.length < 1099511627776 /\ List.all (List.map vi a0) VV.still = true from ⟨(by rw [show [] = List.map vi ([] : List Int) from rfl]; simp), (by simp), (by first | omega | (simp at h671 ⊢; omega)), (by first | omega | (simp at h671 ⊢; omega)), (by exact Qki _)⟩)
 injection h with h; subst h
 exact Qq pm pn Try.func41 (r0 := VV.fw 1 (List.drop 0 (List.map unfr ([] ++ (List.map vi a0)))) (0 + a0.length)) (ans := [.reg (.n :: []), .reg (nN 4 [])]) (fr := true) (by kernel_rfl) (an (an (ti tt) (an (ti (ti (an e672 (ti tt)))) tt)) (an (show List.all ([] ++ (List.map vi a0)) new0 = true from (by rw [show [] ++ (List.map vi a0) = List.map vi (([] : List Int) ++ a0) from (by rw [show [] = List.map vi ([] : List Int) from rfl]; exact List.map_append.symm)]; exact Qha _)) tt)) (Wv.of_eq (by simp only [show [] ++ (List.map vi a0) = List.map vi (([] : List Int) ++ a0) from (by rw [show [] = List.map vi ([] : List Int) from rfl]; exact List.map_append.symm), Jz, Zc, Zz, Xo, map_cons, map_nil, un_i, un_k, un_b, un_s, Jr, Qby, length_map, length_replicate, length_append, List.length_set, length_cons, length_nil, Nat.zero_add, Qm, Qr]))
def Q14 (z0 : (List Qd)) (z1 : Int) (z2 : (List Int)) : List Ans := (nN 5 (.v (vs ((z0.getD z1.toNat default).Name)) :: nN 4 (.v (VV.tr (List.map vi ((z0.getD z1.toNat default).Wear)) (((z0.getD z1.toNat default).Wear).length)) :: .call (VV.fr (List.map vi z2) z2.length) :: nN 4 [])))
def Qbs (a0 : (List Qd)) (y0 : List Qd) (x4 : Int) : VS := ⟨mkA [(0, VV.tr (flatMap Qc a0) a0.length), (3, VV.rf 0 0 y0.length), (4, vi x4)], [some ⟨false, 2, flatMap Qaj y0⟩], .nil⟩
def Qbe (a0 : (List Qd)) (r : (List Qd)) : VS := ⟨mkA [(3, VV.rf 0 0 r.length)], [some ⟨false, 2, flatMap Qaj r⟩], .nil⟩
def Xi (k : Nat) (a0 : (List Qd)) : Nat -> (List Qd) -> Int -> Option ((List Qd))
 | 0, _, _ => none
 | fuel + 1, y0, x4 => if x4 < (a0.length : Int) then (if 0 <= x4 /\ x4 < (a0.length : Int) then ((J3 k ((a0.getD x4.toNat default).Wear)).bind fun r746 => (if y0.length + ([(⟨(a0.getD x4.toNat default).Name, r746⟩ : Qd)] : List Qd).length <= 1000000000 then (Xi k a0 fuel (y0 ++ ([(⟨(a0.getD x4.toNat default).Name, r746⟩ : Qd)] : List Qd)) (w64 (x4 + 1))) else none)) else none) else (some y0)
theorem Qfj (k : Nat) (a0 : (List Qd)) : ∀ (fuel : Nat) (y0 : List Qd) (x4 : Int) (r : (List Qd)), Xi k a0 fuel y0 x4 = some r -> (Y0 none Try.prog (szF Try.f9) (J5 Try.f9 0) (Qbs a0 y0 x4) (.exit 0) (Qbe a0 r)) := by
 intro fuel
 induction fuel with
 | zero => intro y0 x4 r h; rw [Xi.eq_1] at h; cases h
 | succ fuel ih =>
  intro y0 x4 r h
  rw [Xi.eq_2] at h
  rcases ifs h with ⟨h742, h⟩ | ⟨h742, h⟩
  ·obtain ⟨h743, h⟩ := ifn h
   have e744 := (show Zg Try.prog 9 (x4.toNat * 2 + 0) (flatMap Qc a0) = some (vs ((a0.getD x4.toNat default).Name)) from (Xn ag9 Qc 2 0 Q7 (by omega) a0 default h743 (by omega)).trans rfl)
   have e745 := (show Zg Try.prog 23 (x4.toNat * 2 + 1) (flatMap Qc a0) = some (VV.tr (List.map vi ((a0.getD x4.toNat default).Wear)) (((a0.getD x4.toNat default).Wear).length)) from (Xn ag23 Qc 2 1 Q7 (by omega) a0 default h743 (by omega)).trans rfl)
   obtain ⟨r746, h747, h⟩ := bs h
   have e748 := (show VC Try.prog 41 [VV.tr (List.map vi ((a0.getD x4.toNat default).Wear)) (((a0.getD x4.toNat default).Wear).length)] (VV.fr (List.map vi r746) r746.length) from (VC.weak (Qbx k ((a0.getD x4.toNat default).Wear) _ h747) (Wv.fw rfl rfl)))
   obtain ⟨h749, h⟩ := ifn h
   have e750 := (show List.length (flatMap Qaj y0) = y0.length * 2 /\ List.length [vs ((a0.getD x4.toNat default).Name), VV.fr (List.map vi r746) r746.length] = 1 * 2 /\ (y0.length + 1) * 40 <= 140737488355328 /\ y0.length + 1 < 1099511627776 /\ List.all [vs ((a0.getD x4.toNat default).Name), VV.fr (List.map vi r746) r746.length] VV.still = true from ⟨(by rw [Qar Qiu] <;> simp), (by rw [show [vs ((a0.getD x4.toNat default).Name), VV.fr (List.map vi r746) r746.length] = flatMap Qaj ([(⟨(a0.getD x4.toNat default).Name, r746⟩ : Qd)] : List Qd) from rfl]; rw [Qar Qiu] <;> simp), (by first | omega | (simp at h749 ⊢; omega)), (by first | omega | (simp at h749 ⊢; omega)), (by rw [show [vs ((a0.getD x4.toNat default).Name), VV.fr (List.map vi r746) r746.length] = flatMap Qaj ([(⟨(a0.getD x4.toNat default).Name, r746⟩ : Qd)] : List Qd) from rfl]; exact Qla _)⟩)
   have e751 := (ti (ti (ti (an h743 (ti (an e744 (ti (ti (an h743 (ti (an e745 (an e748 (ti (ti (an e750 (ti tt))))))))))))))))
   have h2 := ih _ _ _ h
   obtain ⟨q, hv, hq⟩ := pkR (rd := none) (P := Try.prog) (fn := Try.f9) (k := 0) (s := (Qbs a0 y0 x4)) (ans := [.reg (nN 4 []), .br true, .reg (Q14 a0 x4 r746), .reg (nN 3 [])]) (c := ⟨[(0, none), (3, some (VV.rf 0 0 ((y0 ++ ([(⟨(a0.getD x4.toNat default).Name, r746⟩ : Qd)] : List Qd)).length))), (4, none)], [some (flatMap Qaj (y0 ++ ([(⟨(a0.getD x4.toNat default).Name, r746⟩ : Qd)] : List Qd)))], []⟩) (e := .normal) (s1 := (Qbs a0 (y0 ++ ([(⟨(a0.getD x4.toNat default).Name, r746⟩ : Qd)] : List Qd)) (w64 (x4 + 1)))) (an (an (an (ti (ti (ti (ti tt)))) (an (dt h742) tt)) (an e751 (ti (ti (ti tt))))) (an (an (show Wv (VV.rf 0 0 (y0.length + 1)) (VV.rf 0 0 ((y0 ++ ([(⟨(a0.getD x4.toNat default).Name, r746⟩ : Qd)] : List Qd)).length)) from (Wv.of_eq (by simp))) tt) (an (show (flatMap Qaj y0) ++ [vs ((a0.getD x4.toNat default).Name), VV.fr (List.map vi r746) r746.length] = flatMap Qaj (y0 ++ ([(⟨(a0.getD x4.toNat default).Name, r746⟩ : Qd)] : List Qd)) from (by rw [show [vs ((a0.getD x4.toNat default).Name), VV.fr (List.map vi r746) r746.length] = flatMap Qaj ([(⟨(a0.getD x4.toNat default).Name, r746⟩ : Qd)] : List Qd) from rfl]; exact List.flatMap_append.symm)) tt))) (by kernel_rfl)
   exact Qw pm pn hv hq h2
  ·injection h with h; subst h
   exact Qv (c := ⟨[(3, none)], [none], []⟩) (s1 := (Qbe a0 y0)) pm pn (ans := [.reg (nN 4 []), .br false]) (by kernel_rfl) (by intro e; cases e) (an (an (ti (ti (ti (ti tt)))) (an (df h742) tt)) (ti tt))
theorem Q15 (z0 : (List Qd)) : VV.fw 2 (List.drop 0 (List.map unfr (flatMap Qaj z0))) z0.length = VV.fw 2 (flatMap Qc z0) z0.length := by first | rfl | (simp only [Jz, map_cons, map_nil, length_map, Qm, Qr]; done) | (simp only [Jz, map_cons, map_nil, length_map, Qm, Qr]; rfl) | (simp only [Jz, map_cons, map_nil, length_map, Qm, Qr, Qaj, Qc, length_cons, length_nil, length_append]; done)
def Qbd (k : Nat) (a0 : (List Qd)) : Option (List Qd) :=
 (Xi k a0 k ([] : List Qd) 0).bind fun r753 => (some r753)
theorem Qdz (k : Nat) (a0 : (List Qd)) (r : (List Qd)) (h : Qbd k a0 = some r) : VC Try.prog 9 [VV.tr (flatMap Qc a0) a0.length] (VV.fw 2 (flatMap Qc r) r.length) := by
 unfold Qbd at h
 obtain ⟨r753, h752, h⟩ := bs h
 have hph752 := Qfj k a0 _ _ _ _ h752
 have e754 := (an (ti tt) (VRun.loop hph752))
 injection h with h; subst h
 exact Qq pm pn Try.func9 (r0 := VV.fw 2 (List.drop 0 (List.map unfr (flatMap Qaj r753))) r753.length) (ans := [.reg (.n :: []), .reg (.n :: []), .reg (.n :: []), .sub ⟨[(0, none), (3, none), (4, none)], [], [.t 3 2]⟩ (.exit 0) (Qbe a0 r753), .reg (.n :: .n :: [])]) (fr := true) (by kernel_rfl) (an (an (ti tt) (an (ti tt) (an (an (ti tt) e754) (an (ti (ti tt)) tt)))) (an (show List.all (flatMap Qaj r753) new0 = true from (by exact Qma _)) tt)) (Wv.of_eq (Q15 r753))
def Xd (k : Nat) (a0 : Bool) (a1 : Int) : Option (Bool × Int) :=
 some (a0, a1)
theorem Xw (k : Nat) (a0 : Bool) (a1 : Int) (r : (Bool × Int)) (h : Xd k a0 a1 = some r) : VC Try.prog 67 [vb a0, vi a1] (VV.fn 85 [VV.tp [vb r.1] 0, VV.tp [vi r.2] 0]) := by
 unfold Xd at h
 injection h with h; subst h
 exact Qq pm pn Try.func67 (r0 := VV.fn 85 [VV.tp [vb a0] 0, VV.tp [vi a1] 0]) (ans := [.reg (nN 3 []), .frz 0, .frz 1, .reg (.n :: .n :: [])]) (fr := false) (by kernel_rfl) (an (an (ti (ti (ti tt))) (an (ti (ti tt)) tt)) (ti tt)) (Wv.of_eq rfl)
def Jt (k : Nat) (q0_0 : Bool) (q1_0 : Int) : Option Int :=
 if q0_0 = true then (some 0) else (some q1_0)
theorem Ju (k : Nat) (q0_0 : Bool) (q1_0 : Int) (r : Int) (h : Jt k q0_0 q1_0 = some r) : VC Try.prog 85 [VV.tp [vb q0_0] 0, VV.tp [vi q1_0] 0] (vi r) := by
 unfold Jt at h
 have e769 := (show Zg Try.prog 4 0 [vb q0_0] = some (vb q0_0) from (Xb ag4 rfl))
 rcases ifs h with ⟨h770, h⟩ | ⟨h770, h⟩
 ·injection h with h; subst h
  exact Qq pm pn Try.func85 (r0 := vi 0) (ans := [.reg (.n :: []), .reg (.v (vb q0_0) :: []), .br true, .reg (.n :: [])]) (fr := true) (by kernel_rfl) (an (an (ti tt) (an (an e769 tt) (an h770 (an (ti tt) tt)))) (ti tt)) (Wv.refl _)
 ·have e771 := (show Zg Try.prog 31 0 [vi q1_0] = some (vi q1_0) from (Xb ag31 rfl))
  injection h with h; subst h
  exact Qq pm pn Try.func85 (r0 := vi q1_0) (ans := [.reg (.n :: []), .reg (.v (vb q0_0) :: []), .br false, .reg (.v (vi q1_0) :: .n :: [])]) (fr := true) (by kernel_rfl) (an (an (ti tt) (an (an (an e769 tt) (an (Zm h770) tt)) (an (an e771 (ti tt)) tt))) (ti tt)) (Wv.refl _)
def Q16 (z0 : Bool) (z1 : (Bool × Int)) : List Ans := (.n :: .call (vb z0) :: .call (VV.fn 85 [VV.tp [vb z1.1] 0, VV.tp [vi z1.2] 0]) :: .n :: [])
def Y7 (k : Nat) (a0 : ByteArray) : Option (Bool × Int) :=
 (Qdr k a0).bind fun r803 => ((Xd k r803 4).bind fun r805 => (some r805))
theorem Qcv (k : Nat) (a0 : ByteArray) (r : (Bool × Int)) (h : Y7 k a0 = some r) : VC Try.prog 54 [vs a0] (VV.fn 85 [VV.tp [vb r.1] 0, VV.tp [vi r.2] 0]) := by
 unfold Y7 at h
 obtain ⟨r803, h804, h⟩ := bs h
 obtain ⟨r805, h806, h⟩ := bs h
 have e807 := (ti (an (Qkb k a0 _ h804) (an (Xw k r803 4 _ h806) (ti tt))))
 injection h with h; subst h
 exact Qq pm pn Try.func54 (r0 := VV.fn 85 [VV.tp [vb r805.1] 0, VV.tp [vi r805.2] 0]) (ans := [.reg (.n :: []), .reg (Q16 r803 r805)]) (fr := false) (by kernel_rfl) (an (an (ti tt) (an e807 tt)) (ti tt)) (Wv.refl _)
def J7 (k : Nat) (a0 : Int) (a1 : Int) (a2 : (List Int)) : Option ((List Int) × Int × Int) :=
 some (a2, a0, a1)
theorem Qas (k : Nat) (a0 : Int) (a1 : Int) (a2 : (List Int)) (r : ((List Int) × Int × Int)) (h : J7 k a0 a1 a2 = some r) : VC Try.prog 60 [vi a0, vi a1, VV.tr (List.map vi a2) a2.length] (VV.fn 78 [VV.tp [VV.tr (List.map vi r.1) r.1.length] 0, VV.tp [vi r.2.1] 0, VV.tp [vi r.2.2] 0]) := by
 unfold J7 at h
 injection h with h; subst h
 exact Qq pm pn Try.func60 (r0 := VV.fn 78 [VV.tp [VV.tr (List.map vi a2) a2.length] 0, VV.tp [vi a0] 0, VV.tp [vi a1] 0]) (ans := [.reg (nN 4 []), .frz 0, .frz 1, .frz 2, .reg (.n :: .n :: [])]) (fr := false) (by kernel_rfl) (an (an (ti (ti (ti (ti tt)))) (an (ti (ti tt)) tt)) (ti tt)) (Wv.of_eq rfl)
def Qbm (q0_0 : (List Int)) (q1_0 : Int) (q2_0 : Int) (x8 : Int) : VS := ⟨mkA [(1, VV.tp [vi q1_0] 0), (2, VV.tp [vi q2_0] 0), (6, VV.tr (List.map vi q0_0) q0_0.length), (7, vi (q0_0.length : Int)), (8, vi x8)], [], .nil⟩
def Qcf (q0_0 : (List Int)) (q1_0 : Int) (q2_0 : Int) (r : Unit) : VS := ⟨mkA [(3, vi 2)], [], .nil⟩
def Qcg (q0_0 : (List Int)) (q1_0 : Int) (q2_0 : Int) (r : Unit) : VS := ⟨mkA [], [], .nil⟩
def Jd (k : Nat) (q0_0 : (List Int)) (q1_0 : Int) (q2_0 : Int) : Nat -> Int -> Option (Sum Unit Unit)
 | 0, _ => none
 | fuel + 1, x8 => if x8 < (q0_0.length : Int) then (if 0 <= x8 /\ x8 < (q0_0.length : Int) then ((Y3 k (q0_0.getD x8.toNat 0) q1_0 q2_0).bind fun r905 => (if r905 = true then (Jd k q0_0 q1_0 q2_0 fuel (w64 (x8 + 1))) else (some (.inl ())))) else none) else (some (.inr ()))
theorem Qgp (k : Nat) (q0_0 : (List Int)) (q1_0 : Int) (q2_0 : Int) : ∀ (fuel : Nat) (x8 : Int) (r : Sum Unit Unit), Jd k q0_0 q1_0 q2_0 fuel x8 = some r -> (match r with | .inl r => Y0 none Try.prog (szF Try.f78) (J5 Try.f78 0) (Qbm q0_0 q1_0 q2_0 x8) .ret (Qcf q0_0 q1_0 q2_0 r) | .inr r => Y0 none Try.prog (szF Try.f78) (J5 Try.f78 0) (Qbm q0_0 q1_0 q2_0 x8) (.exit 0) (Qcg q0_0 q1_0 q2_0 r)) := by
 intro fuel
 induction fuel with
 | zero => intro x8 r h; rw [Jd.eq_1] at h; cases h
 | succ fuel ih =>
  intro x8 r h
  rw [Jd.eq_2] at h
  rcases ifs h with ⟨h900, h⟩ | ⟨h900, h⟩
  ·obtain ⟨h901, h⟩ := ifn h
   have e902 := (show Zg Try.prog 3 (x8.toNat * 1) (List.map vi q0_0) = some (vi (q0_0.getD x8.toNat 0)) from Qb4 ag3 vi q0_0 0 h901 (by omega))
   have e903 := (show Zg Try.prog 3 0 [vi q1_0] = some (vi q1_0) from (Xb ag3 rfl))
   have e904 := (show Zg Try.prog 3 0 [vi q2_0] = some (vi q2_0) from (Xb ag3 rfl))
   obtain ⟨r905, h906, h⟩ := bs h
   have e907 := (Qcp k (q0_0.getD x8.toNat 0) q1_0 q2_0 _ h906)
   rcases ifs h with ⟨h908, h⟩ | ⟨h908, h⟩
   ·have h2 := ih _ _ h
    obtain ⟨q, hv, hq⟩ := pkR (rd := none) (P := Try.prog) (fn := Try.f78) (k := 0) (s := (Qbm q0_0 q1_0 q2_0 x8)) (ans := [.reg (.n :: []), .br true, .reg (.n :: .v (vi (q0_0.getD x8.toNat 0)) :: .n :: []), .reg (.n :: .v (vi q1_0) :: .v (vi q2_0) :: .call (vb r905) :: .n :: []), .br false, .reg (.n :: .n :: [])]) (c := ⟨[(1, none), (2, none), (6, none), (7, none), (8, none)], [], []⟩) (e := .normal) (s1 := (Qbm q0_0 q1_0 q2_0 (w64 (x8 + 1)))) (an (an (ti tt) (an (an (dt h900) tt) (an (an (an h901 (an e902 (ti tt))) (an (ti (an e903 (an e904 (an e907 (ti tt))))) (an (Qs h908) tt))) (ti (ti tt))))) (ti tt)) (by kernel_rfl)
    cases r with
    | inl r => exact Qw pm pn hv hq h2
    | inr r =>
     exact Qw pm pn hv hq h2
   ·injection h with h; subst h
    exact Qv (c := ⟨[(3, none)], [], []⟩) (s1 := (Qcf q0_0 q1_0 q2_0 ())) pm pn (ans := [.reg (.n :: []), .br true, .reg (.n :: .v (vi (q0_0.getD x8.toNat 0)) :: .n :: []), .reg (.n :: .v (vi q1_0) :: .v (vi q2_0) :: .call (vb r905) :: .n :: []), .br true, .reg (.n :: [])]) (by kernel_rfl) (by intro e; cases e) (an (an (ti tt) (an (an (dt h900) tt) (an (an h901 (an e902 (ti tt))) (an (ti (an e903 (an e904 (an e907 (ti tt))))) (an (Zj (Zm h908)) (an (ti tt) tt)))))) (ti tt))
  ·injection h with h; subst h
   exact Qv (c := ⟨[], [], []⟩) (s1 := (Qcg q0_0 q1_0 q2_0 ())) pm pn (ans := [.reg (.n :: []), .br false]) (by kernel_rfl) (by intro e; cases e) (an (an (ti tt) (an (df h900) tt)) (ti tt))
def Qbf (k : Nat) (q0_0 : (List Int)) (q1_0 : Int) (q2_0 : Int) : Option Int :=
 (Jd k q0_0 q1_0 q2_0 k 0).bind fun r910 => (match r910 with | .inl r911 => (some 2) | .inr r912 => (some 0))
theorem Qds (k : Nat) (q0_0 : (List Int)) (q1_0 : Int) (q2_0 : Int) (r : Int) (h : Qbf k q0_0 q1_0 q2_0 = some r) : VC Try.prog 78 [VV.tp [VV.tr (List.map vi q0_0) q0_0.length] 0, VV.tp [vi q1_0] 0, VV.tp [vi q2_0] 0] (vi r) := by
 unfold Qbf at h
 have e881 := (show Zg Try.prog 23 0 [VV.tr (List.map vi q0_0) q0_0.length] = some (VV.tr (List.map vi q0_0) q0_0.length) from (Xb ag23 rfl))
 obtain ⟨r910, h909, h⟩ := bs h
 have hph909 := Qgp k q0_0 q1_0 q2_0 _ _ _ h909
 cases r910 with
 | inl r911 =>
  dsimp only at h
  have e913 := (an (ti tt) (VRun.loop hph909))
  injection h with h; subst h
  exact Qq pm pn Try.func78 (r0 := vi 2) (ans := [.reg (.n :: []), .reg (.v (VV.tr (List.map vi q0_0) q0_0.length) :: .n :: .n :: []), .sub ⟨[(1, none), (2, none), (6, none), (7, none), (8, none)], [], []⟩ .ret (Qcf q0_0 q1_0 q2_0 r911)]) (fr := true) (by kernel_rfl) (an (an (ti tt) (an (an e881 (ti (ti tt))) e913)) (ti tt)) (Wv.refl _)
 | inr r912 =>
  dsimp only at h
  have e914 := (an (ti tt) (VRun.loop hph909))
  injection h with h; subst h
  exact Qq pm pn Try.func78 (r0 := vi 0) (ans := [.reg (.n :: []), .reg (.v (VV.tr (List.map vi q0_0) q0_0.length) :: .n :: .n :: []), .sub ⟨[(1, none), (2, none), (6, none), (7, none), (8, none)], [], []⟩ (.exit 0) (Qcg q0_0 q1_0 q2_0 r912), .reg (.n :: [])]) (fr := true) (by kernel_rfl) (an (an (ti tt) (an (an (an e881 (ti (ti tt))) e914) (an (ti tt) tt))) (ti tt)) (Wv.refl _)
def Qy1 (z0 : ((Bool × Int) × (Bool × Int) × (Bool × Int) × ((List Int) × Int × Int))) : List Ans := (.n :: .v (VV.fn 78 [VV.tp [VV.tr (List.map vi z0.2.2.2.1) z0.2.2.2.1.length] 0, VV.tp [vi z0.2.2.2.2.1] 0, VV.tp [vi z0.2.2.2.2.2] 0]) :: .n :: [])
def Qi (k : Nat) (a0 : ((Bool × Int) × (Bool × Int) × (Bool × Int) × ((List Int) × Int × Int))) : Option Int :=
 (Jt k a0.1.1 a0.1.2).bind fun r921 => (if r921 = 0 then ((Jt k a0.2.1.1 a0.2.1.2).bind fun r927 => (if r927 = 0 then ((Jt k a0.2.2.1.1 a0.2.2.1.2).bind fun r933 => (if r933 = 0 then ((Qbf k a0.2.2.2.1 a0.2.2.2.2.1 a0.2.2.2.2.2).bind fun r939 => (if r939 = 0 then (some 0) else (some r939))) else (some r933))) else (some r927))) else (some r921))
theorem Zd (k : Nat) (a0 : ((Bool × Int) × (Bool × Int) × (Bool × Int) × ((List Int) × Int × Int))) (r : Int) (h : Qi k a0 = some r) : VC Try.prog 35 [VV.tr ([VV.fn 85 [VV.tp [vb a0.1.1] 0, VV.tp [vi a0.1.2] 0], VV.fn 85 [VV.tp [vb a0.2.1.1] 0, VV.tp [vi a0.2.1.2] 0], VV.fn 85 [VV.tp [vb a0.2.2.1.1] 0, VV.tp [vi a0.2.2.1.2] 0], VV.fn 78 [VV.tp [VV.tr (List.map vi a0.2.2.2.1) a0.2.2.2.1.length] 0, VV.tp [vi a0.2.2.2.2.1] 0, VV.tp [vi a0.2.2.2.2.2] 0]]) 4] (vi r) := by
 unfold Qi at h
 have e919 := (show (0 : Int) <= 0 /\ (0 : Int) < ((4 : Nat) : Int) from ⟨by decide, by decide⟩)
 have e920 := (show Zg Try.prog 86 ((0 : Int).toNat * 1) ([VV.fn 85 [VV.tp [vb a0.1.1] 0, VV.tp [vi a0.1.2] 0], VV.fn 85 [VV.tp [vb a0.2.1.1] 0, VV.tp [vi a0.2.1.2] 0], VV.fn 85 [VV.tp [vb a0.2.2.1.1] 0, VV.tp [vi a0.2.2.1.2] 0], VV.fn 78 [VV.tp [VV.tr (List.map vi a0.2.2.2.1) a0.2.2.2.1.length] 0, VV.tp [vi a0.2.2.2.2.1] 0, VV.tp [vi a0.2.2.2.2.2] 0]]) = some (VV.fn 85 [VV.tp [vb a0.1.1] 0, VV.tp [vi a0.1.2] 0]) from (Xb ag86 rfl))
 obtain ⟨r921, h922, h⟩ := bs h
 have e923 := (Ju k a0.1.1 a0.1.2 _ h922)
 rcases ifs h with ⟨h924, h⟩ | ⟨h924, h⟩
 ·have e925 := (show (0 : Int) <= 1 /\ (1 : Int) < ((4 : Nat) : Int) from ⟨by decide, by decide⟩)
  have e926 := (show Zg Try.prog 86 ((1 : Int).toNat * 1) ([VV.fn 85 [VV.tp [vb a0.1.1] 0, VV.tp [vi a0.1.2] 0], VV.fn 85 [VV.tp [vb a0.2.1.1] 0, VV.tp [vi a0.2.1.2] 0], VV.fn 85 [VV.tp [vb a0.2.2.1.1] 0, VV.tp [vi a0.2.2.1.2] 0], VV.fn 78 [VV.tp [VV.tr (List.map vi a0.2.2.2.1) a0.2.2.2.1.length] 0, VV.tp [vi a0.2.2.2.2.1] 0, VV.tp [vi a0.2.2.2.2.2] 0]]) = some (VV.fn 85 [VV.tp [vb a0.2.1.1] 0, VV.tp [vi a0.2.1.2] 0]) from (Xb ag86 rfl))
  obtain ⟨r927, h928, h⟩ := bs h
  have e929 := (Ju k a0.2.1.1 a0.2.1.2 _ h928)
  rcases ifs h with ⟨h930, h⟩ | ⟨h930, h⟩
  ·have e931 := (show (0 : Int) <= 2 /\ (2 : Int) < ((4 : Nat) : Int) from ⟨by decide, by decide⟩)
   have e932 := (show Zg Try.prog 86 ((2 : Int).toNat * 1) ([VV.fn 85 [VV.tp [vb a0.1.1] 0, VV.tp [vi a0.1.2] 0], VV.fn 85 [VV.tp [vb a0.2.1.1] 0, VV.tp [vi a0.2.1.2] 0], VV.fn 85 [VV.tp [vb a0.2.2.1.1] 0, VV.tp [vi a0.2.2.1.2] 0], VV.fn 78 [VV.tp [VV.tr (List.map vi a0.2.2.2.1) a0.2.2.2.1.length] 0, VV.tp [vi a0.2.2.2.2.1] 0, VV.tp [vi a0.2.2.2.2.2] 0]]) = some (VV.fn 85 [VV.tp [vb a0.2.2.1.1] 0, VV.tp [vi a0.2.2.1.2] 0]) from (Xb ag86 rfl))
   obtain ⟨r933, h934, h⟩ := bs h
   have e935 := (Ju k a0.2.2.1.1 a0.2.2.1.2 _ h934)
   rcases ifs h with ⟨h936, h⟩ | ⟨h936, h⟩
   ·have e937 := (show (0 : Int) <= 3 /\ (3 : Int) < ((4 : Nat) : Int) from ⟨by decide, by decide⟩)
    have e938 := (show Zg Try.prog 86 ((3 : Int).toNat * 1) ([VV.fn 85 [VV.tp [vb a0.1.1] 0, VV.tp [vi a0.1.2] 0], VV.fn 85 [VV.tp [vb a0.2.1.1] 0, VV.tp [vi a0.2.1.2] 0], VV.fn 85 [VV.tp [vb a0.2.2.1.1] 0, VV.tp [vi a0.2.2.1.2] 0], VV.fn 78 [VV.tp [VV.tr (List.map vi a0.2.2.2.1) a0.2.2.2.1.length] 0, VV.tp [vi a0.2.2.2.2.1] 0, VV.tp [vi a0.2.2.2.2.2] 0]]) = some (VV.fn 78 [VV.tp [VV.tr (List.map vi a0.2.2.2.1) a0.2.2.2.1.length] 0, VV.tp [vi a0.2.2.2.2.1] 0, VV.tp [vi a0.2.2.2.2.2] 0]) from (Xb ag86 rfl))
    obtain ⟨r939, h940, h⟩ := bs h
    have e941 := (Qds k a0.2.2.2.1 a0.2.2.2.2.1 a0.2.2.2.2.2 _ h940)
    rcases ifs h with ⟨h942, h⟩ | ⟨h942, h⟩
    ·injection h with h; subst h
     exact Qq pm pn Try.func35 (r0 := vi 0) (ans := [.reg (.n :: []), .reg (nN 3 []), .unr 6, .reg (.n :: []), .br true, .reg (.n :: .v (VV.fn 85 [VV.tp [vb a0.1.1] 0, VV.tp [vi a0.1.2] 0]) :: .n :: []), .reg (.n :: .call (vi r921) :: .n :: []), .reg (.n :: .n :: []), .br false, .reg (.n :: .n :: []), .reg (.n :: []), .br true, .reg (.n :: .v (VV.fn 85 [VV.tp [vb a0.2.1.1] 0, VV.tp [vi a0.2.1.2] 0]) :: .n :: []), .reg (.n :: .call (vi r927) :: .n :: []), .reg (.n :: .n :: []), .br false, .reg (.n :: .n :: []), .reg (.n :: []), .br true, .reg (.n :: .v (VV.fn 85 [VV.tp [vb a0.2.2.1.1] 0, VV.tp [vi a0.2.2.1.2] 0]) :: .n :: []), .reg (.n :: .call (vi r933) :: .n :: []), .reg (.n :: .n :: []), .br false, .reg (.n :: .n :: []), .reg (.n :: []), .br true, .reg (Qy1 a0), .reg (.n :: .call (vi r939) :: .n :: []), .reg (.n :: .n :: []), .br false, .reg (.n :: .n :: []), .reg (.n :: []), .br false, .reg (.n :: [])]) (fr := true) (by kernel_rfl) (an (an (ti tt) (an (an (ti (ti (ti tt))) (an (an (ti tt) (an (an (show (decide ((0 : Int) < 4)) = true from (dt (by decide))) tt) (an (an (an e919 (an e920 (ti tt))) (an (ti (an e923 (ti tt))) (an (ti (ti tt)) (an (Qs (dt h924)) tt)))) (ti (ti tt))))) (an (an (ti tt) (an (an (show (decide ((1 : Int) < 4)) = true from (dt (by decide))) tt) (an (an (an e925 (an e926 (ti tt))) (an (ti (an e929 (ti tt))) (an (ti (ti tt)) (an (Qs (dt h930)) tt)))) (ti (ti tt))))) (an (an (ti tt) (an (an (show (decide ((2 : Int) < 4)) = true from (dt (by decide))) tt) (an (an (an e931 (an e932 (ti tt))) (an (ti (an e935 (ti tt))) (an (ti (ti tt)) (an (Qs (dt h936)) tt)))) (ti (ti tt))))) (an (an (ti tt) (an (an (show (decide ((3 : Int) < 4)) = true from (dt (by decide))) tt) (an (an (an e937 (an e938 (ti tt))) (an (ti (an e941 (ti tt))) (an (ti (ti tt)) (an (Qs (dt h942)) tt)))) (ti (ti tt))))) (an (ti tt) (an (show (decide ((4 : Int) < 4)) = false from (df (by decide))) tt))))))) (an (ti tt) tt))) (ti tt)) (Wv.refl _)
    ·injection h with h; subst h
     exact Qq pm pn Try.func35 (r0 := vi r939) (ans := [.reg (.n :: []), .reg (nN 3 []), .unr 5, .reg (.n :: []), .br true, .reg (.n :: .v (VV.fn 85 [VV.tp [vb a0.1.1] 0, VV.tp [vi a0.1.2] 0]) :: .n :: []), .reg (.n :: .call (vi r921) :: .n :: []), .reg (.n :: .n :: []), .br false, .reg (.n :: .n :: []), .reg (.n :: []), .br true, .reg (.n :: .v (VV.fn 85 [VV.tp [vb a0.2.1.1] 0, VV.tp [vi a0.2.1.2] 0]) :: .n :: []), .reg (.n :: .call (vi r927) :: .n :: []), .reg (.n :: .n :: []), .br false, .reg (.n :: .n :: []), .reg (.n :: []), .br true, .reg (.n :: .v (VV.fn 85 [VV.tp [vb a0.2.2.1.1] 0, VV.tp [vi a0.2.2.1.2] 0]) :: .n :: []), .reg (.n :: .call (vi r933) :: .n :: []), .reg (.n :: .n :: []), .br false, .reg (.n :: .n :: []), .reg (.n :: []), .br true, .reg (Qy1 a0), .reg (.n :: .call (vi r939) :: .n :: []), .reg (.n :: .n :: []), .br true, .reg (.n :: .n :: [])]) (fr := true) (by kernel_rfl) (an (an (ti tt) (an (ti (ti (ti tt))) (an (an (ti tt) (an (an (show (decide ((0 : Int) < 4)) = true from (dt (by decide))) tt) (an (an (an e919 (an e920 (ti tt))) (an (ti (an e923 (ti tt))) (an (ti (ti tt)) (an (Qs (dt h924)) tt)))) (ti (ti tt))))) (an (an (ti tt) (an (an (show (decide ((1 : Int) < 4)) = true from (dt (by decide))) tt) (an (an (an e925 (an e926 (ti tt))) (an (ti (an e929 (ti tt))) (an (ti (ti tt)) (an (Qs (dt h930)) tt)))) (ti (ti tt))))) (an (an (ti tt) (an (an (show (decide ((2 : Int) < 4)) = true from (dt (by decide))) tt) (an (an (an e931 (an e932 (ti tt))) (an (ti (an e935 (ti tt))) (an (ti (ti tt)) (an (Qs (dt h936)) tt)))) (ti (ti tt))))) (an (ti tt) (an (an (show (decide ((3 : Int) < 4)) = true from (dt (by decide))) tt) (an (an e937 (an e938 (ti tt))) (an (ti (an e941 (ti tt))) (an (ti (ti tt)) (an (Zj (df h942)) (an (ti (ti tt)) tt)))))))))))) (ti tt)) (Wv.refl _)
   ·injection h with h; subst h
    exact Qq pm pn Try.func35 (r0 := vi r933) (ans := [.reg (.n :: []), .reg (nN 3 []), .unr 4, .reg (.n :: []), .br true, .reg (.n :: .v (VV.fn 85 [VV.tp [vb a0.1.1] 0, VV.tp [vi a0.1.2] 0]) :: .n :: []), .reg (.n :: .call (vi r921) :: .n :: []), .reg (.n :: .n :: []), .br false, .reg (.n :: .n :: []), .reg (.n :: []), .br true, .reg (.n :: .v (VV.fn 85 [VV.tp [vb a0.2.1.1] 0, VV.tp [vi a0.2.1.2] 0]) :: .n :: []), .reg (.n :: .call (vi r927) :: .n :: []), .reg (.n :: .n :: []), .br false, .reg (.n :: .n :: []), .reg (.n :: []), .br true, .reg (.n :: .v (VV.fn 85 [VV.tp [vb a0.2.2.1.1] 0, VV.tp [vi a0.2.2.1.2] 0]) :: .n :: []), .reg (.n :: .call (vi r933) :: .n :: []), .reg (.n :: .n :: []), .br true, .reg (.n :: .n :: [])]) (fr := true) (by kernel_rfl) (an (an (ti tt) (an (ti (ti (ti tt))) (an (an (ti tt) (an (an (show (decide ((0 : Int) < 4)) = true from (dt (by decide))) tt) (an (an (an e919 (an e920 (ti tt))) (an (ti (an e923 (ti tt))) (an (ti (ti tt)) (an (Qs (dt h924)) tt)))) (ti (ti tt))))) (an (an (ti tt) (an (an (show (decide ((1 : Int) < 4)) = true from (dt (by decide))) tt) (an (an (an e925 (an e926 (ti tt))) (an (ti (an e929 (ti tt))) (an (ti (ti tt)) (an (Qs (dt h930)) tt)))) (ti (ti tt))))) (an (ti tt) (an (an (show (decide ((2 : Int) < 4)) = true from (dt (by decide))) tt) (an (an e931 (an e932 (ti tt))) (an (ti (an e935 (ti tt))) (an (ti (ti tt)) (an (Zj (df h936)) (an (ti (ti tt)) tt))))))))))) (ti tt)) (Wv.refl _)
  ·injection h with h; subst h
   exact Qq pm pn Try.func35 (r0 := vi r927) (ans := [.reg (.n :: []), .reg (nN 3 []), .unr 3, .reg (.n :: []), .br true, .reg (.n :: .v (VV.fn 85 [VV.tp [vb a0.1.1] 0, VV.tp [vi a0.1.2] 0]) :: .n :: []), .reg (.n :: .call (vi r921) :: .n :: []), .reg (.n :: .n :: []), .br false, .reg (.n :: .n :: []), .reg (.n :: []), .br true, .reg (.n :: .v (VV.fn 85 [VV.tp [vb a0.2.1.1] 0, VV.tp [vi a0.2.1.2] 0]) :: .n :: []), .reg (.n :: .call (vi r927) :: .n :: []), .reg (.n :: .n :: []), .br true, .reg (.n :: .n :: [])]) (fr := true) (by kernel_rfl) (an (an (ti tt) (an (ti (ti (ti tt))) (an (an (ti tt) (an (an (show (decide ((0 : Int) < 4)) = true from (dt (by decide))) tt) (an (an (an e919 (an e920 (ti tt))) (an (ti (an e923 (ti tt))) (an (ti (ti tt)) (an (Qs (dt h924)) tt)))) (ti (ti tt))))) (an (ti tt) (an (an (show (decide ((1 : Int) < 4)) = true from (dt (by decide))) tt) (an (an e925 (an e926 (ti tt))) (an (ti (an e929 (ti tt))) (an (ti (ti tt)) (an (Zj (df h930)) (an (ti (ti tt)) tt)))))))))) (ti tt)) (Wv.refl _)
 ·injection h with h; subst h
  exact Qq pm pn Try.func35 (r0 := vi r921) (ans := [.reg (.n :: []), .reg (nN 3 []), .unr 2, .reg (.n :: []), .br true, .reg (.n :: .v (VV.fn 85 [VV.tp [vb a0.1.1] 0, VV.tp [vi a0.1.2] 0]) :: .n :: []), .reg (.n :: .call (vi r921) :: .n :: []), .reg (.n :: .n :: []), .br true, .reg (.n :: .n :: [])]) (fr := true) (by kernel_rfl) (an (an (ti tt) (an (ti (ti (ti tt))) (an (ti tt) (an (an (show (decide ((0 : Int) < 4)) = true from (dt (by decide))) tt) (an (an e919 (an e920 (ti tt))) (an (ti (an e923 (ti tt))) (an (ti (ti tt)) (an (Zj (df h924)) (an (ti (ti tt)) tt))))))))) (ti tt)) (Wv.refl _)
theorem Qsi (z0 : (Bool × Int)) (z1 : (Bool × Int)) (z2 : (Bool × Int)) (z3 : ((List Int) × Int × Int)) : [VV.tr ([VV.fn 85 [VV.tp [vb (((z0, z1, z2, z3).1).1)] 0, VV.tp [vi (((z0, z1, z2, z3).1).2)] 0], VV.fn 85 [VV.tp [vb (((z0, z1, z2, z3).2.1).1)] 0, VV.tp [vi (((z0, z1, z2, z3).2.1).2)] 0], VV.fn 85 [VV.tp [vb (((z0, z1, z2, z3).2.2.1).1)] 0, VV.tp [vi (((z0, z1, z2, z3).2.2.1).2)] 0], VV.fn 78 [VV.tp [VV.tr (List.map vi (((z0, z1, z2, z3).2.2.2).1)) ((((z0, z1, z2, z3).2.2.2).1).length)] 0, VV.tp [vi (((z0, z1, z2, z3).2.2.2).2.1)] 0, VV.tp [vi (((z0, z1, z2, z3).2.2.2).2.2)] 0]]) 4] = [VV.tr (List.drop 0 (List.map unfr [VV.fn 85 [VV.tp [vb z0.1] 0, VV.tp [vi z0.2] 0], VV.fn 85 [VV.tp [vb z1.1] 0, VV.tp [vi z1.2] 0], VV.fn 85 [VV.tp [vb z2.1] 0, VV.tp [vi z2.2] 0], VV.fn 78 [VV.tp [VV.tr (List.map vi z3.1) z3.1.length] 0, VV.tp [vi z3.2.1] 0, VV.tp [vi z3.2.2] 0]])) 4] := by first | rfl | (simp only [Jz, Zc, Zz, map_cons, map_nil, un_i, un_b, Jr, length_map, length_cons, length_nil]; done) | (simp only [Jz, Zc, Zz, map_cons, map_nil, un_i, un_b, Jr, length_map, length_cons, length_nil]; rfl) | (simp only [Jz, Zc, Zz, map_cons, map_nil, un_i, un_b, Jr, length_map, length_cons, length_nil, length_cons, length_nil, length_append]; done)
def Qu5 (z0 : (List Qd)) (z1 : Int) (z2 : List (ByteArray × Bool)) : List Ans := (.n :: .v (VV.tr (flatMap Qc z0) z0.length) :: nN 3 (.v (vs ((z0.getD z1.toNat default).Name)) :: .v (vb (mget z2 ((z0.getD z1.toNat default).Name))) :: .v (VV.tr (flatMap Qc z0) z0.length) :: nN 3 (.v (VV.tr (List.map vi ((z0.getD z1.toNat default).Wear)) (((z0.getD z1.toNat default).Wear).length)) :: nN 3 [])))
def Qnx (z0 : (List Qd)) (z1 : Int) : List Ans := (.n :: .v (VV.tr (flatMap Qc z0) z0.length) :: nN 3 (.v (vs ((z0.getD z1.toNat default).Name)) :: .n :: []))
def Qu6 (z0 : (List Qd)) (z1 : Int) (z2 : (Bool × Int)) (z3 : (Bool × Int)) (z4 : Bool) (z5 : (Bool × Int)) (z6 : ((List Int) × Int × Int)) (z7 : Int) : List Ans := (.v (VV.tr (flatMap Qc z0) z0.length) :: nN 3 (.v (vs ((z0.getD z1.toNat default).Name)) :: .call (VV.fn 85 [VV.tp [vb z2.1] 0, VV.tp [vi z2.2] 0]) :: .n :: .n :: .call (VV.fn 85 [VV.tp [vb z3.1] 0, VV.tp [vi z3.2] 0]) :: .n :: .v (VV.tr (flatMap Qc z0) z0.length) :: .n :: .n :: .v (VV.tr (List.map vi ((z0.getD ((0 : Int)).toNat default).Wear)) (((z0.getD ((0 : Int)).toNat default).Wear).length)) :: nN 4 (.call (vb z4) :: .b true :: .call (VV.fn 85 [VV.tp [vb z5.1] 0, VV.tp [vi z5.2] 0]) :: .v (VV.tr (flatMap Qc z0) z0.length) :: nN 3 (.v (VV.tr (List.map vi ((z0.getD z1.toNat default).Wear)) (((z0.getD z1.toNat default).Wear).length)) :: .call (VV.fn 78 [VV.tp [VV.tr (List.map vi z6.1) z6.1.length] 0, VV.tp [vi z6.2.1] 0, VV.tp [vi z6.2.2] 0]) :: .n :: .call (vi z7) :: .n :: []))))
def Qu7 (z0 : (List Qd)) (z1 : Int) (z2 : (Bool × Int)) (z3 : (Bool × Int)) (z4 : (Bool × Int)) (z5 : ((List Int) × Int × Int)) (z6 : Int) : List Ans := (.v (VV.tr (flatMap Qc z0) z0.length) :: nN 3 (.v (vs ((z0.getD z1.toNat default).Name)) :: .call (VV.fn 85 [VV.tp [vb z2.1] 0, VV.tp [vi z2.2] 0]) :: .n :: .n :: .call (VV.fn 85 [VV.tp [vb z3.1] 0, VV.tp [vi z3.2] 0]) :: .n :: .v (VV.tr (flatMap Qc z0) z0.length) :: .n :: .n :: .v (VV.tr (List.map vi ((z0.getD ((0 : Int)).toNat default).Wear)) (((z0.getD ((0 : Int)).toNat default).Wear).length)) :: nN 3 (.skip :: .skip :: .b false :: .call (VV.fn 85 [VV.tp [vb z4.1] 0, VV.tp [vi z4.2] 0]) :: .v (VV.tr (flatMap Qc z0) z0.length) :: nN 3 (.v (VV.tr (List.map vi ((z0.getD z1.toNat default).Wear)) (((z0.getD z1.toNat default).Wear).length)) :: .call (VV.fn 78 [VV.tp [VV.tr (List.map vi z5.1) z5.1.length] 0, VV.tp [vi z5.2.1] 0, VV.tp [vi z5.2.2] 0]) :: .n :: .call (vi z6) :: .n :: []))))
def Qu8 (z0 : (List Qd)) (z1 : Int) : List Ans := (.n :: .v (VV.tr (flatMap Qc z0) z0.length) :: nN 3 (.v (vs ((z0.getD z1.toNat default).Name)) :: .b false :: .v (VV.tr (flatMap Qc z0) z0.length) :: nN 3 (.v (VV.tr (List.map vi ((z0.getD z1.toNat default).Wear)) (((z0.getD z1.toNat default).Wear).length)) :: nN 3 [])))
noncomputable def Qu9 (z0 : (List Qd)) (z1 : Int) (z2 : List (ByteArray × Bool)) (z3 : (Bool × Int)) (z4 : (Bool × Int)) (z5 : Bool) (z6 : (Bool × Int)) (z7 : ((List Int) × Int × Int)) (z8 : Int) : List Ans := (.n :: .n :: .inl (inlF Try.f84 [.reg (.n :: []), .reg (Qu5 z0 z1 z2), .reg (Qnx z0 z1), .reg (Qu6 z0 z1 z3 z4 z5 z6 z7 z8)]) :: .n :: [])
noncomputable def Qva (z0 : (List Qd)) (z1 : Int) (z2 : List (ByteArray × Bool)) (z3 : (Bool × Int)) (z4 : (Bool × Int)) (z5 : (Bool × Int)) (z6 : ((List Int) × Int × Int)) (z7 : Int) : List Ans := (.n :: .n :: .inl (inlF Try.f84 [.reg (.n :: []), .reg (Qu5 z0 z1 z2), .reg (Qnx z0 z1), .reg (Qu7 z0 z1 z3 z4 z5 z6 z7)]) :: .n :: [])
noncomputable def Qvb (z0 : (List Qd)) (z1 : Int) (z2 : (Bool × Int)) (z3 : (Bool × Int)) (z4 : Bool) (z5 : (Bool × Int)) (z6 : ((List Int) × Int × Int)) (z7 : Int) : List Ans := (.n :: .n :: .inl (inlF Try.f84 [.reg (.n :: []), .reg (Qu8 z0 z1), .reg (Qnx z0 z1), .reg (Qu6 z0 z1 z2 z3 z4 z5 z6 z7)]) :: .n :: [])
noncomputable def Qvc (z0 : (List Qd)) (z1 : Int) (z2 : (Bool × Int)) (z3 : (Bool × Int)) (z4 : (Bool × Int)) (z5 : ((List Int) × Int × Int)) (z6 : Int) : List Ans := (.n :: .n :: .inl (inlF Try.f84 [.reg (.n :: []), .reg (Qu8 z0 z1), .reg (Qnx z0 z1), .reg (Qu7 z0 z1 z2 z3 z4 z5 z6)]) :: .n :: [])
def Qz5 (z0 : (List Qd)) : List Ans := (nN 3 (.v (VV.tr (List.map vi ((z0.getD ((0 : Int)).toNat default).Wear)) (((z0.getD ((0 : Int)).toNat default).Wear).length)) :: .n :: .n :: []))
def Qae (k : Nat) (a0 : (List Qd)) : Option Int :=
 if (0 : Int) <= 0 /\ 0 < (a0.length : Int) then (some (((a0.getD ((0 : Int)).toNat default).Wear).length : Int)) else none
theorem Yw (k : Nat) (a0 : (List Qd)) (r : Int) (h : Qae k a0 = some r) : VC Try.prog 42 [VV.tr (flatMap Qc a0) a0.length] (vi r) := by
 unfold Qae at h
 obtain ⟨h1225, h⟩ := ifn h
 have e1226 := (show Zg Try.prog 23 (((0 : Int)).toNat * 2 + 1) (flatMap Qc a0) = some (VV.tr (List.map vi ((a0.getD ((0 : Int)).toNat default).Wear)) (((a0.getD ((0 : Int)).toNat default).Wear).length)) from (Xn ag23 Qc 2 1 Q7 (by omega) a0 default h1225 (by omega)).trans rfl)
 injection h with h; subst h
 exact Qq pm pn Try.func42 (r0 := vi (((a0.getD ((0 : Int)).toNat default).Wear).length : Int)) (ans := [.reg (.n :: []), .reg (Qz5 a0)]) (fr := true) (by kernel_rfl) (an (an (ti tt) (an (ti (an h1225 (ti (an e1226 (ti (ti tt)))))) tt)) (ti tt)) (Wv.refl _)
def Zf (a0 : (List Qd)) (r1245 : (Bool × Int)) (r1249 : (Bool × Int)) (r1260 : Int) (y1 : List (ByteArray × Bool)) (x6 : Int) : VS := ⟨mkA [(1, VV.pt 4 0), (5, vi (a0.length : Int)), (6, vi x6)], [none, some ⟨true, bigX + 1, flatMap (mpE vb) y1⟩, some ⟨true, 1, [VV.mp 1]⟩, none, some ⟨true, 1, [VV.fn 84 [VV.pt 2 0, VV.tp [VV.tr (flatMap Qc a0) a0.length] 0]]⟩, some ⟨true, 1, [VV.fn 85 [VV.tp [vb r1245.1] 0, VV.tp [vi r1245.2] 0], VV.fn 85 [VV.tp [vb r1249.1] 0, VV.tp [vi r1249.2] 0], VV.fn 86 [VV.tp [vi (a0.length : Int)] 0, VV.pt 4 0]]⟩], (.node none (mkA [(0, VV.rf 5 0 3), (2, vi 0), (4, VV.fn 86 [VV.tp [vi (a0.length : Int)] 0, VV.pt 4 0]), (5, vi r1260), (6, VV.rf 5 0 3), (7, vi 3), (8, vi 2), (9, vb (decide ((2 : Int) < 3))), (10, VV.pt 5 2), (11, VV.fn 86 [VV.tp [vi (a0.length : Int)] 0, VV.pt 4 0]), (12, VV.fn 86 [VV.tp [vi (a0.length : Int)] 0, VV.pt 4 0]), (13, vi r1260), (14, vi r1260), (15, vb (!(decide (r1260 = 0)))), (17, vi 2)]) (.node none (mkA [(0, VV.tr (flatMap Qc a0) a0.length), (1, VV.tp [VV.tr (flatMap Qc a0) a0.length] 0), (2, vi 0), (3, vi 0), (4, VV.pt 2 0), (6, VV.mp 1), (7, VV.tr (flatMap Qc a0) a0.length), (8, vi (a0.length : Int)), (9, vb (decide (0 < (a0.length : Int)))), (10, VV.fn 85 [VV.tp [vb r1245.1] 0, VV.tp [vi r1245.2] 0]), (11, VV.tr (flatMap Qc a0) a0.length), (12, vi (a0.length : Int)), (13, vb (decide ((a0.length : Int) <= 12))), (14, VV.fn 85 [VV.tp [vb r1249.1] 0, VV.tp [vi r1249.2] 0]), (15, VV.tr (flatMap Qc a0) a0.length), (16, vi (a0.length : Int)), (17, VV.fn 84 [VV.pt 2 0, VV.tp [VV.tr (flatMap Qc a0) a0.length] 0]), (18, VV.fn 86 [VV.tp [vi (a0.length : Int)] 0, VV.pt 4 0]), (19, VV.rf 5 0 3)]) .nil))⟩
def Zv (a0 : (List Qd)) (r1245 : (Bool × Int)) (r1249 : (Bool × Int)) (r1260 : Int) (r : Int × (List (ByteArray × Bool))) : VS := ⟨mkA [(2, vi r.1)], [none, some ⟨true, bigX + 1, flatMap (mpE vb) r.2⟩, some ⟨true, 1, [VV.mp 1]⟩, none, some ⟨true, 1, [VV.fn 84 [VV.pt 2 0, VV.tp [VV.tr (flatMap Qc a0) a0.length] 0]]⟩, some ⟨true, 1, [VV.fn 85 [VV.tp [vb r1245.1] 0, VV.tp [vi r1245.2] 0], VV.fn 85 [VV.tp [vb r1249.1] 0, VV.tp [vi r1249.2] 0], VV.fn 86 [VV.tp [vi (a0.length : Int)] 0, VV.pt 4 0]]⟩], (.node none (mkA [(0, VV.rf 5 0 3), (2, vi 0), (4, VV.fn 86 [VV.tp [vi (a0.length : Int)] 0, VV.pt 4 0]), (5, vi r1260), (6, VV.rf 5 0 3), (7, vi 3), (8, vi 2), (9, vb (decide ((2 : Int) < 3))), (10, VV.pt 5 2), (11, VV.fn 86 [VV.tp [vi (a0.length : Int)] 0, VV.pt 4 0]), (12, VV.fn 86 [VV.tp [vi (a0.length : Int)] 0, VV.pt 4 0]), (13, vi r1260), (14, vi r1260), (15, vb (!(decide (r1260 = 0)))), (17, vi 2)]) (.node none (mkA [(0, VV.tr (flatMap Qc a0) a0.length), (1, VV.tp [VV.tr (flatMap Qc a0) a0.length] 0), (2, vi 0), (3, vi 0), (4, VV.pt 2 0), (6, VV.mp 1), (7, VV.tr (flatMap Qc a0) a0.length), (8, vi (a0.length : Int)), (9, vb (decide (0 < (a0.length : Int)))), (10, VV.fn 85 [VV.tp [vb r1245.1] 0, VV.tp [vi r1245.2] 0]), (11, VV.tr (flatMap Qc a0) a0.length), (12, vi (a0.length : Int)), (13, vb (decide ((a0.length : Int) <= 12))), (14, VV.fn 85 [VV.tp [vb r1249.1] 0, VV.tp [vi r1249.2] 0]), (15, VV.tr (flatMap Qc a0) a0.length), (16, vi (a0.length : Int)), (17, VV.fn 84 [VV.pt 2 0, VV.tp [VV.tr (flatMap Qc a0) a0.length] 0]), (18, VV.fn 86 [VV.tp [vi (a0.length : Int)] 0, VV.pt 4 0]), (19, VV.rf 5 0 3)]) .nil))⟩
def Yq (a0 : (List Qd)) (r1245 : (Bool × Int)) (r1249 : (Bool × Int)) (r1260 : Int) (r : (List (ByteArray × Bool))) : VS := ⟨mkA [], [none, some ⟨true, bigX + 1, flatMap (mpE vb) r⟩, some ⟨true, 1, [VV.mp 1]⟩, none, some ⟨true, 1, [VV.fn 84 [VV.pt 2 0, VV.tp [VV.tr (flatMap Qc a0) a0.length] 0]]⟩, some ⟨true, 1, [VV.fn 85 [VV.tp [vb r1245.1] 0, VV.tp [vi r1245.2] 0], VV.fn 85 [VV.tp [vb r1249.1] 0, VV.tp [vi r1249.2] 0], VV.fn 86 [VV.tp [vi (a0.length : Int)] 0, VV.pt 4 0]]⟩], (.node none (mkA [(0, VV.rf 5 0 3), (2, vi 0), (4, VV.fn 86 [VV.tp [vi (a0.length : Int)] 0, VV.pt 4 0]), (5, vi r1260), (6, VV.rf 5 0 3), (7, vi 3), (8, vi 2), (9, vb (decide ((2 : Int) < 3))), (10, VV.pt 5 2), (11, VV.fn 86 [VV.tp [vi (a0.length : Int)] 0, VV.pt 4 0]), (12, VV.fn 86 [VV.tp [vi (a0.length : Int)] 0, VV.pt 4 0]), (13, vi r1260), (14, vi r1260), (15, vb (!(decide (r1260 = 0)))), (17, vi 2)]) (.node none (mkA [(0, VV.tr (flatMap Qc a0) a0.length), (1, VV.tp [VV.tr (flatMap Qc a0) a0.length] 0), (2, vi 0), (3, vi 0), (4, VV.pt 2 0), (6, VV.mp 1), (7, VV.tr (flatMap Qc a0) a0.length), (8, vi (a0.length : Int)), (9, vb (decide (0 < (a0.length : Int)))), (10, VV.fn 85 [VV.tp [vb r1245.1] 0, VV.tp [vi r1245.2] 0]), (11, VV.tr (flatMap Qc a0) a0.length), (12, vi (a0.length : Int)), (13, vb (decide ((a0.length : Int) <= 12))), (14, VV.fn 85 [VV.tp [vb r1249.1] 0, VV.tp [vi r1249.2] 0]), (15, VV.tr (flatMap Qc a0) a0.length), (16, vi (a0.length : Int)), (17, VV.fn 84 [VV.pt 2 0, VV.tp [VV.tr (flatMap Qc a0) a0.length] 0]), (18, VV.fn 86 [VV.tp [vi (a0.length : Int)] 0, VV.pt 4 0]), (19, VV.rf 5 0 3)]) .nil))⟩
def Zb (k : Nat) (a0 : (List Qd)) (r1245 : (Bool × Int)) (r1249 : (Bool × Int)) (r1260 : Int) : Nat -> (List (ByteArray × Bool)) -> Int -> Option (Sum (Int × (List (ByteArray × Bool))) (List (ByteArray × Bool)))
 | 0, _, _ => none
 | fuel + 1, y1, x6 => if x6 < (a0.length : Int) then (if 0 <= x6 /\ x6 < (a0.length : Int) then (if mhas y1 ((a0.getD x6.toNat default).Name) = true then ((Y7 k ((a0.getD x6.toNat default).Name)).bind fun r1483 => ((Xd k (!(mget y1 ((a0.getD x6.toNat default).Name))) 5).bind fun r1486 => (if (0 : Int) <= 0 /\ 0 < (a0.length : Int) then (if (((a0.getD x6.toNat default).Wear).length : Int) = (((a0.getD ((0 : Int)).toNat default).Wear).length : Int) then ((Y3 k (((a0.getD x6.toNat default).Wear).length : Int) 1 40).bind fun r1493 => ((Xd k r1493 10).bind fun r1496 => ((J7 k 0 100 ((a0.getD x6.toNat default).Wear)).bind fun r1500 => ((Qi k (r1483, r1486, r1496, r1500)).bind fun r1503 => (if r1503 = 0 then (Zb k a0 r1245 r1249 r1260 fuel (mset y1 ((a0.getD x6.toNat default).Name) true) (w64 (x6 + 1))) else (some (.inl (r1503, mset y1 ((a0.getD x6.toNat default).Name) true)))))))) else ((Xd k false 10).bind fun r1509 => ((J7 k 0 100 ((a0.getD x6.toNat default).Wear)).bind fun r1513 => ((Qi k (r1483, r1486, r1509, r1513)).bind fun r1516 => (if r1516 = 0 then (Zb k a0 r1245 r1249 r1260 fuel (mset y1 ((a0.getD x6.toNat default).Name) true) (w64 (x6 + 1))) else (some (.inl (r1516, mset y1 ((a0.getD x6.toNat default).Name) true)))))))) else none))) else ((Y7 k ((a0.getD x6.toNat default).Name)).bind fun r1532 => ((Xd k (!false) 5).bind fun r1535 => (if (0 : Int) <= 0 /\ 0 < (a0.length : Int) then (if (((a0.getD x6.toNat default).Wear).length : Int) = (((a0.getD ((0 : Int)).toNat default).Wear).length : Int) then ((Y3 k (((a0.getD x6.toNat default).Wear).length : Int) 1 40).bind fun r1541 => ((Xd k r1541 10).bind fun r1544 => ((J7 k 0 100 ((a0.getD x6.toNat default).Wear)).bind fun r1548 => ((Qi k (r1532, r1535, r1544, r1548)).bind fun r1551 => (if r1551 = 0 then (Zb k a0 r1245 r1249 r1260 fuel (mset y1 ((a0.getD x6.toNat default).Name) true) (w64 (x6 + 1))) else (some (.inl (r1551, mset y1 ((a0.getD x6.toNat default).Name) true)))))))) else ((Xd k false 10).bind fun r1557 => ((J7 k 0 100 ((a0.getD x6.toNat default).Wear)).bind fun r1561 => ((Qi k (r1532, r1535, r1557, r1561)).bind fun r1564 => (if r1564 = 0 then (Zb k a0 r1245 r1249 r1260 fuel (mset y1 ((a0.getD x6.toNat default).Name) true) (w64 (x6 + 1))) else (some (.inl (r1564, mset y1 ((a0.getD x6.toNat default).Name) true)))))))) else none)))) else none) else (some (.inr y1))
theorem Qdg (k : Nat) (a0 : (List Qd)) (r1245 : (Bool × Int)) (r1249 : (Bool × Int)) (r1260 : Int) : ∀ (fuel : Nat) (y1 : List (ByteArray × Bool)) (x6 : Int) (r : Sum (Int × (List (ByteArray × Bool))) (List (ByteArray × Bool))), Zb k a0 r1245 r1249 r1260 fuel y1 x6 = some r -> (match r with | .inl r => Y0 none Try.prog (szF Try.f86) (J5 Try.f86 0) (Zf a0 r1245 r1249 r1260 y1 x6) .ret (Zv a0 r1245 r1249 r1260 r) | .inr r => Y0 none Try.prog (szF Try.f86) (J5 Try.f86 0) (Zf a0 r1245 r1249 r1260 y1 x6) (.exit 0) (Yq a0 r1245 r1249 r1260 r)) := by
 intro fuel
 induction fuel with
 | zero => intro y1 x6 r h; rw [Zb.eq_1] at h; cases h
 | succ fuel ih =>
  intro y1 x6 r h
  rw [Zb.eq_2] at h
  rcases ifs h with ⟨h1468, h⟩ | ⟨h1468, h⟩
  ·have e1469 := (show Zg Try.prog 22 0 [VV.tr (flatMap Qc a0) a0.length] = some (VV.tr (flatMap Qc a0) a0.length) from (Xb ag22 rfl))
   obtain ⟨h1470, h⟩ := ifn h
   have e1471 := (show Zg Try.prog 9 (x6.toNat * 2 + 0) (flatMap Qc a0) = some (vs ((a0.getD x6.toNat default).Name)) from (Xn ag9 Qc 2 0 Q7 (by omega) a0 default h1470 (by omega)).trans rfl)
   rcases ifs h with ⟨h1472, h⟩ | ⟨h1472, h⟩
   ·have e1473 := (show Qhb (kdV (.string ((a0.getD x6.toNat default).Name))) (flatMap (mpE vb) y1) = true /\ lkM (.string ((a0.getD x6.toNat default).Name)) (flatMap (mpE vb) y1) = some (vb (mget y1 ((a0.getD x6.toNat default).Name))) from ⟨(Qef vb ((a0.getD x6.toNat default).Name) y1), (Qny vb ((a0.getD x6.toNat default).Name) y1 h1472)⟩)
    have e1474 := (show Zg Try.prog 22 0 [VV.tr (flatMap Qc a0) a0.length] = some (VV.tr (flatMap Qc a0) a0.length) from (Xb ag22 rfl))
    have e1475 := (show Zg Try.prog 23 (x6.toNat * 2 + 1) (flatMap Qc a0) = some (VV.tr (List.map vi ((a0.getD x6.toNat default).Wear)) (((a0.getD x6.toNat default).Wear).length)) from (Xn ag23 Qc 2 1 Q7 (by omega) a0 default h1470 (by omega)).trans rfl)
    have e1476 := (ti (an e1469 (ti (an h1470 (ti (an e1471 (an e1473 (an e1474 (ti (an h1470 (ti (an e1475 (ti (ti (ti tt)))))))))))))))
    have e1477 := (show Zg Try.prog 22 0 [VV.tr (flatMap Qc a0) a0.length] = some (VV.tr (flatMap Qc a0) a0.length) from (Xb ag22 rfl))
    have e1478 := (show Zg Try.prog 9 (x6.toNat * 2 + 0) (flatMap Qc a0) = some (vs ((a0.getD x6.toNat default).Name)) from (Xn ag9 Qc 2 0 Q7 (by omega) a0 default h1470 (by omega)).trans rfl)
    have e1479 := (show Qhb (kdV (.string ((a0.getD x6.toNat default).Name))) (flatMap (mpE vb) y1) = true from (Qef vb ((a0.getD x6.toNat default).Name) y1))
    have e1480 := (ti (an e1477 (ti (an h1470 (ti (an e1478 (an e1479 tt)))))))
    have e1481 := (show Zg Try.prog 22 0 [VV.tr (flatMap Qc a0) a0.length] = some (VV.tr (flatMap Qc a0) a0.length) from (Xb ag22 rfl))
    have e1482 := (show Zg Try.prog 9 (x6.toNat * 2 + 0) (flatMap Qc a0) = some (vs ((a0.getD x6.toNat default).Name)) from (Xn ag9 Qc 2 0 Q7 (by omega) a0 default h1470 (by omega)).trans rfl)
    obtain ⟨r1483, h1484, h⟩ := bs h
    have e1485 := (Qcv k ((a0.getD x6.toNat default).Name) _ h1484)
    obtain ⟨r1486, h1487, h⟩ := bs h
    have e1488 := (Xw k (!(mget y1 ((a0.getD x6.toNat default).Name))) 5 _ h1487)
    have e1489 := (show Zg Try.prog 22 0 [VV.tr (flatMap Qc a0) a0.length] = some (VV.tr (flatMap Qc a0) a0.length) from (Xb ag22 rfl))
    obtain ⟨h1490, h⟩ := ifn h
    have e1491 := (show Zg Try.prog 23 (((0 : Int)).toNat * 2 + 1) (flatMap Qc a0) = some (VV.tr (List.map vi ((a0.getD ((0 : Int)).toNat default).Wear)) (((a0.getD ((0 : Int)).toNat default).Wear).length)) from (Xn ag23 Qc 2 1 Q7 (by omega) a0 default h1490 (by omega)).trans rfl)
    rcases ifs h with ⟨h1492, h⟩ | ⟨h1492, h⟩
    ·obtain ⟨r1493, h1494, h⟩ := bs h
     have e1495 := (an (dt h1492) (Qcp k (((a0.getD x6.toNat default).Wear).length : Int) 1 40 _ h1494))
     obtain ⟨r1496, h1497, h⟩ := bs h
     have e1498 := (show Zg Try.prog 22 0 [VV.tr (flatMap Qc a0) a0.length] = some (VV.tr (flatMap Qc a0) a0.length) from (Xb ag22 rfl))
     have e1499 := (show Zg Try.prog 23 (x6.toNat * 2 + 1) (flatMap Qc a0) = some (VV.tr (List.map vi ((a0.getD x6.toNat default).Wear)) (((a0.getD x6.toNat default).Wear).length)) from (Xn ag23 Qc 2 1 Q7 (by omega) a0 default h1470 (by omega)).trans rfl)
     obtain ⟨r1500, h1501, h⟩ := bs h
     have e1502 := (Qas k 0 100 ((a0.getD x6.toNat default).Wear) _ h1501)
     obtain ⟨r1503, h1504, h⟩ := bs h
     have e1505 := (VC.args (Zd k (r1483, r1486, r1496, r1500) _ h1504) (Qsi r1483 r1486 r1496 r1500))
     have e1506 := (an e1481 (ti (an h1470 (ti (an e1482 (an e1485 (ti (ti (an e1488 (ti (an e1489 (an h1490 (ti (an e1491 (ti (ti (ti (an (an (dt h1492) tt) (an e1495 (an (dt h1492) (an (Xw k r1493 10 _ h1497) (an e1498 (ti (an h1470 (ti (an e1499 (an e1502 (ti (an e1505 (ti tt))))))))))))))))))))))))))))))
     have e1507 := (an (an Try.func84 (an (ti tt) (an e1476 (an e1480 (an e1506 tt))))) (ti tt))
     rcases ifs h with ⟨h1508, h⟩ | ⟨h1508, h⟩
     ·have h2 := ih _ _ _ h
      obtain ⟨q, hv, hq⟩ := pkR (rd := none) (P := Try.prog) (fn := Try.f86) (k := 0) (s := (Zf a0 r1245 r1249 r1260 y1 x6)) (ans := [.reg (.n :: []), .br true, .reg (.n :: .n :: []), .reg (Qu9 a0 x6 y1 r1483 r1486 r1493 r1496 r1500 r1503), .reg (.n :: .n :: []), .br false, .reg (.n :: .n :: [])]) (c := ⟨[(1, none), (5, none), (6, none)], [none, some (flatMap (mpE vb) (mset y1 ((a0.getD x6.toNat default).Name) true)), none, none, none, none], []⟩) (e := .normal) (s1 := (Zf a0 r1245 r1249 r1260 (mset y1 ((a0.getD x6.toNat default).Name) true) (w64 (x6 + 1)))) (an (an (ti tt) (an (an (dt h1468) tt) (an (an (ti (ti tt)) (an (ti (ti (an e1507 (ti tt)))) (an (ti (ti tt)) (an (Qs (dt h1508)) tt)))) (ti (ti tt))))) (ti (an (show upM (.string ((a0.getD x6.toNat default).Name)) (vb true) (flatMap (mpE vb) y1) = flatMap (mpE vb) (mset y1 ((a0.getD x6.toNat default).Name) true) from (by exact Qh2 vb ((a0.getD x6.toNat default).Name) true y1)) tt))) (by kernel_rfl)
      cases r with
      | inl r => exact Qw pm pn hv hq h2
      | inr r =>
       exact Qw pm pn hv hq h2
     ·injection h with h; subst h
      exact Qv (c := ⟨[(2, none)], [none, some (flatMap (mpE vb) (mset y1 ((a0.getD x6.toNat default).Name) true)), none, none, none, none], []⟩) (s1 := (Zv a0 r1245 r1249 r1260 (r1503, mset y1 ((a0.getD x6.toNat default).Name) true))) pm pn (ans := [.reg (.n :: []), .br true, .reg (.n :: .n :: []), .reg (Qu9 a0 x6 y1 r1483 r1486 r1493 r1496 r1500 r1503), .reg (.n :: .n :: []), .br true, .reg (.n :: .n :: [])]) (by kernel_rfl) (by intro e; cases e) (an (an (ti tt) (an (an (dt h1468) tt) (an (ti (ti tt)) (an (ti (ti (an e1507 (ti tt)))) (an (ti (ti tt)) (an (Zj (df h1508)) (an (ti (ti tt)) tt))))))) (ti (an (show upM (.string ((a0.getD x6.toNat default).Name)) (vb true) (flatMap (mpE vb) y1) = flatMap (mpE vb) (mset y1 ((a0.getD x6.toNat default).Name) true) from (by exact Qh2 vb ((a0.getD x6.toNat default).Name) true y1)) tt)))
    ·obtain ⟨r1509, h1510, h⟩ := bs h
     have e1511 := (show Zg Try.prog 22 0 [VV.tr (flatMap Qc a0) a0.length] = some (VV.tr (flatMap Qc a0) a0.length) from (Xb ag22 rfl))
     have e1512 := (show Zg Try.prog 23 (x6.toNat * 2 + 1) (flatMap Qc a0) = some (VV.tr (List.map vi ((a0.getD x6.toNat default).Wear)) (((a0.getD x6.toNat default).Wear).length)) from (Xn ag23 Qc 2 1 Q7 (by omega) a0 default h1470 (by omega)).trans rfl)
     obtain ⟨r1513, h1514, h⟩ := bs h
     have e1515 := (Qas k 0 100 ((a0.getD x6.toNat default).Wear) _ h1514)
     obtain ⟨r1516, h1517, h⟩ := bs h
     have e1518 := (VC.args (Zd k (r1483, r1486, r1509, r1513) _ h1517) (Qsi r1483 r1486 r1509 r1513))
     have e1519 := (an e1481 (ti (an h1470 (ti (an e1482 (an e1485 (ti (ti (an e1488 (ti (an e1489 (an h1490 (ti (an e1491 (ti (ti (ti (an (df h1492) (an (df h1492) (an (df h1492) (an (Xw k false 10 _ h1510) (an e1511 (ti (an h1470 (ti (an e1512 (an e1515 (ti (an e1518 (ti tt))))))))))))))))))))))))))))))
     have e1520 := (an (an Try.func84 (an (ti tt) (an e1476 (an e1480 (an e1519 tt))))) (ti tt))
     rcases ifs h with ⟨h1521, h⟩ | ⟨h1521, h⟩
     ·have h2 := ih _ _ _ h
      obtain ⟨q, hv, hq⟩ := pkR (rd := none) (P := Try.prog) (fn := Try.f86) (k := 0) (s := (Zf a0 r1245 r1249 r1260 y1 x6)) (ans := [.reg (.n :: []), .br true, .reg (.n :: .n :: []), .reg (Qva a0 x6 y1 r1483 r1486 r1509 r1513 r1516), .reg (.n :: .n :: []), .br false, .reg (.n :: .n :: [])]) (c := ⟨[(1, none), (5, none), (6, none)], [none, some (flatMap (mpE vb) (mset y1 ((a0.getD x6.toNat default).Name) true)), none, none, none, none], []⟩) (e := .normal) (s1 := (Zf a0 r1245 r1249 r1260 (mset y1 ((a0.getD x6.toNat default).Name) true) (w64 (x6 + 1)))) (an (an (ti tt) (an (an (dt h1468) tt) (an (an (ti (ti tt)) (an (ti (ti (an e1520 (ti tt)))) (an (ti (ti tt)) (an (Qs (dt h1521)) tt)))) (ti (ti tt))))) (ti (an (show upM (.string ((a0.getD x6.toNat default).Name)) (vb true) (flatMap (mpE vb) y1) = flatMap (mpE vb) (mset y1 ((a0.getD x6.toNat default).Name) true) from (by exact Qh2 vb ((a0.getD x6.toNat default).Name) true y1)) tt))) (by kernel_rfl)
      cases r with
      | inl r => exact Qw pm pn hv hq h2
      | inr r =>
       exact Qw pm pn hv hq h2
     ·injection h with h; subst h
      exact Qv (c := ⟨[(2, none)], [none, some (flatMap (mpE vb) (mset y1 ((a0.getD x6.toNat default).Name) true)), none, none, none, none], []⟩) (s1 := (Zv a0 r1245 r1249 r1260 (r1516, mset y1 ((a0.getD x6.toNat default).Name) true))) pm pn (ans := [.reg (.n :: []), .br true, .reg (.n :: .n :: []), .reg (Qva a0 x6 y1 r1483 r1486 r1509 r1513 r1516), .reg (.n :: .n :: []), .br true, .reg (.n :: .n :: [])]) (by kernel_rfl) (by intro e; cases e) (an (an (ti tt) (an (an (dt h1468) tt) (an (ti (ti tt)) (an (ti (ti (an e1520 (ti tt)))) (an (ti (ti tt)) (an (Zj (df h1521)) (an (ti (ti tt)) tt))))))) (ti (an (show upM (.string ((a0.getD x6.toNat default).Name)) (vb true) (flatMap (mpE vb) y1) = flatMap (mpE vb) (mset y1 ((a0.getD x6.toNat default).Name) true) from (by exact Qh2 vb ((a0.getD x6.toNat default).Name) true y1)) tt)))
   ·have e1522 := (show Qhb (kdV (.string ((a0.getD x6.toNat default).Name))) (flatMap (mpE vb) y1) = true /\ lkM (.string ((a0.getD x6.toNat default).Name)) (flatMap (mpE vb) y1) = none from ⟨(Qef vb ((a0.getD x6.toNat default).Name) y1), (Qsj vb ((a0.getD x6.toNat default).Name) y1 (Zm h1472))⟩)
    have e1523 := (show Zg Try.prog 22 0 [VV.tr (flatMap Qc a0) a0.length] = some (VV.tr (flatMap Qc a0) a0.length) from (Xb ag22 rfl))
    have e1524 := (show Zg Try.prog 23 (x6.toNat * 2 + 1) (flatMap Qc a0) = some (VV.tr (List.map vi ((a0.getD x6.toNat default).Wear)) (((a0.getD x6.toNat default).Wear).length)) from (Xn ag23 Qc 2 1 Q7 (by omega) a0 default h1470 (by omega)).trans rfl)
    have e1525 := (ti (an e1469 (ti (an h1470 (ti (an e1471 (an e1522 (an e1523 (ti (an h1470 (ti (an e1524 (ti (ti (ti tt)))))))))))))))
    have e1526 := (show Zg Try.prog 22 0 [VV.tr (flatMap Qc a0) a0.length] = some (VV.tr (flatMap Qc a0) a0.length) from (Xb ag22 rfl))
    have e1527 := (show Zg Try.prog 9 (x6.toNat * 2 + 0) (flatMap Qc a0) = some (vs ((a0.getD x6.toNat default).Name)) from (Xn ag9 Qc 2 0 Q7 (by omega) a0 default h1470 (by omega)).trans rfl)
    have e1528 := (show Qhb (kdV (.string ((a0.getD x6.toNat default).Name))) (flatMap (mpE vb) y1) = true from (Qef vb ((a0.getD x6.toNat default).Name) y1))
    have e1529 := (ti (an e1526 (ti (an h1470 (ti (an e1527 (an e1528 tt)))))))
    have e1530 := (show Zg Try.prog 22 0 [VV.tr (flatMap Qc a0) a0.length] = some (VV.tr (flatMap Qc a0) a0.length) from (Xb ag22 rfl))
    have e1531 := (show Zg Try.prog 9 (x6.toNat * 2 + 0) (flatMap Qc a0) = some (vs ((a0.getD x6.toNat default).Name)) from (Xn ag9 Qc 2 0 Q7 (by omega) a0 default h1470 (by omega)).trans rfl)
    obtain ⟨r1532, h1533, h⟩ := bs h
    have e1534 := (Qcv k ((a0.getD x6.toNat default).Name) _ h1533)
    obtain ⟨r1535, h1536, h⟩ := bs h
    have e1537 := (show Zg Try.prog 22 0 [VV.tr (flatMap Qc a0) a0.length] = some (VV.tr (flatMap Qc a0) a0.length) from (Xb ag22 rfl))
    obtain ⟨h1538, h⟩ := ifn h
    have e1539 := (show Zg Try.prog 23 (((0 : Int)).toNat * 2 + 1) (flatMap Qc a0) = some (VV.tr (List.map vi ((a0.getD ((0 : Int)).toNat default).Wear)) (((a0.getD ((0 : Int)).toNat default).Wear).length)) from (Xn ag23 Qc 2 1 Q7 (by omega) a0 default h1538 (by omega)).trans rfl)
    rcases ifs h with ⟨h1540, h⟩ | ⟨h1540, h⟩
    ·obtain ⟨r1541, h1542, h⟩ := bs h
     have e1543 := (an (dt h1540) (Qcp k (((a0.getD x6.toNat default).Wear).length : Int) 1 40 _ h1542))
     obtain ⟨r1544, h1545, h⟩ := bs h
     have e1546 := (show Zg Try.prog 22 0 [VV.tr (flatMap Qc a0) a0.length] = some (VV.tr (flatMap Qc a0) a0.length) from (Xb ag22 rfl))
     have e1547 := (show Zg Try.prog 23 (x6.toNat * 2 + 1) (flatMap Qc a0) = some (VV.tr (List.map vi ((a0.getD x6.toNat default).Wear)) (((a0.getD x6.toNat default).Wear).length)) from (Xn ag23 Qc 2 1 Q7 (by omega) a0 default h1470 (by omega)).trans rfl)
     obtain ⟨r1548, h1549, h⟩ := bs h
     have e1550 := (Qas k 0 100 ((a0.getD x6.toNat default).Wear) _ h1549)
     obtain ⟨r1551, h1552, h⟩ := bs h
     have e1553 := (VC.args (Zd k (r1532, r1535, r1544, r1548) _ h1552) (Qsi r1532 r1535 r1544 r1548))
     have e1554 := (an e1530 (ti (an h1470 (ti (an e1531 (an e1534 (ti (ti (an (Xw k (!false) 5 _ h1536) (ti (an e1537 (an h1538 (ti (an e1539 (ti (ti (ti (an (an (dt h1540) tt) (an e1543 (an (dt h1540) (an (Xw k r1541 10 _ h1545) (an e1546 (ti (an h1470 (ti (an e1547 (an e1550 (ti (an e1553 (ti tt))))))))))))))))))))))))))))))
     have e1555 := (an (an Try.func84 (an (ti tt) (an e1525 (an e1529 (an e1554 tt))))) (ti tt))
     rcases ifs h with ⟨h1556, h⟩ | ⟨h1556, h⟩
     ·have h2 := ih _ _ _ h
      obtain ⟨q, hv, hq⟩ := pkR (rd := none) (P := Try.prog) (fn := Try.f86) (k := 0) (s := (Zf a0 r1245 r1249 r1260 y1 x6)) (ans := [.reg (.n :: []), .br true, .reg (.n :: .n :: []), .reg (Qvb a0 x6 r1532 r1535 r1541 r1544 r1548 r1551), .reg (.n :: .n :: []), .br false, .reg (.n :: .n :: [])]) (c := ⟨[(1, none), (5, none), (6, none)], [none, some (flatMap (mpE vb) (mset y1 ((a0.getD x6.toNat default).Name) true)), none, none, none, none], []⟩) (e := .normal) (s1 := (Zf a0 r1245 r1249 r1260 (mset y1 ((a0.getD x6.toNat default).Name) true) (w64 (x6 + 1)))) (an (an (ti tt) (an (an (dt h1468) tt) (an (an (ti (ti tt)) (an (ti (ti (an e1555 (ti tt)))) (an (ti (ti tt)) (an (Qs (dt h1556)) tt)))) (ti (ti tt))))) (ti (an (show upM (.string ((a0.getD x6.toNat default).Name)) (vb true) (flatMap (mpE vb) y1) = flatMap (mpE vb) (mset y1 ((a0.getD x6.toNat default).Name) true) from (by exact Qh2 vb ((a0.getD x6.toNat default).Name) true y1)) tt))) (by kernel_rfl)
      cases r with
      | inl r => exact Qw pm pn hv hq h2
      | inr r =>
       exact Qw pm pn hv hq h2
     ·injection h with h; subst h
      exact Qv (c := ⟨[(2, none)], [none, some (flatMap (mpE vb) (mset y1 ((a0.getD x6.toNat default).Name) true)), none, none, none, none], []⟩) (s1 := (Zv a0 r1245 r1249 r1260 (r1551, mset y1 ((a0.getD x6.toNat default).Name) true))) pm pn (ans := [.reg (.n :: []), .br true, .reg (.n :: .n :: []), .reg (Qvb a0 x6 r1532 r1535 r1541 r1544 r1548 r1551), .reg (.n :: .n :: []), .br true, .reg (.n :: .n :: [])]) (by kernel_rfl) (by intro e; cases e) (an (an (ti tt) (an (an (dt h1468) tt) (an (ti (ti tt)) (an (ti (ti (an e1555 (ti tt)))) (an (ti (ti tt)) (an (Zj (df h1556)) (an (ti (ti tt)) tt))))))) (ti (an (show upM (.string ((a0.getD x6.toNat default).Name)) (vb true) (flatMap (mpE vb) y1) = flatMap (mpE vb) (mset y1 ((a0.getD x6.toNat default).Name) true) from (by exact Qh2 vb ((a0.getD x6.toNat default).Name) true y1)) tt)))
    ·obtain ⟨r1557, h1558, h⟩ := bs h
     have e1559 := (show Zg Try.prog 22 0 [VV.tr (flatMap Qc a0) a0.length] = some (VV.tr (flatMap Qc a0) a0.length) from (Xb ag22 rfl))
     have e1560 := (show Zg Try.prog 23 (x6.toNat * 2 + 1) (flatMap Qc a0) = some (VV.tr (List.map vi ((a0.getD x6.toNat default).Wear)) (((a0.getD x6.toNat default).Wear).length)) from (Xn ag23 Qc 2 1 Q7 (by omega) a0 default h1470 (by omega)).trans rfl)
     obtain ⟨r1561, h1562, h⟩ := bs h
     have e1563 := (Qas k 0 100 ((a0.getD x6.toNat default).Wear) _ h1562)
     obtain ⟨r1564, h1565, h⟩ := bs h
     have e1566 := (VC.args (Zd k (r1532, r1535, r1557, r1561) _ h1565) (Qsi r1532 r1535 r1557 r1561))
     have e1567 := (an e1530 (ti (an h1470 (ti (an e1531 (an e1534 (ti (ti (an (Xw k (!false) 5 _ h1536) (ti (an e1537 (an h1538 (ti (an e1539 (ti (ti (ti (an (df h1540) (an (df h1540) (an (df h1540) (an (Xw k false 10 _ h1558) (an e1559 (ti (an h1470 (ti (an e1560 (an e1563 (ti (an e1566 (ti tt))))))))))))))))))))))))))))))
     have e1568 := (an (an Try.func84 (an (ti tt) (an e1525 (an e1529 (an e1567 tt))))) (ti tt))
     rcases ifs h with ⟨h1569, h⟩ | ⟨h1569, h⟩
     ·have h2 := ih _ _ _ h
      obtain ⟨q, hv, hq⟩ := pkR (rd := none) (P := Try.prog) (fn := Try.f86) (k := 0) (s := (Zf a0 r1245 r1249 r1260 y1 x6)) (ans := [.reg (.n :: []), .br true, .reg (.n :: .n :: []), .reg (Qvc a0 x6 r1532 r1535 r1557 r1561 r1564), .reg (.n :: .n :: []), .br false, .reg (.n :: .n :: [])]) (c := ⟨[(1, none), (5, none), (6, none)], [none, some (flatMap (mpE vb) (mset y1 ((a0.getD x6.toNat default).Name) true)), none, none, none, none], []⟩) (e := .normal) (s1 := (Zf a0 r1245 r1249 r1260 (mset y1 ((a0.getD x6.toNat default).Name) true) (w64 (x6 + 1)))) (an (an (ti tt) (an (an (dt h1468) tt) (an (an (ti (ti tt)) (an (ti (ti (an e1568 (ti tt)))) (an (ti (ti tt)) (an (Qs (dt h1569)) tt)))) (ti (ti tt))))) (ti (an (show upM (.string ((a0.getD x6.toNat default).Name)) (vb true) (flatMap (mpE vb) y1) = flatMap (mpE vb) (mset y1 ((a0.getD x6.toNat default).Name) true) from (by exact Qh2 vb ((a0.getD x6.toNat default).Name) true y1)) tt))) (by kernel_rfl)
      cases r with
      | inl r => exact Qw pm pn hv hq h2
      | inr r =>
       exact Qw pm pn hv hq h2
     ·injection h with h; subst h
      exact Qv (c := ⟨[(2, none)], [none, some (flatMap (mpE vb) (mset y1 ((a0.getD x6.toNat default).Name) true)), none, none, none, none], []⟩) (s1 := (Zv a0 r1245 r1249 r1260 (r1564, mset y1 ((a0.getD x6.toNat default).Name) true))) pm pn (ans := [.reg (.n :: []), .br true, .reg (.n :: .n :: []), .reg (Qvc a0 x6 r1532 r1535 r1557 r1561 r1564), .reg (.n :: .n :: []), .br true, .reg (.n :: .n :: [])]) (by kernel_rfl) (by intro e; cases e) (an (an (ti tt) (an (an (dt h1468) tt) (an (ti (ti tt)) (an (ti (ti (an e1568 (ti tt)))) (an (ti (ti tt)) (an (Zj (df h1569)) (an (ti (ti tt)) tt))))))) (ti (an (show upM (.string ((a0.getD x6.toNat default).Name)) (vb true) (flatMap (mpE vb) y1) = flatMap (mpE vb) (mset y1 ((a0.getD x6.toNat default).Name) true) from (by exact Qh2 vb ((a0.getD x6.toNat default).Name) true y1)) tt)))
  ·injection h with h; subst h
   exact Qv (c := ⟨[], [none, none, none, none, none, none], []⟩) (s1 := (Yq a0 r1245 r1249 r1260 y1)) pm pn (ans := [.reg (.n :: []), .br false]) (by kernel_rfl) (by intro e; cases e) (an (an (ti tt) (an (df h1468) tt)) (ti tt))
noncomputable def Qz6 (z0 : (List Qd)) (z1 : (Bool × Int)) (z2 : (Bool × Int)) (z3 : Int) (z4 : Int) : List Ans := (.v (VV.tr (flatMap Qc z0) z0.length) :: .n :: .n :: .call (VV.fn 85 [VV.tp [vb z1.1] 0, VV.tp [vi z1.2] 0]) :: .v (VV.tr (flatMap Qc z0) z0.length) :: .n :: .n :: .call (VV.fn 85 [VV.tp [vb z2.1] 0, VV.tp [vi z2.2] 0]) :: .v (VV.tr (flatMap Qc z0) z0.length) :: .n :: .n :: .inl (inlF Try.f68 [.reg (nN 3 []), .frz 3, .reg (.n :: .n :: [])]) :: .n :: .inl (inlF Try.f35 [.reg (.n :: []), .reg (nN 3 []), .unr 3, .reg (.n :: []), .br true, .reg (.v (VV.pt 5 0) :: .n :: .n :: []), .reg (.n :: .call (vi z3) :: .n :: []), .reg (.n :: .n :: []), .br false, .reg (.n :: .n :: []), .reg (.n :: []), .br true, .reg (.v (VV.pt 5 1) :: .n :: .n :: []), .reg (.n :: .call (vi z4) :: .n :: []), .reg (.n :: .n :: []), .br true, .reg (.n :: .n :: [])]) :: .n :: [])
noncomputable def Qz7 (z0 : (List Qd)) (z1 : (Bool × Int)) (z2 : (Bool × Int)) (z3 : Int) : List Ans := (.v (VV.tr (flatMap Qc z0) z0.length) :: .n :: .n :: .call (VV.fn 85 [VV.tp [vb z1.1] 0, VV.tp [vi z1.2] 0]) :: .v (VV.tr (flatMap Qc z0) z0.length) :: .n :: .n :: .call (VV.fn 85 [VV.tp [vb z2.1] 0, VV.tp [vi z2.2] 0]) :: .v (VV.tr (flatMap Qc z0) z0.length) :: .n :: .n :: .inl (inlF Try.f68 [.reg (nN 3 []), .frz 3, .reg (.n :: .n :: [])]) :: .n :: .inl (inlF Try.f35 [.reg (.n :: []), .reg (nN 3 []), .unr 2, .reg (.n :: []), .br true, .reg (.v (VV.pt 5 0) :: .n :: .n :: []), .reg (.n :: .call (vi z3) :: .n :: []), .reg (.n :: .n :: []), .br true, .reg (.n :: .n :: [])]) :: .n :: [])
def Qbg (k : Nat) (a0 : (List Qd)) : Option (Int × Int) :=
 (Xd k (decide (0 < (a0.length : Int))) 10).bind fun r1245 => ((Xd k (decide ((a0.length : Int) <= 12)) 8).bind fun r1249 => ((Jt k r1245.1 r1245.2).bind fun r1255 => (if r1255 = 0 then ((Jt k r1249.1 r1249.2).bind fun r1260 => (if r1260 = 0 then ((Zb k a0 r1245 r1249 r1260 k ([] : List (ByteArray × Bool)) 0).bind fun r1571 => (match r1571 with | .inl r1572 => (if r1572.1 = 0 then ((Qae k a0).bind fun r1580 => (some (r1580, 0))) else (some (0, r1572.1))) | .inr r1573 => ((Qae k a0).bind fun r1590 => (some (r1590, 0))))) else (some (0, r1260)))) else (some (0, r1255)))))
theorem Qgy (k : Nat) (a0 : (List Qd)) (r : (Int × Int)) (h : Qbg k a0 = some r) : VC Try.prog 65 [VV.tr (flatMap Qc a0) a0.length] (VV.tu [vi r.1, vi r.2]) := by
 unfold Qbg at h
 have e1244 := (show Zg Try.prog 22 0 [VV.tr (flatMap Qc a0) a0.length] = some (VV.tr (flatMap Qc a0) a0.length) from (Xb ag22 rfl))
 obtain ⟨r1245, h1246, h⟩ := bs h
 have e1247 := (Xw k (decide (0 < (a0.length : Int))) 10 _ h1246)
 have e1248 := (show Zg Try.prog 22 0 [VV.tr (flatMap Qc a0) a0.length] = some (VV.tr (flatMap Qc a0) a0.length) from (Xb ag22 rfl))
 obtain ⟨r1249, h1250, h⟩ := bs h
 have e1251 := (Xw k (decide ((a0.length : Int) <= 12)) 8 _ h1250)
 have e1252 := (show Zg Try.prog 22 0 [VV.tr (flatMap Qc a0) a0.length] = some (VV.tr (flatMap Qc a0) a0.length) from (Xb ag22 rfl))
 have e1253 := (an (an Try.func68 (an (ti (ti (ti tt))) (an (ti (ti tt)) tt))) (ti tt))
 have e1254 := (show ((0 : Int) <= 0 /\ (0 : Int) < ((3 : Nat) : Int)) /\ VV.pt 5 (0 + (0 : Int).toNat * 1) = VV.pt 5 0 from ⟨⟨by decide, by decide⟩, rfl⟩)
 obtain ⟨r1255, h1256, h⟩ := bs h
 have e1257 := (Ju k r1245.1 r1245.2 _ h1256)
 rcases ifs h with ⟨h1258, h⟩ | ⟨h1258, h⟩
 ·have e1259 := (show ((0 : Int) <= 1 /\ (1 : Int) < ((3 : Nat) : Int)) /\ VV.pt 5 (0 + (1 : Int).toNat * 1) = VV.pt 5 1 from ⟨⟨by decide, by decide⟩, rfl⟩)
  obtain ⟨r1260, h1261, h⟩ := bs h
  have e1262 := (Ju k r1249.1 r1249.2 _ h1261)
  rcases ifs h with ⟨h1263, h⟩ | ⟨h1263, h⟩
  ·have e1264 := (show ((0 : Int) <= 2 /\ (2 : Int) < ((3 : Nat) : Int)) /\ VV.pt 5 (0 + (2 : Int).toNat * 1) = VV.pt 5 2 from ⟨⟨by decide, by decide⟩, rfl⟩)
   have e1265 := (show Zg Try.prog 3 0 [vi (a0.length : Int)] = some (vi (a0.length : Int)) from (Xb ag3 rfl))
   obtain ⟨r1571, h1570, h⟩ := bs h
   have hph1570 := Qdg k a0 r1245 r1249 r1260 _ _ _ _ h1570
   cases r1571 with
   | inl r1572 =>
    dsimp only at h
    have e1574 := (an (ti (an (show [] = flatMap (mpE vb) ([] : List (ByteArray × Bool)) from rfl) tt)) (VRun.loop hph1570))
    have e1575 := (an (an Try.func86 (an (ti tt) (an (an e1265 (ti tt)) e1574))) (ti tt))
    rcases ifs h with ⟨h1576, h⟩ | ⟨h1576, h⟩
    ·have e1577 := (an (an Try.func35 (an (ti tt) (an (an (ti (ti (ti tt))) (an (an (ti tt) (an (an (show (decide ((0 : Int) < 3)) = true from (dt (by decide))) tt) (an (an (an e1254 (ti (ti tt))) (an (ti (an e1257 (ti tt))) (an (ti (ti tt)) (an (Qs (dt h1258)) tt)))) (ti (ti tt))))) (an (an (ti tt) (an (an (show (decide ((1 : Int) < 3)) = true from (dt (by decide))) tt) (an (an (an e1259 (ti (ti tt))) (an (ti (an e1262 (ti tt))) (an (ti (ti tt)) (an (Qs (dt h1263)) tt)))) (ti (ti tt))))) (an (an (ti tt) (an (an (show (decide ((2 : Int) < 3)) = true from (dt (by decide))) tt) (an (an (an e1264 (ti (ti tt))) (an (ti (an e1575 (ti tt))) (an (ti (ti tt)) (an (Qs (dt h1576)) tt)))) (ti (ti tt))))) (an (ti tt) (an (show (decide ((3 : Int) < 3)) = false from (df (by decide))) tt)))))) (an (ti tt) tt)))) (ti tt))
     have e1578 := (an e1244 (ti (ti (an e1247 (an e1248 (ti (ti (an e1251 (an e1252 (ti (ti (an e1253 (ti (an e1577 (ti tt)))))))))))))))
     have e1579 := (show Zg Try.prog 22 0 [VV.tr (flatMap Qc a0) a0.length] = some (VV.tr (flatMap Qc a0) a0.length) from (Xb ag22 rfl))
     obtain ⟨r1580, h1581, h⟩ := bs h
     have e1582 := (an e1579 (an (Yw k a0 _ h1581) (ti (ti tt))))
     injection h with h; subst h
     exact Qq pm pn Try.func65 (r0 := VV.tu [vi r1580, vi 0]) (ans := [.reg (nN 3 []), .frz 0, .reg (nN 3 []), .reg (.v (VV.tr (flatMap Qc a0) a0.length) :: .n :: .n :: .call (VV.fn 85 [VV.tp [vb r1245.1] 0, VV.tp [vi r1245.2] 0]) :: .v (VV.tr (flatMap Qc a0) a0.length) :: .n :: .n :: .call (VV.fn 85 [VV.tp [vb r1249.1] 0, VV.tp [vi r1249.2] 0]) :: .v (VV.tr (flatMap Qc a0) a0.length) :: .n :: .n :: .inl (inlF Try.f68 [.reg (nN 3 []), .frz 3, .reg (.n :: .n :: [])]) :: .n :: .inl (inlF Try.f35 [.reg (.n :: []), .reg (nN 3 []), .unr 5, .reg (.n :: []), .br true, .reg (.v (VV.pt 5 0) :: .n :: .n :: []), .reg (.n :: .call (vi r1255) :: .n :: []), .reg (.n :: .n :: []), .br false, .reg (.n :: .n :: []), .reg (.n :: []), .br true, .reg (.v (VV.pt 5 1) :: .n :: .n :: []), .reg (.n :: .call (vi r1260) :: .n :: []), .reg (.n :: .n :: []), .br false, .reg (.n :: .n :: []), .reg (.n :: []), .br true, .reg (.v (VV.pt 5 2) :: .n :: .n :: []), .reg (.n :: .inl (inlF Try.f86 [.reg (.n :: []), .reg (.v (vi (a0.length : Int)) :: .n :: []), .sub ⟨[(1, none), (5, none), (6, none)], [none, some (flatMap (mpE vb) ([] : List (ByteArray × Bool))), none, none, none, none], []⟩ .ret (Zv a0 r1245 r1249 r1260 r1572)]) :: .n :: []), .reg (.n :: .n :: []), .br false, .reg (.n :: .n :: []), .reg (.n :: []), .br false, .reg (.n :: [])]) :: .n :: []), .reg (.n :: .n :: []), .br false, .reg (.v (VV.tr (flatMap Qc a0) a0.length) :: .call (vi r1580) :: .n :: .n :: [])]) (fr := true) (by kernel_rfl) (an (an (ti (ti (ti tt))) (an (ti (ti (ti tt))) (an e1578 (an (an (ti (ti tt)) (an (show (!(decide ((0 : Int) = 0))) = false from (Qs (dt (by decide)))) tt)) (an e1582 tt))))) (ti (ti tt))) (Wv.refl _)
    ·have e1583 := (an (an Try.func35 (an (ti tt) (an (ti (ti (ti tt))) (an (an (ti tt) (an (an (show (decide ((0 : Int) < 3)) = true from (dt (by decide))) tt) (an (an (an e1254 (ti (ti tt))) (an (ti (an e1257 (ti tt))) (an (ti (ti tt)) (an (Qs (dt h1258)) tt)))) (ti (ti tt))))) (an (an (ti tt) (an (an (show (decide ((1 : Int) < 3)) = true from (dt (by decide))) tt) (an (an (an e1259 (ti (ti tt))) (an (ti (an e1262 (ti tt))) (an (ti (ti tt)) (an (Qs (dt h1263)) tt)))) (ti (ti tt))))) (an (ti tt) (an (an (show (decide ((2 : Int) < 3)) = true from (dt (by decide))) tt) (an (an e1264 (ti (ti tt))) (an (ti (an e1575 (ti tt))) (an (ti (ti tt)) (an (Zj (df h1576)) (an (ti (ti tt)) tt)))))))))))) (ti tt))
     have e1584 := (an e1244 (ti (ti (an e1247 (an e1248 (ti (ti (an e1251 (an e1252 (ti (ti (an e1253 (ti (an e1583 (ti tt)))))))))))))))
     injection h with h; subst h
     exact Qq pm pn Try.func65 (r0 := VV.tu [vi 0, vi r1572.1]) (ans := [.reg (nN 3 []), .frz 0, .reg (nN 3 []), .reg (.v (VV.tr (flatMap Qc a0) a0.length) :: .n :: .n :: .call (VV.fn 85 [VV.tp [vb r1245.1] 0, VV.tp [vi r1245.2] 0]) :: .v (VV.tr (flatMap Qc a0) a0.length) :: .n :: .n :: .call (VV.fn 85 [VV.tp [vb r1249.1] 0, VV.tp [vi r1249.2] 0]) :: .v (VV.tr (flatMap Qc a0) a0.length) :: .n :: .n :: .inl (inlF Try.f68 [.reg (nN 3 []), .frz 3, .reg (.n :: .n :: [])]) :: .n :: .inl (inlF Try.f35 [.reg (.n :: []), .reg (nN 3 []), .unr 4, .reg (.n :: []), .br true, .reg (.v (VV.pt 5 0) :: .n :: .n :: []), .reg (.n :: .call (vi r1255) :: .n :: []), .reg (.n :: .n :: []), .br false, .reg (.n :: .n :: []), .reg (.n :: []), .br true, .reg (.v (VV.pt 5 1) :: .n :: .n :: []), .reg (.n :: .call (vi r1260) :: .n :: []), .reg (.n :: .n :: []), .br false, .reg (.n :: .n :: []), .reg (.n :: []), .br true, .reg (.v (VV.pt 5 2) :: .n :: .n :: []), .reg (.n :: .inl (inlF Try.f86 [.reg (.n :: []), .reg (.v (vi (a0.length : Int)) :: .n :: []), .sub ⟨[(1, none), (5, none), (6, none)], [none, some (flatMap (mpE vb) ([] : List (ByteArray × Bool))), none, none, none, none], []⟩ .ret (Zv a0 r1245 r1249 r1260 r1572)]) :: .n :: []), .reg (.n :: .n :: []), .br true, .reg (.n :: .n :: [])]) :: .n :: []), .reg (.n :: .n :: []), .br true, .reg (nN 3 [])]) (fr := true) (by kernel_rfl) (an (an (ti (ti (ti tt))) (an (ti (ti (ti tt))) (an e1584 (an (ti (ti tt)) (an (Zj (df h1576)) (an (ti (ti (ti tt))) tt)))))) (ti (ti tt))) (Wv.refl _)
   | inr r1573 =>
    dsimp only at h
    have e1585 := (an (ti (an (show [] = flatMap (mpE vb) ([] : List (ByteArray × Bool)) from rfl) tt)) (VRun.loop hph1570))
    have e1586 := (an (an Try.func86 (an (ti tt) (an (an (an e1265 (ti tt)) e1585) (an (ti tt) tt)))) (ti tt))
    have e1587 := (an (an Try.func35 (an (ti tt) (an (an (ti (ti (ti tt))) (an (an (ti tt) (an (an (show (decide ((0 : Int) < 3)) = true from (dt (by decide))) tt) (an (an (an e1254 (ti (ti tt))) (an (ti (an e1257 (ti tt))) (an (ti (ti tt)) (an (Qs (dt h1258)) tt)))) (ti (ti tt))))) (an (an (ti tt) (an (an (show (decide ((1 : Int) < 3)) = true from (dt (by decide))) tt) (an (an (an e1259 (ti (ti tt))) (an (ti (an e1262 (ti tt))) (an (ti (ti tt)) (an (Qs (dt h1263)) tt)))) (ti (ti tt))))) (an (an (ti tt) (an (an (show (decide ((2 : Int) < 3)) = true from (dt (by decide))) tt) (an (an (an e1264 (ti (ti tt))) (an (ti (an e1586 (ti tt))) (an (ti (ti tt)) (an (show (!(decide ((0 : Int) = 0))) = false from (Qs (dt (by decide)))) tt)))) (ti (ti tt))))) (an (ti tt) (an (show (decide ((3 : Int) < 3)) = false from (df (by decide))) tt)))))) (an (ti tt) tt)))) (ti tt))
    have e1588 := (an e1244 (ti (ti (an e1247 (an e1248 (ti (ti (an e1251 (an e1252 (ti (ti (an e1253 (ti (an e1587 (ti tt)))))))))))))))
    have e1589 := (show Zg Try.prog 22 0 [VV.tr (flatMap Qc a0) a0.length] = some (VV.tr (flatMap Qc a0) a0.length) from (Xb ag22 rfl))
    obtain ⟨r1590, h1591, h⟩ := bs h
    have e1592 := (an e1589 (an (Yw k a0 _ h1591) (ti (ti tt))))
    injection h with h; subst h
    exact Qq pm pn Try.func65 (r0 := VV.tu [vi r1590, vi 0]) (ans := [.reg (nN 3 []), .frz 0, .reg (nN 3 []), .reg (.v (VV.tr (flatMap Qc a0) a0.length) :: .n :: .n :: .call (VV.fn 85 [VV.tp [vb r1245.1] 0, VV.tp [vi r1245.2] 0]) :: .v (VV.tr (flatMap Qc a0) a0.length) :: .n :: .n :: .call (VV.fn 85 [VV.tp [vb r1249.1] 0, VV.tp [vi r1249.2] 0]) :: .v (VV.tr (flatMap Qc a0) a0.length) :: .n :: .n :: .inl (inlF Try.f68 [.reg (nN 3 []), .frz 3, .reg (.n :: .n :: [])]) :: .n :: .inl (inlF Try.f35 [.reg (.n :: []), .reg (nN 3 []), .unr 5, .reg (.n :: []), .br true, .reg (.v (VV.pt 5 0) :: .n :: .n :: []), .reg (.n :: .call (vi r1255) :: .n :: []), .reg (.n :: .n :: []), .br false, .reg (.n :: .n :: []), .reg (.n :: []), .br true, .reg (.v (VV.pt 5 1) :: .n :: .n :: []), .reg (.n :: .call (vi r1260) :: .n :: []), .reg (.n :: .n :: []), .br false, .reg (.n :: .n :: []), .reg (.n :: []), .br true, .reg (.v (VV.pt 5 2) :: .n :: .n :: []), .reg (.n :: .inl (inlF Try.f86 [.reg (.n :: []), .reg (.v (vi (a0.length : Int)) :: .n :: []), .sub ⟨[(1, none), (5, none), (6, none)], [none, some (flatMap (mpE vb) ([] : List (ByteArray × Bool))), none, none, none, none], []⟩ (.exit 0) (Yq a0 r1245 r1249 r1260 r1573), .reg (.n :: [])]) :: .n :: []), .reg (.n :: .n :: []), .br false, .reg (.n :: .n :: []), .reg (.n :: []), .br false, .reg (.n :: [])]) :: .n :: []), .reg (.n :: .n :: []), .br false, .reg (.v (VV.tr (flatMap Qc a0) a0.length) :: .call (vi r1590) :: .n :: .n :: [])]) (fr := true) (by kernel_rfl) (an (an (ti (ti (ti tt))) (an (ti (ti (ti tt))) (an e1588 (an (an (ti (ti tt)) (an (show (!(decide ((0 : Int) = 0))) = false from (Qs (dt (by decide)))) tt)) (an e1592 tt))))) (ti (ti tt))) (Wv.refl _)
  ·have e1593 := (an (an Try.func35 (an (ti tt) (an (ti (ti (ti tt))) (an (an (ti tt) (an (an (show (decide ((0 : Int) < 3)) = true from (dt (by decide))) tt) (an (an (an e1254 (ti (ti tt))) (an (ti (an e1257 (ti tt))) (an (ti (ti tt)) (an (Qs (dt h1258)) tt)))) (ti (ti tt))))) (an (ti tt) (an (an (show (decide ((1 : Int) < 3)) = true from (dt (by decide))) tt) (an (an e1259 (ti (ti tt))) (an (ti (an e1262 (ti tt))) (an (ti (ti tt)) (an (Zj (df h1263)) (an (ti (ti tt)) tt))))))))))) (ti tt))
   have e1594 := (an e1244 (ti (ti (an e1247 (an e1248 (ti (ti (an e1251 (an e1252 (ti (ti (an e1253 (ti (an e1593 (ti tt)))))))))))))))
   injection h with h; subst h
   exact Qq pm pn Try.func65 (r0 := VV.tu [vi 0, vi r1260]) (ans := [.reg (nN 3 []), .frz 0, .reg (nN 3 []), .reg (Qz6 a0 r1245 r1249 r1255 r1260), .reg (.n :: .n :: []), .br true, .reg (nN 3 [])]) (fr := true) (by kernel_rfl) (an (an (ti (ti (ti tt))) (an (ti (ti (ti tt))) (an e1594 (an (ti (ti tt)) (an (Zj (df h1263)) (an (ti (ti (ti tt))) tt)))))) (ti (ti tt))) (Wv.refl _)
 ·have e1595 := (an (an Try.func35 (an (ti tt) (an (ti (ti (ti tt))) (an (ti tt) (an (an (show (decide ((0 : Int) < 3)) = true from (dt (by decide))) tt) (an (an e1254 (ti (ti tt))) (an (ti (an e1257 (ti tt))) (an (ti (ti tt)) (an (Zj (df h1258)) (an (ti (ti tt)) tt)))))))))) (ti tt))
  have e1596 := (an e1244 (ti (ti (an e1247 (an e1248 (ti (ti (an e1251 (an e1252 (ti (ti (an e1253 (ti (an e1595 (ti tt)))))))))))))))
  injection h with h; subst h
  exact Qq pm pn Try.func65 (r0 := VV.tu [vi 0, vi r1255]) (ans := [.reg (nN 3 []), .frz 0, .reg (nN 3 []), .reg (Qz7 a0 r1245 r1249 r1255), .reg (.n :: .n :: []), .br true, .reg (nN 3 [])]) (fr := true) (by kernel_rfl) (an (an (ti (ti (ti tt))) (an (ti (ti (ti tt))) (an e1596 (an (ti (ti tt)) (an (Zj (df h1258)) (an (ti (ti (ti tt))) tt)))))) (ti (ti tt))) (Wv.refl _)
def Yl (a0 : (List Qd)) (a1 : ByteArray) (x5 : Int) : VS := ⟨mkA [(0, VV.tr (flatMap Qc a0) a0.length), (1, vs a1), (5, vi x5)], [], .nil⟩
def Ws (a0 : (List Qd)) (a1 : ByteArray) (r : Int) : VS := ⟨mkA [(4, vi r)], [], .nil⟩
def Wu (a0 : (List Qd)) (a1 : ByteArray) (r : Unit) : VS := ⟨mkA [], [], .nil⟩
def Zi (k : Nat) (a0 : (List Qd)) (a1 : ByteArray) : Nat -> Int -> Option (Sum Int Unit)
 | 0, _ => none
 | fuel + 1, x5 => if x5 < (a0.length : Int) then (if 0 <= x5 /\ x5 < (a0.length : Int) then (if ((a0.getD x5.toNat default).Name) = a1 then (some (.inl x5)) else (Zi k a0 a1 fuel (w64 (x5 + 1)))) else none) else (some (.inr ()))
theorem Qd9 (k : Nat) (a0 : (List Qd)) (a1 : ByteArray) : ∀ (fuel : Nat) (x5 : Int) (r : Sum Int Unit), Zi k a0 a1 fuel x5 = some r -> (match r with | .inl r => Y0 none Try.prog (szF Try.f44) (J5 Try.f44 0) (Yl a0 a1 x5) .ret (Ws a0 a1 r) | .inr r => Y0 none Try.prog (szF Try.f44) (J5 Try.f44 0) (Yl a0 a1 x5) (.exit 0) (Wu a0 a1 r)) := by
 intro fuel
 induction fuel with
 | zero => intro x5 r h; rw [Zi.eq_1] at h; cases h
 | succ fuel ih =>
  intro x5 r h
  rw [Zi.eq_2] at h
  rcases ifs h with ⟨h1639, h⟩ | ⟨h1639, h⟩
  ·obtain ⟨h1640, h⟩ := ifn h
   have e1641 := (show Zg Try.prog 9 (x5.toNat * 2 + 0) (flatMap Qc a0) = some (vs ((a0.getD x5.toNat default).Name)) from (Xn ag9 Qc 2 0 Q7 (by omega) a0 default h1640 (by omega)).trans rfl)
   have e1642 := (ti (ti (an h1640 (ti (an e1641 (ti (ti tt)))))))
   rcases ifs h with ⟨h1643, h⟩ | ⟨h1643, h⟩
   ·injection h with h; subst h
    exact Qv (c := ⟨[(4, none)], [], []⟩) (s1 := (Ws a0 a1 x5)) pm pn (ans := [.reg (nN 4 []), .br true, .reg (nN 4 (.v (vs ((a0.getD x5.toNat default).Name)) :: .n :: .n :: [])), .br true, .reg (.n :: .n :: [])]) (by kernel_rfl) (by intro e; cases e) (an (an (an (ti (ti (ti (ti tt)))) (an (dt h1639) tt)) (an e1642 (an (dt h1643) (an (ti (ti tt)) tt)))) (ti tt))
   ·have h2 := ih _ _ h
    obtain ⟨q, hv, hq⟩ := pkR (rd := none) (P := Try.prog) (fn := Try.f44) (k := 0) (s := (Yl a0 a1 x5)) (ans := [.reg (nN 4 []), .br true, .reg (nN 4 (.v (vs ((a0.getD x5.toNat default).Name)) :: .n :: .n :: [])), .br false, .reg (nN 3 [])]) (c := ⟨[(0, none), (1, none), (5, none)], [], []⟩) (e := .normal) (s1 := (Yl a0 a1 (w64 (x5 + 1)))) (an (an (an (ti (ti (ti (ti tt)))) (an (dt h1639) tt)) (an (an e1642 (an (df h1643) tt)) (ti (ti (ti tt))))) (ti tt)) (by kernel_rfl)
    cases r with
    | inl r => exact Qw pm pn hv hq h2
    | inr r =>
     exact Qw pm pn hv hq h2
  ·injection h with h; subst h
   exact Qv (c := ⟨[], [], []⟩) (s1 := (Wu a0 a1 ())) pm pn (ans := [.reg (nN 4 []), .br false]) (by kernel_rfl) (by intro e; cases e) (an (an (ti (ti (ti (ti tt)))) (an (df h1639) tt)) (ti tt))
def Xf (k : Nat) (a0 : (List Qd)) (a1 : ByteArray) : Option Int :=
 (Zi k a0 a1 k 0).bind fun r1645 => (match r1645 with | .inl r1646 => (some r1646) | .inr r1647 => (some (-1)))
theorem Qbt (k : Nat) (a0 : (List Qd)) (a1 : ByteArray) (r : Int) (h : Xf k a0 a1 = some r) : VC Try.prog 44 [VV.tr (flatMap Qc a0) a0.length, vs a1] (vi r) := by
 unfold Xf at h
 obtain ⟨r1645, h1644, h⟩ := bs h
 have hph1644 := Qd9 k a0 a1 _ _ _ h1644
 cases r1645 with
 | inl r1646 =>
  dsimp only at h
  have e1648 := (an (ti tt) (VRun.loop hph1644))
  injection h with h; subst h
  exact Qq pm pn Try.func44 (r0 := vi r1646) (ans := [.reg (.n :: []), .reg (.n :: []), .sub ⟨[(0, none), (1, none), (5, none)], [], []⟩ .ret (Ws a0 a1 r1646)]) (fr := true) (by kernel_rfl) (an (an (ti tt) (an (ti tt) e1648)) (ti tt)) (Wv.refl _)
 | inr r1647 =>
  dsimp only at h
  have e1649 := (an (ti tt) (VRun.loop hph1644))
  injection h with h; subst h
  exact Qq pm pn Try.func44 (r0 := vi (-1)) (ans := [.reg (.n :: []), .reg (.n :: []), .sub ⟨[(0, none), (1, none), (5, none)], [], []⟩ (.exit 0) (Wu a0 a1 r1647), .reg (.n :: [])]) (fr := true) (by kernel_rfl) (an (an (ti tt) (an (an (ti tt) e1649) (an (ti tt) tt))) (ti tt)) (Wv.refl _)
def Qqu (z0 : (List Qd)) (z1 : Int) : List Ans := (nN 5 (.v (VV.tr (List.map vi ((z0.getD z1.toNat default).Wear)) (((z0.getD z1.toNat default).Wear).length)) :: .n :: .n :: []))
def Qvd (z0 : (List Qd)) (z1 : Int) (z2 : Int) (z3 : Bool) : List Ans := (nN 4 (.v (VV.tr (List.map vi ((z0.getD z1.toNat default).Wear)) (((z0.getD z1.toNat default).Wear).length)) :: .n :: .n :: .v (vi (((z0.getD z1.toNat default).Wear).getD z2.toNat 0)) :: .call (vb z3) :: .n :: []))
def Qqv (z0 : (List Qd)) (z1 : Int) (z2 : Bool) : List Ans := (nN 4 (.v (VV.tr (List.map vi ((z0.getD z1.toNat default).Wear)) (((z0.getD z1.toNat default).Wear).length)) :: nN 4 (.v (VV.tr (List.map vi ((z0.getD ((0 : Int)).toNat default).Wear)) (((z0.getD ((0 : Int)).toNat default).Wear).length)) :: nN 7 (.v (VV.tr (List.map vi ((z0.getD z1.toNat default).Wear)) (((z0.getD z1.toNat default).Wear).length)) :: .n :: .call (vb z2) :: .n :: .b false :: []))))
def Qz8 (z0 : (List Qd)) (z1 : Int) : List Ans := (nN 4 (.v (VV.tr (List.map vi ((z0.getD z1.toNat default).Wear)) (((z0.getD z1.toNat default).Wear).length)) :: nN 4 (.v (VV.tr (List.map vi ((z0.getD ((0 : Int)).toNat default).Wear)) (((z0.getD ((0 : Int)).toNat default).Wear).length)) :: nN 3 (nS 8 (.b true :: [])))))
def Jv (a0 : (List Qd)) (x4 : Int) (x5 : Int) : VS := ⟨mkA [(0, VV.tr (flatMap Qc a0) a0.length), (4, vi x4), (5, vi x5)], [], .nil⟩
def Yr (a0 : (List Qd)) (x4 : Int) (r : Unit) : VS := ⟨mkA [(2, vi 0), (3, vi 2)], [], .nil⟩
def Yt (a0 : (List Qd)) (x4 : Int) (r : Unit) : VS := ⟨mkA [(0, VV.tr (flatMap Qc a0) a0.length), (4, vi x4)], [], .nil⟩
def Zk (k : Nat) (a0 : (List Qd)) (x4 : Int) : Nat -> Int -> Option (Sum Unit Unit)
 | 0, _ => none
 | fuel + 1, x5 => if 0 <= x4 /\ x4 < (a0.length : Int) then (if x5 < (((a0.getD x4.toNat default).Wear).length : Int) then (if 0 <= x5 /\ x5 < (((a0.getD x4.toNat default).Wear).length : Int) then ((Jc k (((a0.getD x4.toNat default).Wear).getD x5.toNat 0) 0 100).bind fun r2076 => (if r2076 = true then (Zk k a0 x4 fuel (w64 (x5 + 1))) else (some (.inl ())))) else none) else (some (.inr ()))) else none
theorem Qdh (k : Nat) (a0 : (List Qd)) (x4 : Int) : ∀ (fuel : Nat) (x5 : Int) (r : Sum Unit Unit), Zk k a0 x4 fuel x5 = some r -> (match r with | .inl r => Y0 none Try.prog (szF Try.f13) (J5 Try.f13 1) (Jv a0 x4 x5) .ret (Yr a0 x4 r) | .inr r => Y0 none Try.prog (szF Try.f13) (J5 Try.f13 1) (Jv a0 x4 x5) (.exit 2) (Yt a0 x4 r)) := by
 intro fuel
 induction fuel with
 | zero => intro x5 r h; rw [Zk.eq_1] at h; cases h
 | succ fuel ih =>
  intro x5 r h
  rw [Zk.eq_2] at h
  obtain ⟨h2069, h⟩ := ifn h
  have e2070 := (show Zg Try.prog 23 (x4.toNat * 2 + 1) (flatMap Qc a0) = some (VV.tr (List.map vi ((a0.getD x4.toNat default).Wear)) (((a0.getD x4.toNat default).Wear).length)) from (Xn ag23 Qc 2 1 Q7 (by omega) a0 default h2069 (by omega)).trans rfl)
  have e2071 := (ti (ti (ti (an h2069 (ti (an e2070 (ti (ti tt))))))))
  rcases ifs h with ⟨h2072, h⟩ | ⟨h2072, h⟩
  ·have e2073 := (show Zg Try.prog 23 (x4.toNat * 2 + 1) (flatMap Qc a0) = some (VV.tr (List.map vi ((a0.getD x4.toNat default).Wear)) (((a0.getD x4.toNat default).Wear).length)) from (Xn ag23 Qc 2 1 Q7 (by omega) a0 default h2069 (by omega)).trans rfl)
   obtain ⟨h2074, h⟩ := ifn h
   have e2075 := (show Zg Try.prog 3 (x5.toNat * 1) (List.map vi ((a0.getD x4.toNat default).Wear)) = some (vi (((a0.getD x4.toNat default).Wear).getD x5.toNat 0)) from Qb4 ag3 vi ((a0.getD x4.toNat default).Wear) 0 h2074 (by omega))
   obtain ⟨r2076, h2077, h⟩ := bs h
   have e2078 := (Y4 k (((a0.getD x4.toNat default).Wear).getD x5.toNat 0) 0 100 _ h2077)
   have e2079 := (ti (ti (an h2069 (ti (an e2073 (ti (an h2074 (an e2075 (an e2078 (ti tt))))))))))
   rcases ifs h with ⟨h2080, h⟩ | ⟨h2080, h⟩
   ·have h2 := ih _ _ h
    obtain ⟨q, hv, hq⟩ := pkR (rd := none) (P := Try.prog) (fn := Try.f13) (k := 1) (s := (Jv a0 x4 x5)) (ans := [.reg (Qqu a0 x4), .br true, .reg (Qvd a0 x4 x5 r2076), .br false, .reg (nN 3 [])]) (c := ⟨[(0, none), (4, none), (5, none)], [], []⟩) (e := .normal) (s1 := (Jv a0 x4 (w64 (x5 + 1)))) (an (an (an e2071 (an (dt h2072) tt)) (an (an e2079 (an (Qs h2080) tt)) (ti (ti (ti tt))))) (ti tt)) (by kernel_rfl)
    cases r with
    | inl r => exact Qw pm pn hv hq h2
    | inr r =>
     exact Qw pm pn hv hq h2
   ·injection h with h; subst h
    exact Qv (c := ⟨[(2, none), (3, none)], [], []⟩) (s1 := (Yr a0 x4 ())) pm pn (ans := [.reg (Qqu a0 x4), .br true, .reg (Qvd a0 x4 x5 r2076), .br true, .reg (.n :: .n :: [])]) (by kernel_rfl) (by intro e; cases e) (an (an (an e2071 (an (dt h2072) tt)) (an e2079 (an (Zj (Zm h2080)) (an (ti (ti tt)) tt)))) (ti tt))
  ·injection h with h; subst h
   exact Qv (c := ⟨[(0, none), (4, none)], [], []⟩) (s1 := (Yt a0 x4 ())) pm pn (ans := [.reg (Qqu a0 x4), .br false]) (by kernel_rfl) (by intro e; cases e) (an (an e2071 (an (df h2072) tt)) (ti tt))
def Jw (a0 : (List Qd)) (x4 : Int) : VS := ⟨mkA [(0, VV.tr (flatMap Qc a0) a0.length), (4, vi x4)], [], .nil⟩
def Zw (a0 : (List Qd)) (r : Int) : VS := ⟨mkA [(2, vi 0), (3, vi r)], [], .nil⟩
def Yu (a0 : (List Qd)) (r : Unit) : VS := ⟨mkA [(0, VV.tr (flatMap Qc a0) a0.length)], [], .nil⟩
def Zl (k : Nat) (a0 : (List Qd)) : Nat -> Int -> Option (Sum Int Unit)
 | 0, _ => none
 | fuel + 1, x4 => if x4 < (a0.length : Int) then (if 0 <= x4 /\ x4 < (a0.length : Int) then ((Yh k ((a0.getD x4.toNat default).Name)).bind fun r2018 => (if r2018 = true then ((Xf k a0 ((a0.getD x4.toNat default).Name)).bind fun r2024 => (if r2024 < x4 then (some (.inl 5)) else (if (0 : Int) <= 0 /\ 0 < (a0.length : Int) then (if (((a0.getD x4.toNat default).Wear).length : Int) = (((a0.getD ((0 : Int)).toNat default).Wear).length : Int) then ((Jc k (((a0.getD x4.toNat default).Wear).length : Int) 1 40).bind fun r2039 => (if r2039 = true then ((Zk k a0 x4 k 0).bind fun r2082 => (match r2082 with | .inl r2083 => (some (.inl 2)) | .inr r2084 => (Zl k a0 fuel (w64 (x4 + 1))))) else (some (.inl 10)))) else (some (.inl 10))) else none))) else (some (.inl 4)))) else none) else (some (.inr ()))
theorem Qdi (k : Nat) (a0 : (List Qd)) : ∀ (fuel : Nat) (x4 : Int) (r : Sum Int Unit), Zl k a0 fuel x4 = some r -> (match r with | .inl r => Y0 none Try.prog (szF Try.f13) (J5 Try.f13 0) (Jw a0 x4) .ret (Zw a0 r) | .inr r => Y0 none Try.prog (szF Try.f13) (J5 Try.f13 0) (Jw a0 x4) (.exit 0) (Yu a0 r)) := by
 intro fuel
 induction fuel with
 | zero => intro x4 r h; rw [Zl.eq_1] at h; cases h
 | succ fuel ih =>
  intro x4 r h
  rw [Zl.eq_2] at h
  rcases ifs h with ⟨h2015, h⟩ | ⟨h2015, h⟩
  ·obtain ⟨h2016, h⟩ := ifn h
   have e2017 := (show Zg Try.prog 9 (x4.toNat * 2 + 0) (flatMap Qc a0) = some (vs ((a0.getD x4.toNat default).Name)) from (Xn ag9 Qc 2 0 Q7 (by omega) a0 default h2016 (by omega)).trans rfl)
   obtain ⟨r2018, h2019, h⟩ := bs h
   have e2020 := (Qcb k ((a0.getD x4.toNat default).Name) _ h2019)
   have e2021 := (ti (ti (an h2016 (ti (an e2017 (an e2020 (ti tt)))))))
   rcases ifs h with ⟨h2022, h⟩ | ⟨h2022, h⟩
   ·have e2023 := (show Zg Try.prog 9 (x4.toNat * 2 + 0) (flatMap Qc a0) = some (vs ((a0.getD x4.toNat default).Name)) from (Xn ag9 Qc 2 0 Q7 (by omega) a0 default h2016 (by omega)).trans rfl)
    obtain ⟨r2024, h2025, h⟩ := bs h
    have e2026 := (Qbt k a0 ((a0.getD x4.toNat default).Name) _ h2025)
    have e2027 := (ti (ti (ti (an h2016 (ti (an e2023 (an e2026 (ti (ti tt)))))))))
    rcases ifs h with ⟨h2028, h⟩ | ⟨h2028, h⟩
    ·injection h with h; subst h
     exact Qv (c := ⟨[(2, none), (3, none)], [], []⟩) (s1 := (Zw a0 5)) pm pn (ans := [.reg (nN 4 []), .br true, .reg (nN 4 (.v (vs ((a0.getD x4.toNat default).Name)) :: .call (vb r2018) :: .n :: [])), .br false, .reg (nN 5 (.v (vs ((a0.getD x4.toNat default).Name)) :: .call (vi r2024) :: .n :: .n :: [])), .br true, .reg (.n :: .n :: [])]) (by kernel_rfl) (by intro e; cases e) (an (an (an (ti (ti (ti (ti tt)))) (an (dt h2015) tt)) (an (an e2021 (an (Qs h2022) tt)) (an e2027 (an (dt h2028) (an (ti (ti tt)) tt))))) (ti tt))
    ·have e2029 := (show Zg Try.prog 23 (x4.toNat * 2 + 1) (flatMap Qc a0) = some (VV.tr (List.map vi ((a0.getD x4.toNat default).Wear)) (((a0.getD x4.toNat default).Wear).length)) from (Xn ag23 Qc 2 1 Q7 (by omega) a0 default h2016 (by omega)).trans rfl)
     obtain ⟨h2030, h⟩ := ifn h
     have e2031 := (show Zg Try.prog 23 (((0 : Int)).toNat * 2 + 1) (flatMap Qc a0) = some (VV.tr (List.map vi ((a0.getD ((0 : Int)).toNat default).Wear)) (((a0.getD ((0 : Int)).toNat default).Wear).length)) from (Xn ag23 Qc 2 1 Q7 (by omega) a0 default h2030 (by omega)).trans rfl)
     rcases ifs h with ⟨h2032, h⟩ | ⟨h2032, h⟩
     ·have e2033 := (an (Qs (dt h2032)) tt)
      have e2034 := (an (Qs (dt h2032)) tt)
      have e2035 := (an (Qs (dt h2032)) h2016)
      have e2036 := (an (Qs (dt h2032)) tt)
      have e2037 := (an (Qs (dt h2032)) (show Zg Try.prog 23 (x4.toNat * 2 + 1) (flatMap Qc a0) = some (VV.tr (List.map vi ((a0.getD x4.toNat default).Wear)) (((a0.getD x4.toNat default).Wear).length)) from (Xn ag23 Qc 2 1 Q7 (by omega) a0 default h2016 (by omega)).trans rfl))
      have e2038 := (an (Qs (dt h2032)) tt)
      obtain ⟨r2039, h2040, h⟩ := bs h
      have e2041 := (an (Qs (dt h2032)) (Y4 k (((a0.getD x4.toNat default).Wear).length : Int) 1 40 _ h2040))
      have e2042 := (an (Qs (dt h2032)) tt)
      have e2043 := (ti (ti (an h2016 (ti (an e2029 (ti (ti (an h2030 (ti (an e2031 (ti (ti (ti (an e2033 (an e2034 (an e2035 (an e2036 (an e2037 (an e2038 (an e2041 (an e2042 (an (Qs (dt h2032)) tt))))))))))))))))))))))
      rcases ifs h with ⟨h2044, h⟩ | ⟨h2044, h⟩
      ·obtain ⟨r2082, h2081, h⟩ := bs h
       have hph2081 := Qdh k a0 x4 _ _ _ h2081
       cases r2082 with
       | inl r2083 =>
        dsimp only at h
        have e2085 := (an (ti tt) (VRun.loop hph2081))
        injection h with h; subst h
        exact Qv (c := ⟨[(2, none), (3, none)], [], []⟩) (s1 := (Zw a0 2)) pm pn (ans := [.reg (nN 4 []), .br true, .reg (nN 4 (.v (vs ((a0.getD x4.toNat default).Name)) :: .call (vb r2018) :: .n :: [])), .br false, .reg (nN 5 (.v (vs ((a0.getD x4.toNat default).Name)) :: .call (vi r2024) :: .n :: .n :: [])), .br false, .reg (Qqv a0 x4 r2039), .br false, .reg (.n :: []), .sub ⟨[(0, none), (4, none), (5, none)], [], []⟩ .ret (Yr a0 x4 r2083)]) (by kernel_rfl) (by intro e; cases e) (an (an (an (ti (ti (ti (ti tt)))) (an (dt h2015) tt)) (an (an e2021 (an (Qs h2022) tt)) (an (an e2027 (an (df h2028) tt)) (an (an e2043 (an (Qs h2044) tt)) (an (ti tt) e2085))))) (ti tt))
       | inr r2084 =>
        dsimp only at h
        have e2086 := (an (ti tt) (VRun.loop hph2081))
        have h2 := ih _ _ h
        obtain ⟨q, hv, hq⟩ := pkR (rd := none) (P := Try.prog) (fn := Try.f13) (k := 0) (s := (Jw a0 x4)) (ans := [.reg (nN 4 []), .br true, .reg (nN 4 (.v (vs ((a0.getD x4.toNat default).Name)) :: .call (vb r2018) :: .n :: [])), .br false, .reg (nN 5 (.v (vs ((a0.getD x4.toNat default).Name)) :: .call (vi r2024) :: .n :: .n :: [])), .br false, .reg (Qqv a0 x4 r2039), .br false, .reg (.n :: []), .sub ⟨[(0, none), (4, none), (5, none)], [], []⟩ (.exit 2) (Yt a0 x4 r2084), .reg (nN 3 [])]) (c := ⟨[(0, none), (4, none)], [], []⟩) (e := .normal) (s1 := (Jw a0 (w64 (x4 + 1)))) (an (an (an (ti (ti (ti (ti tt)))) (an (dt h2015) tt)) (an (an (an e2021 (an (Qs h2022) tt)) (an (an e2027 (an (df h2028) tt)) (an (an e2043 (an (Qs h2044) tt)) (an (ti tt) e2086)))) (ti (ti (ti tt))))) (ti tt)) (by kernel_rfl)
        cases r with
        | inl r => exact Qw pm pn hv hq h2
        | inr r =>
         exact Qw pm pn hv hq h2
      ·injection h with h; subst h
       exact Qv (c := ⟨[(2, none), (3, none)], [], []⟩) (s1 := (Zw a0 10)) pm pn (ans := [.reg (nN 4 []), .br true, .reg (nN 4 (.v (vs ((a0.getD x4.toNat default).Name)) :: .call (vb r2018) :: .n :: [])), .br false, .reg (nN 5 (.v (vs ((a0.getD x4.toNat default).Name)) :: .call (vi r2024) :: .n :: .n :: [])), .br false, .reg (Qqv a0 x4 r2039), .br true, .reg (.n :: .n :: [])]) (by kernel_rfl) (by intro e; cases e) (an (an (an (ti (ti (ti (ti tt)))) (an (dt h2015) tt)) (an (an e2021 (an (Qs h2022) tt)) (an (an e2027 (an (df h2028) tt)) (an e2043 (an (Zj (Zm h2044)) (an (ti (ti tt)) tt)))))) (ti tt))
     ·have e2087 := (ti (ti (an h2016 (ti (an e2029 (ti (ti (an h2030 (ti (an e2031 (ti (ti (ti (an (Zj (df h2032)) (an (Zj (df h2032)) (an (Zj (df h2032)) (an (Zj (df h2032)) (an (Zj (df h2032)) (an (Zj (df h2032)) (an (Zj (df h2032)) (an (Zj (df h2032)) (an (Zj (df h2032)) tt))))))))))))))))))))))
      injection h with h; subst h
      exact Qv (c := ⟨[(2, none), (3, none)], [], []⟩) (s1 := (Zw a0 10)) pm pn (ans := [.reg (nN 4 []), .br true, .reg (nN 4 (.v (vs ((a0.getD x4.toNat default).Name)) :: .call (vb r2018) :: .n :: [])), .br false, .reg (nN 5 (.v (vs ((a0.getD x4.toNat default).Name)) :: .call (vi r2024) :: .n :: .n :: [])), .br false, .reg (Qz8 a0 x4), .br true, .reg (.n :: .n :: [])]) (by kernel_rfl) (by intro e; cases e) (an (an (an (ti (ti (ti (ti tt)))) (an (dt h2015) tt)) (an (an e2021 (an (Qs h2022) tt)) (an (an e2027 (an (df h2028) tt)) (an e2087 (an rt (an (ti (ti tt)) tt)))))) (ti tt))
   ·injection h with h; subst h
    exact Qv (c := ⟨[(2, none), (3, none)], [], []⟩) (s1 := (Zw a0 4)) pm pn (ans := [.reg (nN 4 []), .br true, .reg (nN 4 (.v (vs ((a0.getD x4.toNat default).Name)) :: .call (vb r2018) :: .n :: [])), .br true, .reg (.n :: .n :: [])]) (by kernel_rfl) (by intro e; cases e) (an (an (an (ti (ti (ti (ti tt)))) (an (dt h2015) tt)) (an e2021 (an (Zj (Zm h2022)) (an (ti (ti tt)) tt)))) (ti tt))
  ·injection h with h; subst h
   exact Qv (c := ⟨[(0, none)], [], []⟩) (s1 := (Yu a0 ())) pm pn (ans := [.reg (nN 4 []), .br false]) (by kernel_rfl) (by intro e; cases e) (an (an (ti (ti (ti (ti tt)))) (an (df h2015) tt)) (ti tt))
def Qz9 (z0 : (List Qd)) : List Ans := (nN 3 (.v (VV.tr (List.map vi ((z0.getD ((0 : Int)).toNat default).Wear)) (((z0.getD ((0 : Int)).toNat default).Wear).length)) :: nN 3 []))
def Yc (k : Nat) (a0 : (List Qd)) : Option (Int × Int) :=
 if (a0.length : Int) = 0 then (some (0, 10)) else (if 12 < (a0.length : Int) then (some (0, 8)) else ((Zl k a0 k 0).bind fun r2089 => (match r2089 with | .inl r2090 => (some (0, r2090)) | .inr r2091 => (if (0 : Int) <= 0 /\ 0 < (a0.length : Int) then (some ((((a0.getD ((0 : Int)).toNat default).Wear).length : Int), 0)) else none))))
theorem Qeq (k : Nat) (a0 : (List Qd)) (r : (Int × Int)) (h : Yc k a0 = some r) : VC Try.prog 13 [VV.tr (flatMap Qc a0) a0.length] (VV.tu [vi r.1, vi r.2]) := by
 unfold Yc at h
 rcases ifs h with ⟨h1868, h⟩ | ⟨h1868, h⟩
 ·injection h with h; subst h
  exact Qq pm pn Try.func13 (r0 := VV.tu [vi 0, vi 10]) (ans := [.reg (.n :: .n :: []), .reg (nN 3 []), .br true, .reg (.n :: .n :: [])]) (fr := true) (by kernel_rfl) (an (an (ti (ti tt)) (an (ti (ti (ti tt))) (an (dt h1868) (an (ti (ti tt)) tt)))) (ti (ti tt))) (Wv.refl _)
 ·rcases ifs h with ⟨h1869, h⟩ | ⟨h1869, h⟩
  ·injection h with h; subst h
   exact Qq pm pn Try.func13 (r0 := VV.tu [vi 0, vi 8]) (ans := [.reg (.n :: .n :: []), .reg (nN 3 []), .br false, .reg (nN 3 []), .br true, .reg (.n :: .n :: [])]) (fr := true) (by kernel_rfl) (an (an (ti (ti tt)) (an (an (ti (ti (ti tt))) (an (df h1868) tt)) (an (ti (ti (ti tt))) (an (dt h1869) (an (ti (ti tt)) tt))))) (ti (ti tt))) (Wv.refl _)
  ·obtain ⟨r2089, h2088, h⟩ := bs h
   have hph2088 := Qdi k a0 _ _ _ h2088
   cases r2089 with
   | inl r2090 =>
    dsimp only at h
    have e2092 := (an (ti tt) (VRun.loop hph2088))
    injection h with h; subst h
    exact Qq pm pn Try.func13 (r0 := VV.tu [vi 0, vi r2090]) (ans := [.reg (.n :: .n :: []), .reg (nN 3 []), .br false, .reg (nN 3 []), .br false, .reg (.n :: []), .sub ⟨[(0, none), (4, none)], [], []⟩ .ret (Zw a0 r2090)]) (fr := true) (by kernel_rfl) (an (an (ti (ti tt)) (an (an (ti (ti (ti tt))) (an (df h1868) tt)) (an (an (ti (ti (ti tt))) (an (df h1869) tt)) (an (ti tt) e2092)))) (ti (ti tt))) (Wv.refl _)
   | inr r2091 =>
    dsimp only at h
    have e2093 := (an (ti tt) (VRun.loop hph2088))
    obtain ⟨h2094, h⟩ := ifn h
    have e2095 := (show Zg Try.prog 23 (((0 : Int)).toNat * 2 + 1) (flatMap Qc a0) = some (VV.tr (List.map vi ((a0.getD ((0 : Int)).toNat default).Wear)) (((a0.getD ((0 : Int)).toNat default).Wear).length)) from (Xn ag23 Qc 2 1 Q7 (by omega) a0 default h2094 (by omega)).trans rfl)
    have e2096 := (ti (an h2094 (ti (an e2095 (ti (ti (ti tt)))))))
    injection h with h; subst h
    exact Qq pm pn Try.func13 (r0 := VV.tu [vi (((a0.getD ((0 : Int)).toNat default).Wear).length : Int), vi 0]) (ans := [.reg (.n :: .n :: []), .reg (nN 3 []), .br false, .reg (nN 3 []), .br false, .reg (.n :: []), .sub ⟨[(0, none), (4, none)], [], []⟩ (.exit 0) (Yu a0 r2091), .reg (Qz9 a0)]) (fr := true) (by kernel_rfl) (an (an (ti (ti tt)) (an (an (ti (ti (ti tt))) (an (df h1868) tt)) (an (an (ti (ti (ti tt))) (an (df h1869) tt)) (an (an (ti tt) e2093) (an e2096 tt))))) (ti (ti tt))) (Wv.refl _)
end Go.Proofs.Ytiekbdbedonnoaa.Vg

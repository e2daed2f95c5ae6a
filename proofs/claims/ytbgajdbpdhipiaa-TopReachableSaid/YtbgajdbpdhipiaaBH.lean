import Derived.Test.YtbgajdbpdhipiaaBG
namespace Go.Proofs.Ytbgajdbpdhipiaa.Vg
set_option maxRecDepth 100000
set_option maxHeartbeats 4000000
set_option linter.unusedVariables false
set_option linter.unusedSimpArgs false
open Go Go.Proofs.Ytbgajdbpdhipiaa.Ev Go.Proofs.Ytbgajdbpdhipiaa.Vv
open List (flatMap length_cons length_nil length_map length_append map_cons map_nil length_replicate)
def Qvr (k : Nat) : Option Bool := some true
theorem Qag (k : Nat) (r : Bool) (h : Qvr k = some r) : VC Try.prog 5 [] (vb r) := by
 injection h with h; subst h
 exact Qy5
theorem Q3d (z0 : Qad) (z1 : Int) (z2 : (List Int)) : [VV.ag (Zf z0.Mount), VV.tr (flatMap Qb z0.Targets) z0.Targets.length, VV.ag (Qtv (⟨z0.At.e0, z0.At.e1, z1⟩ : A47)), VV.tr (List.map vi z2) z2.length] = [VV.ag (Zf z0.Mount), VV.tr (flatMap Qb z0.Targets) z0.Targets.length, VV.ag [vi z0.At.e0, vi z0.At.e1, vi z1], VV.tr (List.map vi z2) z2.length] := by first | rfl | (simp only [Qn, map_cons, map_nil, un_i, Ji, length_map, length_cons, length_nil, X0, Z9, Qi2]; done) | (simp only [Qn, map_cons, map_nil, un_i, Ji, length_map, length_cons, length_nil, X0, Z9, Qi2]; rfl) | (simp only [Qn, map_cons, map_nil, un_i, Ji, length_map, length_cons, length_nil, X0, Z9, Qi2, Zf, Qb, length_cons, length_nil, length_append]; done)
def Jd (z0 : Qad) (z1 : Int) (z2 : ((List Int) × Int)) : List Ans := (nN 6 (.v (VV.ag (Qb (z0.Targets.getD z1.toNat default))) :: nN 3 (.call (VV.tu [VV.fr (List.map vi z2.1) z2.1.length, vi z2.2]) :: nN 5 [])))
def Je (z0 : Qad) (z1 : Int) (z2 : (A26 × Int)) : List Ans := (nN 6 (.v (VV.ag (Qb (z0.Targets.getD z1.toNat default))) :: nN 3 (.call (VV.tu [VV.ag (Qdy z2.1), vi z2.2]) :: nN 6 [])))
def Qwy (z0 : (Zv × Int × Int)) (z1 : Int) (z2 : Bool) : List Ans := (nN 5 (.b false :: nN 6 (.v (vi (z0.1.Turns.getD z1.toNat 0)) :: .call (vb z2) :: .n :: .b false :: nN 7 (.b false :: .n :: nS 6 (.b true :: [])))))
def Qab (z0 : (Zv × Int × Int)) (z1 : Int) (z2 : Bool) : List Ans := (nN 5 (.b false :: nN 6 (.v (vi (z0.1.Turns.getD z1.toNat 0)) :: .call (vb z2) :: .n :: .b false :: nN 7 (.b false :: nN 7 (.b false :: [])))))
def Qwz (z0 : ((List Int) × Int × Int)) (z1 : Int) (z2 : Int) : List Ans := (nN 3 (.v (vi (z0.1.getD z1.toNat 0)) :: nN 5 (.call (vi z2) :: nN 3 (nS 11 (.b true :: .n :: nS 18 (.b true :: []))))))
def Qw0 (z0 : ((List Int) × Int × Int)) (z1 : Int) (z2 : Int) (z3 : Qad) : List Ans := (nN 3 (.v (vi (z0.1.getD z1.toNat 0)) :: nN 5 (.call (vi z2) :: nN 6 (.v (vi (z0.1.getD z1.toNat 0)) :: nN 5 (.v (vi ((z3.Targets.getD z1.toNat default).From)) :: .n :: .b false :: .n :: nS 18 (.b true :: []))))))
def Qiv (z0 : ((List Int) × Int × Int)) (z1 : Int) (z2 : Int) (z3 : Qad) : List Ans := (nN 3 (.v (vi (z0.1.getD z1.toNat 0)) :: nN 5 (.call (vi z2) :: nN 6 (.v (vi (z0.1.getD z1.toNat 0)) :: nN 5 (.v (vi ((z3.Targets.getD z1.toNat default).From)) :: .n :: .b false :: nN 4 (.v (vi (z0.1.getD z1.toNat 0)) :: nN 5 (.v (vi ((z3.Targets.getD z1.toNat default).Dwell)) :: nN 6 (.v (vi ((z3.Targets.getD z1.toNat default).To)) :: .n :: .b false :: []))))))))
def Qmz (z0 : ((List Int) × Int × Int)) (z1 : Int) (z2 : Int) (z3 : Qad) : List Ans := (nN 3 (.v (vi (z0.1.getD z1.toNat 0)) :: nN 5 (.call (vi z2) :: nN 6 (.v (vi ((z3.Targets.getD z1.toNat default).From)) :: .n :: .n :: []))))
def Qw1 (z0 : ((List Int) × Int × Int)) (z1 : Int) (z2 : Qad) : List Ans := (nN 3 (.v (vi (z0.1.getD z1.toNat 0)) :: nN 5 (.v (vi ((z2.Targets.getD z1.toNat default).Dwell)) :: .n :: .n :: [])))
def Qw2 (z0 : (Zv × Int × Int)) (z1 : Int) (z2 : Bool) : List Ans := (nN 5 (.b false :: nN 6 (.v (vi (z0.1.Turns.getD z1.toNat 0)) :: .call (vb z2) :: .n :: .b false :: .n :: nS 6 (.b true :: .n :: nS 6 (.b true :: [])))))
def Qre  : List Ans := (nN 5 (.b false :: .n :: nS 8 (.b true :: .n :: nS 6 (.b true :: .n :: nS 6 (.b true :: [])))))
def Qrf  : List Ans := (nN 3 (.skip :: .skip :: .b true :: .n :: nS 8 (.b true :: .n :: nS 6 (.b true :: .n :: nS 6 (.b true :: [])))))
def Z4 (a0 : Qad) (r4617 : (Zv × Int × Int)) (r4636 : ((List Int) × Int × Int)) (x13 : Int) (x14 : Int) (x15 : Int) : VS := ⟨mkA [(2, VV.pt 0 0), (7, VV.pt 1 0), (10, VV.fr (List.map vi r4636.1) r4636.1.length), (12, vi r4636.2.2), (13, vi x13), (14, vi x14), (15, vi x15)], [some ⟨true, 1, Qdo a0⟩, some ⟨true, 1, Qav r4617.1⟩], .nil⟩
def Qk (a0 : Qad) (r4617 : (Zv × Int × Int)) (r4636 : ((List Int) × Int × Int)) (r : Unit) : VS := ⟨mkA [(4, vb false)], [], .nil⟩
def Jm (a0 : Qad) (r4617 : (Zv × Int × Int)) (r4636 : ((List Int) × Int × Int)) (r : Unit) : VS := ⟨mkA [], [], .nil⟩
def Q8 (k : Nat) (a0 : Qad) (r4617 : (Zv × Int × Int)) (r4636 : ((List Int) × Int × Int)) : Nat -> Int -> Int -> Int -> Option (Sum Unit Unit)
 | 0, _, _, _ => none
 | fuel + 1, x13, x14, x15 => if x15 < (a0.Targets.length : Int) then (if 0 <= x15 /\ x15 < (a0.Targets.length : Int) then ((Qbf k a0.Mount (a0.Targets.getD x15.toNat default) a0.At.e0).bind fun r4814 => ((Wi k a0.Mount (a0.Targets.getD x15.toNat default) a0.At.e0).bind fun r4820 => (if r4814.2 = 0 then (if r4820.2 = 0 then (if 0 <= x15 /\ x15 < (r4617.1.Turns.length : Int) then ((Jy k r4814.1 (r4617.1.Turns.getD x15.toNat 0)).bind fun r4835 => (if r4835 = true then (if r4820.1.e1 < a0.Mount.Low then (some (.inl ())) else (if a0.Mount.High < r4820.1.e1 then (some (.inl ())) else ((Qc0 k x13 (w64 (r4820.1.e0 + (w64 ((r4617.1.Turns.getD x15.toNat 0) * 1296000))))).bind fun r4849 => (if r4849.2.2 = 0 then (if (w64 (r4820.1.e0 + (w64 ((r4617.1.Turns.getD x15.toNat 0) * 1296000)))) < a0.Mount.Least then (some (.inl ())) else (if a0.Mount.Most < (w64 (r4820.1.e0 + (w64 ((r4617.1.Turns.getD x15.toNat 0) * 1296000)))) then (some (.inl ())) else (if r4636.2.2 = 0 then (if 0 <= x15 /\ x15 < (r4636.1.length : Int) then ((Qee k r4849.1 a0.Mount.Speed).bind fun r4866 => (if (r4636.1.getD x15.toNat 0) < (w64 (x14 + r4866)) then (some (.inl ())) else (if (r4636.1.getD x15.toNat 0) < ((a0.Targets.getD x15.toNat default).From) then (some (.inl ())) else (if ((a0.Targets.getD x15.toNat default).To) < (w64 ((r4636.1.getD x15.toNat 0) + ((a0.Targets.getD x15.toNat default).Dwell))) then (some (.inl ())) else (if (r4636.1.getD x15.toNat 0) = (maxI (w64 (x14 + r4866)) ((a0.Targets.getD x15.toNat default).From)) then (Q8 k a0 r4617 r4636 fuel (w64 (r4820.1.e0 + (w64 ((r4617.1.Turns.getD x15.toNat 0) * 1296000)))) (w64 ((r4636.1.getD x15.toNat 0) + ((a0.Targets.getD x15.toNat default).Dwell))) (w64 (x15 + 1))) else (some (.inl ()))))))) else none) else (Q8 k a0 r4617 r4636 fuel (w64 (r4820.1.e0 + (w64 ((r4617.1.Turns.getD x15.toNat 0) * 1296000)))) x14 (w64 (x15 + 1)))))) else (some (.inl ())))))) else (some (.inl ())))) else none) else (some (.inl ()))) else (some (.inl ()))))) else none) else (some (.inr ()))
theorem Qcn (k : Nat) (a0 : Qad) (r4617 : (Zv × Int × Int)) (r4636 : ((List Int) × Int × Int)) : ∀ (fuel : Nat) (x13 : Int) (x14 : Int) (x15 : Int) (r : Sum Unit Unit), Q8 k a0 r4617 r4636 fuel x13 x14 x15 = some r -> (match r with | .inl r => J9 none Try.prog (szF Try.f4) (X9 Try.f4 0) (Z4 a0 r4617 r4636 x13 x14 x15) .ret (Qk a0 r4617 r4636 r) | .inr r => J9 none Try.prog (szF Try.f4) (X9 Try.f4 0) (Z4 a0 r4617 r4636 x13 x14 x15) (.exit 0) (Jm a0 r4617 r4636 r)) := by
 intro fuel
 induction fuel with
 | zero => intro x13 x14 x15 r h; rw [Q8.eq_1] at h; cases h
 | succ fuel ih =>
  intro x13 x14 x15 r h
  rw [Q8.eq_2] at h
  rcases ifs h with ⟨h4810, h⟩ | ⟨h4810, h⟩
  ·obtain ⟨h4811, h⟩ := ifn h
   have e4812 := (show Ze Try.prog 51 (x15.toNat * 6) (flatMap Qb a0.Targets) = some (VV.ag (Qb (a0.Targets.getD x15.toNat default))) from Qbb ag51 Qb 6 sz51 Qs a0.Targets default h4811 (by omega))
   have e4813 := (show (0:Int) <= 0 /\ (0:Int) < ((2 : Nat) : Int) from ⟨by decide, by decide⟩)
   obtain ⟨r4814, h4815, h⟩ := bs h
   have e4816 := (Qef k a0.Mount (a0.Targets.getD x15.toNat default) a0.At.e0 _ h4815)
   have e4817 := (t5 (an h4811 (an e4812 (ti (an e4813 (ti (an e4816 (t5 tt))))))))
   obtain ⟨r4820, h4821, h⟩ := bs h
   have e4822 := (Qcf k a0.Mount (a0.Targets.getD x15.toNat default) a0.At.e0 _ h4821)
   have e4823 := (t5 (an h4811 (an e4812 (ti (an e4813 (ti (an e4822 (t6 tt))))))))
   rcases ifs h with ⟨h4824, h⟩ | ⟨h4824, h⟩
   ·have e4825 := (ta h4824)
    rcases ifs h with ⟨h4827, h⟩ | ⟨h4827, h⟩
    ·have e4828 := (ta h4827)
     obtain ⟨h4832, h⟩ := ifn h
     have e4833 := (an (tc h4827) h4832)
     have e4834 := (an (tc h4827) (show Ze Try.prog 3 (x15.toNat * 1) (List.map vi r4617.1.Turns) = some (vi (r4617.1.Turns.getD x15.toNat 0)) from Xj ag3 vi r4617.1.Turns 0 h4832 (by omega)))
     obtain ⟨r4835, h4836, h⟩ := bs h
     have e4837 := (an (tc h4827) (Qbv k r4814.1 (r4617.1.Turns.getD x15.toNat 0) _ h4836))
     rcases ifs h with ⟨h4839, h⟩ | ⟨h4839, h⟩
     ·have e4840 := (an (Qi h4839) (show (0:Int) <= 1 /\ (1:Int) < ((2 : Nat) : Int) from ⟨by decide, by decide⟩))
      rcases ifs h with ⟨h4841, h⟩ | ⟨h4841, h⟩
      ·have e4842 := (t3 (u2 e4825 (an (tc h4824) (ti (u4 e4828 (an e4833 (an e4834 (an e4837 (an e4828 (an (tc h4827) (ti (an e4840 (u5 (an (Qi h4839) tt) (an (Qi h4839) (ti (u6 (dt h4841) (te h4841)))))))))))))))))
       injection h with h; subst h
       exact Qj (c := ⟨[(4, none)], [], []⟩) (s1 := (Qk a0 r4617 r4636 ())) pm pn (ans := [.reg (nN 5 []), .br true, .reg (Jd a0 x15 r4814), .reg (Je a0 x15 r4820), .reg (Qwy r4617 x15 r4835), .br true, .reg (.n :: [])]) (by kernel_rfl) (by intro e; cases e) (an (an (an (t5 tt) (te h4810)) (an e4817 (an e4823 (an e4842 (an rt (an (ti tt) tt)))))) (ti tt))
      ·have e4843 := (an (df h4841) (show (0:Int) <= 1 /\ (1:Int) < ((2 : Nat) : Int) from ⟨by decide, by decide⟩))
       have e4844 := (t3 (u2 e4825 (an (tc h4824) (ti (u4 e4828 (an e4833 (an e4834 (an e4837 (an e4828 (an (tc h4827) (ti (an e4840 (u5 (an (Qi h4839) tt) (an (Qi h4839) (ti (an e4843 (u5 (tf h4841) (tf h4841))))))))))))))))))
       rcases ifs h with ⟨h4845, h⟩ | ⟨h4845, h⟩
       ·injection h with h; subst h
        exact Qj (c := ⟨[(4, none)], [], []⟩) (s1 := (Qk a0 r4617 r4636 ())) pm pn (ans := [.reg (nN 5 []), .br true, .reg (Jd a0 x15 r4814), .reg (Je a0 x15 r4820), .reg (Qab r4617 x15 r4835), .br true, .reg (.n :: [])]) (by kernel_rfl) (by intro e; cases e) (an (an (an (t5 tt) (te h4810)) (an e4817 (an e4823 (an e4844 (an (dt h4845) (an (ti tt) tt)))))) (ti tt))
       ·have e4847 := (show Ze Try.prog 3 (x15.toNat * 1) (List.map vi r4617.1.Turns) = some (vi (r4617.1.Turns.getD x15.toNat 0)) from Xj ag3 vi r4617.1.Turns 0 h4832 (by omega))
        have e4848 := (an e4813 (t4 (an h4832 (an e4847 (t3 tt)))))
        obtain ⟨r4849, h4850, h⟩ := bs h
        have e4851 := (Qf3 k x13 (w64 (r4820.1.e0 + (w64 ((r4617.1.Turns.getD x15.toNat 0) * 1296000)))) _ h4850)
        have e4852 := (t2 (an e4851 (t7 tt)))
        rcases ifs h with ⟨h4853, h⟩ | ⟨h4853, h⟩
        ·have e4854 := (ta h4853)
         rcases ifs h with ⟨h4859, h⟩ | ⟨h4859, h⟩
         ·have e4860 := (t3 (u5 e4854 (an (tc h4853) (ti (u5 (dt h4859) (te h4859))))))
          injection h with h; subst h
          exact Qj (c := ⟨[(4, none)], [], []⟩) (s1 := (Qk a0 r4617 r4636 ())) pm pn (ans := [.reg (nN 5 []), .br true, .reg (Jd a0 x15 r4814), .reg (Je a0 x15 r4820), .reg (Qab r4617 x15 r4835), .br false, .reg (nN 6 (.v (vi (r4617.1.Turns.getD x15.toNat 0)) :: nN 3 [])), .reg (.n :: .n :: .call (VV.tu [vi r4849.1, vb r4849.2.1, vi r4849.2.2]) :: nN 7 []), .reg (nN 8 (.b false :: .n :: nS 5 (.b true :: []))), .br true, .reg (.n :: [])]) (by kernel_rfl) (by intro e; cases e) (an (an (an (t5 tt) (te h4810)) (an e4817 (an e4823 (an (an e4844 (tf h4845)) (an e4848 (an e4852 (an e4860 (an rt (an (ti tt) tt))))))))) (ti tt))
         ·have e4861 := (t3 (u5 e4854 (an (tc h4853) (ti (u5 (tf h4859) (tf h4859))))))
          rcases ifs h with ⟨h4862, h⟩ | ⟨h4862, h⟩
          ·injection h with h; subst h
           exact Qj (c := ⟨[(4, none)], [], []⟩) (s1 := (Qk a0 r4617 r4636 ())) pm pn (ans := [.reg (nN 5 []), .br true, .reg (Jd a0 x15 r4814), .reg (Je a0 x15 r4820), .reg (Qab r4617 x15 r4835), .br false, .reg (nN 6 (.v (vi (r4617.1.Turns.getD x15.toNat 0)) :: nN 3 [])), .reg (.n :: .n :: .call (VV.tu [vi r4849.1, vb r4849.2.1, vi r4849.2.2]) :: nN 7 []), .reg (nN 8 (.b false :: nN 6 (.b false :: []))), .br true, .reg (.n :: [])]) (by kernel_rfl) (by intro e; cases e) (an (an (an (t5 tt) (te h4810)) (an e4817 (an e4823 (an (an e4844 (tf h4845)) (an e4848 (an e4852 (an e4861 (an (dt h4862) (an (ti tt) tt))))))))) (ti tt))
          ·rcases ifs h with ⟨h4863, h⟩ | ⟨h4863, h⟩
           ·obtain ⟨h4864, h⟩ := ifn h
            have e4865 := (show Ze Try.prog 3 (x15.toNat * 1) (List.map vi r4636.1) = some (vi (r4636.1.getD x15.toNat 0)) from Xj ag3 vi r4636.1 0 h4864 (by omega))
            obtain ⟨r4866, h4867, h⟩ := bs h
            have e4868 := (Jg k r4849.1 a0.Mount.Speed _ h4867)
            rcases ifs h with ⟨h4869, h⟩ | ⟨h4869, h⟩
            ·have e4870 := (t2 (an h4864 (an e4865 (t5 (an e4868 (t3 (u9 (dt h4869) (u3 (dt h4869) (ti (an rt (an rt (an rt (an rt (an rt (an rt (an rt (an rt (an rt (an rt (an rt (an rt (an rt (an rt (an rt (an rt (an rt (an rt (an rt tt))))))))))))))))))))))))))))
             injection h with h; subst h
             exact Qj (c := ⟨[(4, none)], [], []⟩) (s1 := (Qk a0 r4617 r4636 ())) pm pn (ans := [.reg (nN 5 []), .br true, .reg (Jd a0 x15 r4814), .reg (Je a0 x15 r4820), .reg (Qab r4617 x15 r4835), .br false, .reg (nN 6 (.v (vi (r4617.1.Turns.getD x15.toNat 0)) :: nN 3 [])), .reg (.n :: .n :: .call (VV.tu [vi r4849.1, vb r4849.2.1, vi r4849.2.2]) :: nN 7 []), .reg (nN 8 (.b false :: nN 6 (.b false :: []))), .br false, .reg (.n :: .n :: []), .reg (.n :: .n :: []), .br false, .reg (Qwz r4636 x15 r4866), .br true, .reg (.n :: [])]) (by kernel_rfl) (by intro e; cases e) (an (an (an (t5 tt) (te h4810)) (an e4817 (an e4823 (an (an e4844 (tf h4845)) (an e4848 (an e4852 (an (an e4861 (tf h4862)) (an (t2 tt) (an (an (t2 tt) (ta h4863)) (an e4870 (an rt (an (ti tt) tt)))))))))))) (ti tt))
            ·have e4871 := (an (df h4869) (show Ze Try.prog 3 (x15.toNat * 1) (List.map vi r4636.1) = some (vi (r4636.1.getD x15.toNat 0)) from Xj ag3 vi r4636.1 0 h4864 (by omega)))
             have e4872 := (an (df h4869) (show Ze Try.prog 3 (x15.toNat * 6 + 3) (flatMap Qb a0.Targets) = some (vi ((a0.Targets.getD x15.toNat default).From)) from (Ya ag3 Qb 6 3 Qs (by omega) a0.Targets default h4811 (by omega)).trans rfl))
             rcases ifs h with ⟨h4873, h⟩ | ⟨h4873, h⟩
             ·have e4874 := (t2 (an h4864 (an e4865 (t5 (an e4868 (t3 (u2 (tf h4869) (an (an (df h4869) h4864) (an e4871 (u3 (tf h4869) (an (an (df h4869) h4811) (an (tf h4869) (an e4872 (an (tf h4869) (an (df h4869) (ti (u9 (dt h4873) (u9 (dt h4873) (te h4873)))))))))))))))))))
              injection h with h; subst h
              exact Qj (c := ⟨[(4, none)], [], []⟩) (s1 := (Qk a0 r4617 r4636 ())) pm pn (ans := [.reg (nN 5 []), .br true, .reg (Jd a0 x15 r4814), .reg (Je a0 x15 r4820), .reg (Qab r4617 x15 r4835), .br false, .reg (nN 6 (.v (vi (r4617.1.Turns.getD x15.toNat 0)) :: nN 3 [])), .reg (.n :: .n :: .call (VV.tu [vi r4849.1, vb r4849.2.1, vi r4849.2.2]) :: nN 7 []), .reg (nN 8 (.b false :: nN 6 (.b false :: []))), .br false, .reg (.n :: .n :: []), .reg (.n :: .n :: []), .br false, .reg (Qw0 r4636 x15 r4866 a0), .br true, .reg (.n :: [])]) (by kernel_rfl) (by intro e; cases e) (an (an (an (t5 tt) (te h4810)) (an e4817 (an e4823 (an (an e4844 (tf h4845)) (an e4848 (an e4852 (an (an e4861 (tf h4862)) (an (t2 tt) (an (an (t2 tt) (ta h4863)) (an e4874 (an rt (an (ti tt) tt)))))))))))) (ti tt))
             ·have e4875 := (an (df h4873) (show Ze Try.prog 3 (x15.toNat * 1) (List.map vi r4636.1) = some (vi (r4636.1.getD x15.toNat 0)) from Xj ag3 vi r4636.1 0 h4864 (by omega)))
              have e4876 := (an (df h4873) (show Ze Try.prog 3 (x15.toNat * 6 + 5) (flatMap Qb a0.Targets) = some (vi ((a0.Targets.getD x15.toNat default).Dwell)) from (Ya ag3 Qb 6 5 Qs (by omega) a0.Targets default h4811 (by omega)).trans rfl))
              have e4877 := (an (df h4873) (show Ze Try.prog 3 (x15.toNat * 6 + 4) (flatMap Qb a0.Targets) = some (vi ((a0.Targets.getD x15.toNat default).To)) from (Ya ag3 Qb 6 4 Qs (by omega) a0.Targets default h4811 (by omega)).trans rfl))
              have e4878 := (t2 (an h4864 (an e4865 (t5 (an e4868 (t3 (u2 (tf h4869) (an (an (df h4869) h4864) (an e4871 (u3 (tf h4869) (an (an (df h4869) h4811) (an (tf h4869) (an e4872 (an (tf h4869) (an (df h4869) (ti (u2 (tf h4873) (an (an (df h4873) h4864) (an e4875 (u3 (tf h4873) (an (an (df h4873) h4811) (an (tf h4873) (an e4876 (u4 (tf h4873) (an (an (df h4873) h4811) (an (tf h4873) (an e4877 (an (tf h4873) (tf h4873)))))))))))))))))))))))))))))
              rcases ifs h with ⟨h4879, h⟩ | ⟨h4879, h⟩
              ·injection h with h; subst h
               exact Qj (c := ⟨[(4, none)], [], []⟩) (s1 := (Qk a0 r4617 r4636 ())) pm pn (ans := [.reg (nN 5 []), .br true, .reg (Jd a0 x15 r4814), .reg (Je a0 x15 r4820), .reg (Qab r4617 x15 r4835), .br false, .reg (nN 6 (.v (vi (r4617.1.Turns.getD x15.toNat 0)) :: nN 3 [])), .reg (.n :: .n :: .call (VV.tu [vi r4849.1, vb r4849.2.1, vi r4849.2.2]) :: nN 7 []), .reg (nN 8 (.b false :: nN 6 (.b false :: []))), .br false, .reg (.n :: .n :: []), .reg (.n :: .n :: []), .br false, .reg (Qiv r4636 x15 r4866 a0), .br true, .reg (.n :: [])]) (by kernel_rfl) (by intro e; cases e) (an (an (an (t5 tt) (te h4810)) (an e4817 (an e4823 (an (an e4844 (tf h4845)) (an e4848 (an e4852 (an (an e4861 (tf h4862)) (an (t2 tt) (an (an (t2 tt) (ta h4863)) (an e4878 (an (dt h4879) (an (ti tt) tt)))))))))))) (ti tt))
              ·have e4883 := (show Ze Try.prog 3 (x15.toNat * 6 + 3) (flatMap Qb a0.Targets) = some (vi ((a0.Targets.getD x15.toNat default).From)) from (Ya ag3 Qb 6 3 Qs (by omega) a0.Targets default h4811 (by omega)).trans rfl)
               have e4884 := (t2 (an h4864 (an e4865 (t5 (an e4868 (t4 (an h4811 (ti (an e4883 (t2 tt))))))))))
               rcases ifs h with ⟨h4885, h⟩ | ⟨h4885, h⟩
               ·have e4887 := (show Ze Try.prog 3 (x15.toNat * 6 + 5) (flatMap Qb a0.Targets) = some (vi ((a0.Targets.getD x15.toNat default).Dwell)) from (Ya ag3 Qb 6 5 Qs (by omega) a0.Targets default h4811 (by omega)).trans rfl)
                have e4888 := (t2 (an h4864 (an e4865 (t3 (an h4811 (ti (an e4887 (t2 tt))))))))
                have h2 := ih _ _ _ _ h
                obtain ⟨q, hv, hq⟩ := pkR (rd := none) (P := Try.prog) (fn := Try.f4) (k := 0) (s := (Z4 a0 r4617 r4636 x13 x14 x15)) (ans := [.reg (nN 5 []), .br true, .reg (Jd a0 x15 r4814), .reg (Je a0 x15 r4820), .reg (Qab r4617 x15 r4835), .br false, .reg (nN 6 (.v (vi (r4617.1.Turns.getD x15.toNat 0)) :: nN 3 [])), .reg (.n :: .n :: .call (VV.tu [vi r4849.1, vb r4849.2.1, vi r4849.2.2]) :: nN 7 []), .reg (nN 8 (.b false :: nN 6 (.b false :: []))), .br false, .reg (.n :: .n :: []), .reg (.n :: .n :: []), .br false, .reg (Qiv r4636 x15 r4866 a0), .br false, .reg (Qmz r4636 x15 r4866 a0), .br false, .reg (Qw1 r4636 x15 a0), .reg (nN 3 [])]) (c := ⟨[(2, none), (7, none), (10, none), (12, none), (13, none), (14, none), (15, none)], [none, none], []⟩) (e := .normal) (s1 := (Z4 a0 r4617 r4636 (w64 (r4820.1.e0 + (w64 ((r4617.1.Turns.getD x15.toNat 0) * 1296000)))) (w64 ((r4636.1.getD x15.toNat 0) + ((a0.Targets.getD x15.toNat default).Dwell))) (w64 (x15 + 1)))) (an (an (an (t5 tt) (te h4810)) (an (an e4817 (an e4823 (an (an e4844 (tf h4845)) (an e4848 (an e4852 (an (an e4861 (tf h4862)) (an (t2 tt) (an (an (t2 tt) (ta h4863)) (an (an e4878 (tf h4879)) (an (an e4884 (ta h4885)) e4888)))))))))) (t3 tt))) (ti tt)) (by kernel_rfl)
                cases r with
                | inl r => exact Qv pm pn hv hq h2
                | inr r =>
                 exact Qv pm pn hv hq h2
               ·injection h with h; subst h
                exact Qj (c := ⟨[(4, none)], [], []⟩) (s1 := (Qk a0 r4617 r4636 ())) pm pn (ans := [.reg (nN 5 []), .br true, .reg (Jd a0 x15 r4814), .reg (Je a0 x15 r4820), .reg (Qab r4617 x15 r4835), .br false, .reg (nN 6 (.v (vi (r4617.1.Turns.getD x15.toNat 0)) :: nN 3 [])), .reg (.n :: .n :: .call (VV.tu [vi r4849.1, vb r4849.2.1, vi r4849.2.2]) :: nN 7 []), .reg (nN 8 (.b false :: nN 6 (.b false :: []))), .br false, .reg (.n :: .n :: []), .reg (.n :: .n :: []), .br false, .reg (Qiv r4636 x15 r4866 a0), .br false, .reg (Qmz r4636 x15 r4866 a0), .br true, .reg (.n :: [])]) (by kernel_rfl) (by intro e; cases e) (an (an (an (t5 tt) (te h4810)) (an e4817 (an e4823 (an (an e4844 (tf h4845)) (an e4848 (an e4852 (an (an e4861 (tf h4862)) (an (t2 tt) (an (an (t2 tt) (ta h4863)) (an (an e4878 (tf h4879)) (an e4884 (an (td h4885) (an (ti tt) tt))))))))))))) (ti tt))
           ·have h2 := ih _ _ _ _ h
            obtain ⟨q, hv, hq⟩ := pkR (rd := none) (P := Try.prog) (fn := Try.f4) (k := 0) (s := (Z4 a0 r4617 r4636 x13 x14 x15)) (ans := [.reg (nN 5 []), .br true, .reg (Jd a0 x15 r4814), .reg (Je a0 x15 r4820), .reg (Qab r4617 x15 r4835), .br false, .reg (nN 6 (.v (vi (r4617.1.Turns.getD x15.toNat 0)) :: nN 3 [])), .reg (.n :: .n :: .call (VV.tu [vi r4849.1, vb r4849.2.1, vi r4849.2.2]) :: nN 7 []), .reg (nN 8 (.b false :: nN 6 (.b false :: []))), .br false, .reg (.n :: .n :: []), .reg (.n :: .n :: []), .br true, .reg (nN 3 [])]) (c := ⟨[(2, none), (7, none), (10, none), (12, none), (13, none), (14, none), (15, none)], [none, none], []⟩) (e := .normal) (s1 := (Z4 a0 r4617 r4636 (w64 (r4820.1.e0 + (w64 ((r4617.1.Turns.getD x15.toNat 0) * 1296000)))) x14 (w64 (x15 + 1)))) (an (an (an (t5 tt) (te h4810)) (an (an e4817 (an e4823 (an (an e4844 (tf h4845)) (an e4848 (an e4852 (an (an e4861 (tf h4862)) (u2 (t2 tt) (tb h4863)))))))) (t3 tt))) (ti tt)) (by kernel_rfl)
            cases r with
            | inl r => exact Qv pm pn hv hq h2
            | inr r =>
             exact Qv pm pn hv hq h2
        ·have e4889 := (t3 (u6 (td h4853) (ti (an rt (an rt (an rt (an rt (an rt (an rt tt)))))))))
         injection h with h; subst h
         exact Qj (c := ⟨[(4, none)], [], []⟩) (s1 := (Qk a0 r4617 r4636 ())) pm pn (ans := [.reg (nN 5 []), .br true, .reg (Jd a0 x15 r4814), .reg (Je a0 x15 r4820), .reg (Qab r4617 x15 r4835), .br false, .reg (nN 6 (.v (vi (r4617.1.Turns.getD x15.toNat 0)) :: nN 3 [])), .reg (.n :: .n :: .call (VV.tu [vi r4849.1, vb r4849.2.1, vi r4849.2.2]) :: nN 7 []), .reg (nN 3 (nS 5 (.b true :: .n :: nS 5 (.b true :: [])))), .br true, .reg (.n :: [])]) (by kernel_rfl) (by intro e; cases e) (an (an (an (t5 tt) (te h4810)) (an e4817 (an e4823 (an (an e4844 (tf h4845)) (an e4848 (an e4852 (an e4889 (an rt (an (ti tt) tt))))))))) (ti tt))
     ·have e4890 := (t3 (u2 e4825 (an (tc h4824) (ti (u4 e4828 (an e4833 (an e4834 (an e4837 (an e4828 (an (tc h4827) (ti (u7 (Qq (Qy h4839)) (ti (an rt (an rt (an rt (an rt (an rt (an rt (an rt tt))))))))))))))))))))
      injection h with h; subst h
      exact Qj (c := ⟨[(4, none)], [], []⟩) (s1 := (Qk a0 r4617 r4636 ())) pm pn (ans := [.reg (nN 5 []), .br true, .reg (Jd a0 x15 r4814), .reg (Je a0 x15 r4820), .reg (Qw2 r4617 x15 r4835), .br true, .reg (.n :: [])]) (by kernel_rfl) (by intro e; cases e) (an (an (an (t5 tt) (te h4810)) (an e4817 (an e4823 (an e4890 (an rt (an (ti tt) tt)))))) (ti tt))
    ·have e4891 := (t3 (u2 e4825 (an (tc h4824) (ti (u9 (td h4827) (ti (an rt (an rt (an rt (an rt (an rt (an rt (an rt (ti (an rt (an rt (an rt (an rt (an rt (an rt (an rt tt)))))))))))))))))))))
     injection h with h; subst h
     exact Qj (c := ⟨[(4, none)], [], []⟩) (s1 := (Qk a0 r4617 r4636 ())) pm pn (ans := [.reg (nN 5 []), .br true, .reg (Jd a0 x15 r4814), .reg (Je a0 x15 r4820), .reg Qre, .br true, .reg (.n :: [])]) (by kernel_rfl) (by intro e; cases e) (an (an (an (t5 tt) (te h4810)) (an e4817 (an e4823 (an e4891 (an rt (an (ti tt) tt)))))) (ti tt))
   ·have e4892 := (t3 (u3 (td h4824) (ti (an rt (an rt (an rt (an rt (an rt (an rt (an rt (an rt (an rt (ti (an rt (an rt (an rt (an rt (an rt (an rt (an rt (ti (an rt (an rt (an rt (an rt (an rt (an rt (an rt tt))))))))))))))))))))))))))))
    injection h with h; subst h
    exact Qj (c := ⟨[(4, none)], [], []⟩) (s1 := (Qk a0 r4617 r4636 ())) pm pn (ans := [.reg (nN 5 []), .br true, .reg (Jd a0 x15 r4814), .reg (Je a0 x15 r4820), .reg Qrf, .br true, .reg (.n :: [])]) (by kernel_rfl) (by intro e; cases e) (an (an (an (t5 tt) (te h4810)) (an e4817 (an e4823 (an e4892 (an rt (an (ti tt) tt)))))) (ti tt))
  ·injection h with h; subst h
   exact Qj (c := ⟨[], [], []⟩) (s1 := (Jm a0 r4617 r4636 ())) pm pn (ans := [.reg (nN 5 []), .br false]) (by kernel_rfl) (by intro e; cases e) (an (an (t5 tt) (tf h4810)) (ti tt))
def Qfa (z0 : (Zv × Int × Int)) : List Ans := (nN 6 (.call (VV.tu [VV.ag (Qav z0.1), vi z0.2.1, vi z0.2.2]) :: nN 8 []))
def Qg4 (z0 : (List Int)) (z1 : ((List Int) × Int × Int)) : List Ans := (nN 14 (.call (VV.fr (List.map vi z0) z0.length) :: .call (VV.tu [VV.fr (List.map vi z1.1) z1.1.length, vi z1.2.1, vi z1.2.2]) :: nN 7 []))
def Qrg  : List Ans := (nN 3 (.skip :: .skip :: .b false :: .n :: .skip :: .skip :: .b false :: nN 10 (.b true :: .b false :: [])))
def Qw3  : List Ans := (nN 5 (.b true :: .n :: .skip :: .skip :: .b false :: nN 4 (nS 6 (.b false :: .b false :: []))))
def J7 (k : Nat) (a0 : Qad) (a1 : Int) : Option Bool :=
 (Qvr k).bind fun r4604 => (if r4604 = true then ((Yq k a0).bind fun r4607 => (if r4607 = true then (if 5 < (a0.Targets.length : Int) then (some true) else ((Qa5 k a0.Mount a0.Targets a0.At).bind fun r4612 => (if r4612.2 = 0 then ((Qbr k a0.Mount a0.Targets a0.At).bind fun r4617 => (if r4617.2.2 = 0 then (if (r4617.1.Turns.length : Int) = (a0.Targets.length : Int) then ((Ju k r4617.1.Turns).bind fun r4633 => ((Qcb k a0.Mount a0.Targets (⟨a0.At.e0, a0.At.e1, a1⟩ : A47) r4633).bind fun r4636 => (if r4636.2.2 = 0 then (if (r4636.1.length : Int) = (a0.Targets.length : Int) then ((Q8 k a0 r4617 r4636 k a0.At.e1 a1 0).bind fun r4894 => (match r4894 with | .inl r4895 => (some false) | .inr r4896 => (some true))) else (some false)) else (if r4636.2.2 = 18 then ((Q8 k a0 r4617 r4636 k a0.At.e1 a1 0).bind fun r5154 => (match r5154 with | .inl r5155 => (some false) | .inr r5156 => (some true))) else (if r4636.2.2 = 2 then ((Q8 k a0 r4617 r4636 k a0.At.e1 a1 0).bind fun r5418 => (match r5418 with | .inl r5419 => (some false) | .inr r5420 => (some true))) else (some false)))))) else (some false)) else (some false))) else (some true)))) else (some true))) else (some false))
theorem Qd6 (k : Nat) (a0 : Qad) (a1 : Int) (r : Bool) (h : J7 k a0 a1 = some r) : VC Try.prog 4 [VV.ag (Qdo a0), vi a1] (vb r) := by
 unfold J7 at h
 obtain ⟨r4604, h4605, h⟩ := bs h
 rcases ifs h with ⟨h4606, h⟩ | ⟨h4606, h⟩
 ·obtain ⟨r4607, h4608, h⟩ := bs h
  rcases ifs h with ⟨h4609, h⟩ | ⟨h4609, h⟩
  ·have e4610 := (ti (an (Qcm k a0 _ h4608) (t2 (u4 (an (Qi h4609) tt) (an (Qi h4609) tt)))))
   rcases ifs h with ⟨h4611, h⟩ | ⟨h4611, h⟩
   ·injection h with h; subst h
    exact Qo pm pn Try.func4 (r0 := vb true) (ans := [.reg (.n :: .n :: []), .reg (.call (vb r4604) :: .n :: []), .br false, .reg (.n :: .call (vb r4607) :: nN 6 (.b false :: [])), .br true, .reg (.n :: [])]) (fr := true) (by kernel_rfl) (an (an (t2 tt) (an (an (an (Qag k _ h4605) (ti tt)) (an (Qi h4606) tt)) (an e4610 (an (dt h4611) (an (ti tt) tt))))) (ti tt)) (Wv.refl _)
   ·obtain ⟨r4612, h4613, h⟩ := bs h
    have e4614 := (Qhv k a0.Mount a0.Targets a0.At _ h4613)
    have e4615 := (t6 (an e4614 (t5 tt)))
    rcases ifs h with ⟨h4616, h⟩ | ⟨h4616, h⟩
    ·obtain ⟨r4617, h4618, h⟩ := bs h
     have e4619 := (Qj2 k a0.Mount a0.Targets a0.At _ h4618)
     have e4620 := (t6 (an e4619 (t8 tt)))
     rcases ifs h with ⟨h4621, h⟩ | ⟨h4621, h⟩
     ·have e4622 := (ta h4621)
      have e4629 := (t3 (u7 e4622 (ta h4621)))
      rcases ifs h with ⟨h4630, h⟩ | ⟨h4630, h⟩
      ·have e4631 := (show (0:Int) <= 0 /\ (0:Int) < ((2 : Nat) : Int) from ⟨by decide, by decide⟩)
       have e4632 := (show (0:Int) <= 1 /\ (1:Int) < ((2 : Nat) : Int) from ⟨by decide, by decide⟩)
       obtain ⟨r4633, h4634, h⟩ := bs h
       have e4635 := (show VC Try.prog 8 [VV.tr (List.map vi r4617.1.Turns) r4617.1.Turns.length] (VV.fr (List.map vi r4633) r4633.length) from (VC.weak (Qe5 k r4617.1.Turns _ h4634) (Wv.fw rfl rfl)))
       obtain ⟨r4636, h4637, h⟩ := bs h
       have e4638 := (VC.args (VC.weak (Qkl k a0.Mount a0.Targets (⟨a0.At.e0, a0.At.e1, a1⟩ : A47) r4633 _ h4637) (Wv.tuL (.cons (Wv.fw rfl rfl) (.cons (Wv.refl _) (.cons (Wv.refl _) .nil))))) (Q3d a0 a1 r4633))
       have e4639 := (t5 (an e4631 (t2 (an e4632 (t5 (an e4635 (an e4638 (t7 tt))))))))
       rcases ifs h with ⟨h4640, h⟩ | ⟨h4640, h⟩
       ·have e4641 := (t3 (u3 (tc h4640) (ti (an rf (an rf (an rf (ti (u3 (an rf tt) (u6 (te h4640) (an (an rf (dt h4640)) (an rf tt)))))))))))
        rcases ifs h with ⟨h4642, h⟩ | ⟨h4642, h⟩
        ·obtain ⟨r4894, h4893, h⟩ := bs h
         have hph4893 := Qcn k a0 r4617 r4636 _ _ _ _ _ h4893
         cases r4894 with
         | inl r4895 =>
          dsimp only at h
          have e4897 := (an (ti tt) (VRun.loop hph4893))
          injection h with h; subst h
          exact Qo pm pn Try.func4 (r0 := vb false) (ans := [.reg (.n :: .n :: []), .reg (.call (vb r4604) :: .n :: []), .br false, .reg (.n :: .call (vb r4607) :: nN 6 (.b false :: [])), .br false, .reg (nN 6 (.call (VV.tu [vi r4612.1, vi r4612.2]) :: nN 5 [])), .reg (.n :: .n :: []), .br false, .reg (Qfa r4617), .reg (nN 10 (.b false :: [])), .br false, .reg (Qg4 r4633 r4636), .reg Qrg, .br false, .reg (nN 6 []), .reg (.n :: []), .sub ⟨[(2, none), (7, none), (10, none), (12, none), (13, none), (14, none), (15, none)], [none, none], []⟩ .ret (Qk a0 r4617 r4636 r4895)]) (fr := true) (by kernel_rfl) (an (an (t2 tt) (an (an (an (Qag k _ h4605) (ti tt)) (an (Qi h4606) tt)) (an (an e4610 (tf h4611)) (an (an e4615 (an (t2 tt) (ta h4616))) (an e4620 (an (an e4629 (ta h4630)) (an e4639 (an (an e4641 (ta h4642)) (an (ti (an e4632 (t4 tt))) (an (ti tt) e4897)))))))))) (ti tt)) (Wv.refl _)
         | inr r4896 =>
          dsimp only at h
          have e4898 := (an (ti tt) (VRun.loop hph4893))
          injection h with h; subst h
          exact Qo pm pn Try.func4 (r0 := vb true) (ans := [.reg (.n :: .n :: []), .reg (.call (vb r4604) :: .n :: []), .br false, .reg (.n :: .call (vb r4607) :: nN 6 (.b false :: [])), .br false, .reg (nN 6 (.call (VV.tu [vi r4612.1, vi r4612.2]) :: nN 5 [])), .reg (.n :: .n :: []), .br false, .reg (Qfa r4617), .reg (nN 10 (.b false :: [])), .br false, .reg (Qg4 r4633 r4636), .reg Qrg, .br false, .reg (nN 6 []), .reg (.n :: []), .sub ⟨[(2, none), (7, none), (10, none), (12, none), (13, none), (14, none), (15, none)], [none, none], []⟩ (.exit 0) (Jm a0 r4617 r4636 r4896), .reg (.n :: [])]) (fr := true) (by kernel_rfl) (an (an (t2 tt) (an (an (an (Qag k _ h4605) (ti tt)) (an (Qi h4606) tt)) (an (an e4610 (tf h4611)) (an (an e4615 (an (t2 tt) (ta h4616))) (an e4620 (an (an e4629 (ta h4630)) (an e4639 (an (an e4641 (ta h4642)) (an (ti (an e4632 (t4 tt))) (an (an (ti tt) e4898) (an (ti tt) tt))))))))))) (ti tt)) (Wv.refl _)
        ·injection h with h; subst h
         exact Qo pm pn Try.func4 (r0 := vb false) (ans := [.reg (.n :: .n :: []), .reg (.call (vb r4604) :: .n :: []), .br false, .reg (.n :: .call (vb r4607) :: nN 6 (.b false :: [])), .br false, .reg (nN 6 (.call (VV.tu [vi r4612.1, vi r4612.2]) :: nN 5 [])), .reg (.n :: .n :: []), .br false, .reg (Qfa r4617), .reg (nN 10 (.b false :: [])), .br false, .reg (Qg4 r4633 r4636), .reg Qrg, .br true, .reg (.n :: [])]) (fr := true) (by kernel_rfl) (an (an (t2 tt) (an (an (an (Qag k _ h4605) (ti tt)) (an (Qi h4606) tt)) (an (an e4610 (tf h4611)) (an (an e4615 (an (t2 tt) (ta h4616))) (an e4620 (an (an e4629 (ta h4630)) (an e4639 (an e4641 (an (td h4642) (an (ti tt) tt)))))))))) (ti tt)) (Wv.refl _)
       ·have e4899 := (tb h4640)
        rcases ifs h with ⟨h4901, h⟩ | ⟨h4901, h⟩
        ·have e4902 := (t3 (u2 e4899 (an (td h4640) (ti (u3 (tc h4901) (ti (u3 (an rf tt) (u6 (df h4640) (an (an rf (df h4640)) (an rf tt))))))))))
         obtain ⟨r5154, h5153, h⟩ := bs h
         have hph5153 := Qcn k a0 r4617 r4636 _ _ _ _ _ h5153
         cases r5154 with
         | inl r5155 =>
          dsimp only at h
          have e5157 := (an (ti tt) (VRun.loop hph5153))
          injection h with h; subst h
          exact Qo pm pn Try.func4 (r0 := vb false) (ans := [.reg (.n :: .n :: []), .reg (.call (vb r4604) :: .n :: []), .br false, .reg (.n :: .call (vb r4607) :: nN 6 (.b false :: [])), .br false, .reg (nN 6 (.call (VV.tu [vi r4612.1, vi r4612.2]) :: nN 5 [])), .reg (.n :: .n :: []), .br false, .reg (Qfa r4617), .reg (nN 10 (.b false :: [])), .br false, .reg (Qg4 r4633 r4636), .reg Qw3, .br false, .reg (nN 6 []), .reg (.n :: []), .sub ⟨[(2, none), (7, none), (10, none), (12, none), (13, none), (14, none), (15, none)], [none, none], []⟩ .ret (Qk a0 r4617 r4636 r5155)]) (fr := true) (by kernel_rfl) (an (an (t2 tt) (an (an (an (Qag k _ h4605) (ti tt)) (an (Qi h4606) tt)) (an (an e4610 (tf h4611)) (an (an e4615 (an (t2 tt) (ta h4616))) (an e4620 (an (an e4629 (ta h4630)) (an e4639 (an (an e4902 (an rf tt)) (an (ti (an e4632 (t4 tt))) (an (ti tt) e5157)))))))))) (ti tt)) (Wv.refl _)
         | inr r5156 =>
          dsimp only at h
          have e5158 := (an (ti tt) (VRun.loop hph5153))
          injection h with h; subst h
          exact Qo pm pn Try.func4 (r0 := vb true) (ans := [.reg (.n :: .n :: []), .reg (.call (vb r4604) :: .n :: []), .br false, .reg (.n :: .call (vb r4607) :: nN 6 (.b false :: [])), .br false, .reg (nN 6 (.call (VV.tu [vi r4612.1, vi r4612.2]) :: nN 5 [])), .reg (.n :: .n :: []), .br false, .reg (Qfa r4617), .reg (nN 10 (.b false :: [])), .br false, .reg (Qg4 r4633 r4636), .reg Qw3, .br false, .reg (nN 6 []), .reg (.n :: []), .sub ⟨[(2, none), (7, none), (10, none), (12, none), (13, none), (14, none), (15, none)], [none, none], []⟩ (.exit 0) (Jm a0 r4617 r4636 r5156), .reg (.n :: [])]) (fr := true) (by kernel_rfl) (an (an (t2 tt) (an (an (an (Qag k _ h4605) (ti tt)) (an (Qi h4606) tt)) (an (an e4610 (tf h4611)) (an (an e4615 (an (t2 tt) (ta h4616))) (an e4620 (an (an e4629 (ta h4630)) (an e4639 (an (an e4902 (an rf tt)) (an (ti (an e4632 (t4 tt))) (an (an (ti tt) e5158) (an (ti tt) tt))))))))))) (ti tt)) (Wv.refl _)
        ·have e5159 := (tb h4901)
         rcases ifs h with ⟨h5161, h⟩ | ⟨h5161, h⟩
         ·have e5162 := (ta h5161)
          have e5165 := (an (tc h5161) (df h4640))
          have e5166 := (t3 (u2 e4899 (an (td h4640) (ti (u2 e5159 (an (td h4901) (ti (u3 e5162 (u6 (df h4640) (an e5165 (ta h5161)))))))))))
          obtain ⟨r5418, h5417, h⟩ := bs h
          have hph5417 := Qcn k a0 r4617 r4636 _ _ _ _ _ h5417
          cases r5418 with
          | inl r5419 =>
           dsimp only at h
           have e5421 := (an (ti tt) (VRun.loop hph5417))
           injection h with h; subst h
           exact Qo pm pn Try.func4 (r0 := vb false) (ans := [.reg (.n :: .n :: []), .reg (.call (vb r4604) :: .n :: []), .br false, .reg (.n :: .call (vb r4607) :: nN 6 (.b false :: [])), .br false, .reg (nN 6 (.call (VV.tu [vi r4612.1, vi r4612.2]) :: nN 5 [])), .reg (.n :: .n :: []), .br false, .reg (Qfa r4617), .reg (nN 10 (.b false :: [])), .br false, .reg (Qg4 r4633 r4636), .reg (nN 5 (.b true :: nN 3 (.b true :: nN 4 (nS 6 (.b false :: .b false :: []))))), .br false, .reg (nN 6 []), .reg (.n :: []), .sub ⟨[(2, none), (7, none), (10, none), (12, none), (13, none), (14, none), (15, none)], [none, none], []⟩ .ret (Qk a0 r4617 r4636 r5419)]) (fr := true) (by kernel_rfl) (an (an (t2 tt) (an (an (an (Qag k _ h4605) (ti tt)) (an (Qi h4606) tt)) (an (an e4610 (tf h4611)) (an (an e4615 (an (t2 tt) (ta h4616))) (an e4620 (an (an e4629 (ta h4630)) (an e4639 (an (an e5166 (an rf tt)) (an (ti (an e4632 (t4 tt))) (an (ti tt) e5421)))))))))) (ti tt)) (Wv.refl _)
          | inr r5420 =>
           dsimp only at h
           have e5422 := (an (ti tt) (VRun.loop hph5417))
           injection h with h; subst h
           exact Qo pm pn Try.func4 (r0 := vb true) (ans := [.reg (.n :: .n :: []), .reg (.call (vb r4604) :: .n :: []), .br false, .reg (.n :: .call (vb r4607) :: nN 6 (.b false :: [])), .br false, .reg (nN 6 (.call (VV.tu [vi r4612.1, vi r4612.2]) :: nN 5 [])), .reg (.n :: .n :: []), .br false, .reg (Qfa r4617), .reg (nN 10 (.b false :: [])), .br false, .reg (Qg4 r4633 r4636), .reg (nN 5 (.b true :: nN 3 (.b true :: nN 4 (nS 6 (.b false :: .b false :: []))))), .br false, .reg (nN 6 []), .reg (.n :: []), .sub ⟨[(2, none), (7, none), (10, none), (12, none), (13, none), (14, none), (15, none)], [none, none], []⟩ (.exit 0) (Jm a0 r4617 r4636 r5420), .reg (.n :: [])]) (fr := true) (by kernel_rfl) (an (an (t2 tt) (an (an (an (Qag k _ h4605) (ti tt)) (an (Qi h4606) tt)) (an (an e4610 (tf h4611)) (an (an e4615 (an (t2 tt) (ta h4616))) (an e4620 (an (an e4629 (ta h4630)) (an e4639 (an (an e5166 (an rf tt)) (an (ti (an e4632 (t4 tt))) (an (an (ti tt) e5422) (an (ti tt) tt))))))))))) (ti tt)) (Wv.refl _)
         ·have e5423 := (t3 (u2 e4899 (an (td h4640) (ti (u2 e5159 (an (td h4901) (ti (u3 (td h5161) (t6 (an (td h5161) (tb h5161)))))))))))
          injection h with h; subst h
          exact Qo pm pn Try.func4 (r0 := vb false) (ans := [.reg (.n :: .n :: []), .reg (.call (vb r4604) :: .n :: []), .br false, .reg (.n :: .call (vb r4607) :: nN 6 (.b false :: [])), .br false, .reg (nN 6 (.call (VV.tu [vi r4612.1, vi r4612.2]) :: nN 5 [])), .reg (.n :: .n :: []), .br false, .reg (Qfa r4617), .reg (nN 10 (.b false :: [])), .br false, .reg (Qg4 r4633 r4636), .reg (nN 5 (.b true :: nN 3 (.b true :: .n :: nS 10 (.b true :: [])))), .br true, .reg (.n :: [])]) (fr := true) (by kernel_rfl) (an (an (t2 tt) (an (an (an (Qag k _ h4605) (ti tt)) (an (Qi h4606) tt)) (an (an e4610 (tf h4611)) (an (an e4615 (an (t2 tt) (ta h4616))) (an e4620 (an (an e4629 (ta h4630)) (an e4639 (an e5423 (an rt (an (ti tt) tt)))))))))) (ti tt)) (Wv.refl _)
      ·injection h with h; subst h
       exact Qo pm pn Try.func4 (r0 := vb false) (ans := [.reg (.n :: .n :: []), .reg (.call (vb r4604) :: .n :: []), .br false, .reg (.n :: .call (vb r4607) :: nN 6 (.b false :: [])), .br false, .reg (nN 6 (.call (VV.tu [vi r4612.1, vi r4612.2]) :: nN 5 [])), .reg (.n :: .n :: []), .br false, .reg (Qfa r4617), .reg (nN 10 (.b false :: [])), .br true, .reg (.n :: [])]) (fr := true) (by kernel_rfl) (an (an (t2 tt) (an (an (an (Qag k _ h4605) (ti tt)) (an (Qi h4606) tt)) (an (an e4610 (tf h4611)) (an (an e4615 (an (t2 tt) (ta h4616))) (an e4620 (an e4629 (an (td h4630) (an (ti tt) tt)))))))) (ti tt)) (Wv.refl _)
     ·have e5424 := (t3 (u7 (td h4621) (tb h4621)))
      injection h with h; subst h
      exact Qo pm pn Try.func4 (r0 := vb false) (ans := [.reg (.n :: .n :: []), .reg (.call (vb r4604) :: .n :: []), .br false, .reg (.n :: .call (vb r4607) :: nN 6 (.b false :: [])), .br false, .reg (nN 6 (.call (VV.tu [vi r4612.1, vi r4612.2]) :: nN 5 [])), .reg (.n :: .n :: []), .br false, .reg (Qfa r4617), .reg (nN 3 (nS 7 (.b true :: []))), .br true, .reg (.n :: [])]) (fr := true) (by kernel_rfl) (an (an (t2 tt) (an (an (an (Qag k _ h4605) (ti tt)) (an (Qi h4606) tt)) (an (an e4610 (tf h4611)) (an (an e4615 (an (t2 tt) (ta h4616))) (an e4620 (an e5424 (an rt (an (ti tt) tt)))))))) (ti tt)) (Wv.refl _)
    ·injection h with h; subst h
     exact Qo pm pn Try.func4 (r0 := vb true) (ans := [.reg (.n :: .n :: []), .reg (.call (vb r4604) :: .n :: []), .br false, .reg (.n :: .call (vb r4607) :: nN 6 (.b false :: [])), .br false, .reg (nN 6 (.call (VV.tu [vi r4612.1, vi r4612.2]) :: nN 5 [])), .reg (.n :: .n :: []), .br true, .reg (.n :: [])]) (fr := true) (by kernel_rfl) (an (an (t2 tt) (an (an (an (Qag k _ h4605) (ti tt)) (an (Qi h4606) tt)) (an (an e4610 (tf h4611)) (an e4615 (an (t2 tt) (an (td h4616) (an (ti tt) tt))))))) (ti tt)) (Wv.refl _)
  ·have e5425 := (ti (an (Qcm k a0 _ h4608) (t2 (u5 (Qq (Qy h4609)) tt))))
   injection h with h; subst h
   exact Qo pm pn Try.func4 (r0 := vb true) (ans := [.reg (.n :: .n :: []), .reg (.call (vb r4604) :: .n :: []), .br false, .reg (.n :: .call (vb r4607) :: .n :: .n :: nS 4 (.b true :: [])), .br true, .reg (.n :: [])]) (fr := true) (by kernel_rfl) (an (an (t2 tt) (an (an (an (Qag k _ h4605) (ti tt)) (an (Qi h4606) tt)) (an e5425 (an rt (an (ti tt) tt))))) (ti tt)) (Wv.refl _)
 ·injection h with h; subst h
  exact Qo pm pn Try.func4 (r0 := vb false) (ans := [.reg (.n :: .n :: []), .reg (.call (vb r4604) :: .n :: []), .br true, .reg (.n :: [])]) (fr := true) (by kernel_rfl) (an (an (t2 tt) (an (an (Qag k _ h4605) (ti tt)) (an (Qq (Qy h4606)) (an (ti tt) tt)))) (ti tt)) (Wv.refl _)
end Go.Proofs.Ytbgajdbpdhipiaa.Vg

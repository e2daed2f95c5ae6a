import Derived.Test.YtbgajdbpdhipiaaB2
namespace Go.Proofs.Ytbgajdbpdhipiaa.Vg
set_option maxRecDepth 100000
set_option maxHeartbeats 4000000
set_option linter.unusedVariables false
set_option linter.unusedSimpArgs false
open Go Go.Proofs.Ytbgajdbpdhipiaa.Ev Go.Proofs.Ytbgajdbpdhipiaa.Vv
open List (flatMap length_cons length_nil length_map length_append map_cons map_nil length_replicate)
structure Qex where
 Mount : Qc
 Targets : (List Qa)
 At : A26
 deriving Inhabited
def Qfh (x : Qex) : List VV := [vi x.Mount.Least, vi x.Mount.Most, vi x.Mount.Low, vi x.Mount.High, vi x.Mount.Speed, VV.tr (flatMap Qv x.Mount.Refraction) x.Mount.Refraction.length, VV.tr (flatMap Qv x.Mount.Drift) x.Mount.Drift.length, VV.tr (flatMap Qh x.Targets) x.Targets.length, vi x.At.e0, vi x.At.e1]
def Q0s (x : Qex) : List VV := [vi x.Mount.Least, vi x.Mount.Most, vi x.Mount.Low, vi x.Mount.High, vi x.Mount.Speed, VV.fr (flatMap Qv x.Mount.Refraction) x.Mount.Refraction.length, VV.fr (flatMap Qv x.Mount.Drift) x.Mount.Drift.length, VV.fr (flatMap Qh x.Targets) x.Targets.length, vi x.At.e0, vi x.At.e1]
theorem Qee (xs : List Qex) : (xs.flatMap Qfh).map unfr = xs.flatMap Qfh := Qa0 (fun _ => rfl) xs
theorem Qef (xs : List Qex) : (xs.flatMap Q0s).map unfr = xs.flatMap Qfh := Qa0 (fun _ => rfl) xs
structure Zy where
 begin : Int
 stops : (List Z8)
 deriving Inhabited
def Z7 (x : Zy) : List VV := [vi x.begin, VV.tr (flatMap Qw x.stops) x.stops.length]
def Qbg (x : Zy) : List VV := [vi x.begin, VV.fr (flatMap Qw x.stops) x.stops.length]
theorem Qa6 (xs : List Zy) : (xs.flatMap Z7).map unfr = xs.flatMap Z7 := Qa0 (fun _ => rfl) xs
theorem Qeg (xs : List Zy) : (xs.flatMap Qbg).map unfr = xs.flatMap Z7 := Qa0 (fun _ => rfl) xs
theorem ag9 : Qce Try.prog 9 = some false := by kernel_rfl
theorem ag51 : Qce Try.prog 51 = some true := by kernel_rfl
theorem sz51 : szOf Try.prog 51 = some 6 := by kernel_rfl
def Jf (a0 : Qex) (x3 : Int) : VS := ⟨mkA [(1, VV.pt 0 0), (3, vi x3)], [some ⟨true, 1, Qfh a0⟩], .nil⟩
def Ym (a0 : Qex) (r : Unit) : VS := ⟨mkA [(2, vb false)], [], .nil⟩
def Xb (a0 : Qex) (r : Unit) : VS := ⟨mkA [(1, VV.pt 0 0)], [some ⟨true, 1, Qfh a0⟩], .nil⟩
def Zk (k : Nat) (a0 : Qex) : Nat -> Int -> Option (Sum Unit Unit)
 | 0, _ => none
 | fuel + 1, x3 => if x3 < (a0.Targets.length : Int) then (if 0 <= x3 /\ x3 < (a0.Targets.length : Int) then (if 30 < (((a0.Targets.getD x3.toNat default).Name).size : Int) then (some (.inl ())) else (Zk k a0 fuel (w64 (x3 + 1)))) else none) else (some (.inr ()))
theorem Qds (k : Nat) (a0 : Qex) : ∀ (fuel : Nat) (x3 : Int) (r : Sum Unit Unit), Zk k a0 fuel x3 = some r -> (match r with | .inl r => J6 none Try.prog (szF Try.f6) (X5 Try.f6 0) (Jf a0 x3) .ret (Ym a0 r) | .inr r => J6 none Try.prog (szF Try.f6) (X5 Try.f6 0) (Jf a0 x3) (.exit 0) (Xb a0 r)) := by
 intro fuel
 induction fuel with
 | zero => intro x3 r h; rw [Zk.eq_1] at h; cases h
 | succ fuel ih =>
  intro x3 r h
  rw [Zk.eq_2] at h
  rcases ifs h with ⟨h808, h⟩ | ⟨h808, h⟩
  ·obtain ⟨h809, h⟩ := ifn h
   have e810 := (show Zv Try.prog 9 (x3.toNat * 6 + 0) (flatMap Qh a0.Targets) = some (vs ((a0.Targets.getD x3.toNat default).Name)) from (Qdx ag9 Qh 6 0 Qaw (by omega) a0.Targets default h809 (by omega)).trans rfl)
   have e811 := (ti (ti (ti (an h809 (ti (an e810 (ti (ti tt))))))))
   rcases ifs h with ⟨h812, h⟩ | ⟨h812, h⟩
   ·injection h with h; subst h
    exact Qz (c := ⟨[(2, none)], [], []⟩) (s1 := (Ym a0 ())) pm pn (ans := [.reg (nN 5 []), .br true, .reg (nN 5 (.v (vs ((a0.Targets.getD x3.toNat default).Name)) :: .n :: .n :: [])), .br true, .reg (.n :: [])]) (by kernel_rfl) (by intro e; cases e) (an (an (an (ti (ti (ti (ti (ti tt))))) (an (dt h808) tt)) (an e811 (an (dt h812) (an (ti tt) tt)))) (ti tt))
   ·have h2 := ih _ _ h
    obtain ⟨q, hv, hq⟩ := pkR (rd := none) (P := Try.prog) (fn := Try.f6) (k := 0) (s := (Jf a0 x3)) (ans := [.reg (nN 5 []), .br true, .reg (nN 5 (.v (vs ((a0.Targets.getD x3.toNat default).Name)) :: .n :: .n :: [])), .br false, .reg (nN 3 [])]) (c := ⟨[(1, none), (3, none)], [none], []⟩) (e := .normal) (s1 := (Jf a0 (w64 (x3 + 1)))) (an (an (an (ti (ti (ti (ti (ti tt))))) (an (dt h808) tt)) (an (an e811 (an (df h812) tt)) (ti (ti (ti tt))))) (ti tt)) (by kernel_rfl)
    cases r with
    | inl r => exact Qy pm pn hv hq h2
    | inr r =>
     exact Qy pm pn hv hq h2
  ·injection h with h; subst h
   exact Qz (c := ⟨[(1, none)], [none], []⟩) (s1 := (Xb a0 ())) pm pn (ans := [.reg (nN 5 []), .br false]) (by kernel_rfl) (by intro e; cases e) (an (an (ti (ti (ti (ti (ti tt))))) (an (df h808) tt)) (ti tt))
def Q19 (z0 : Bool) : List Ans := (.n :: .n :: .call (vb z0) :: nN 7 (.skip :: .skip :: .b false :: .b false :: .b true :: .n :: []))
def Yd (k : Nat) (a0 : Qex) : Option Bool :=
 (Zk k a0 k 0).bind fun r814 => (match r814 with | .inl r815 => (some false) | .inr r816 => ((Yc k a0.Mount).bind fun r819 => (if r819 = true then (if (a0.Targets.length : Int) <= 5 then (some true) else (if 20 < (a0.Targets.length : Int) then (some (decide ((a0.Targets.length : Int) <= 23))) else (some false))) else (some false))))
theorem Qar (k : Nat) (a0 : Qex) (r : Bool) (h : Yd k a0 = some r) : VC Try.prog 6 [VV.ag (Qfh a0)] (vb r) := by
 unfold Yd at h
 obtain ⟨r814, h813, h⟩ := bs h
 have hph813 := Qds k a0 _ _ _ h813
 cases r814 with
 | inl r815 =>
  dsimp only at h
  have e817 := (an (ti tt) (VRun.loop hph813))
  injection h with h; subst h
  exact Qk pm pn Try.func6 (r0 := vb false) (ans := [.reg (.n :: .n :: []), .reg (.n :: []), .sub ⟨[(1, none), (3, none)], [none], []⟩ .ret (Ym a0 r815)]) (fr := true) (by kernel_rfl) (an (an (ti (ti tt)) (an (ti tt) e817)) (ti tt)) (Wv.refl _)
 | inr r816 =>
  dsimp only at h
  have e818 := (an (ti tt) (VRun.loop hph813))
  obtain ⟨r819, h820, h⟩ := bs h
  have e821 := (Qfr k a0.Mount _ h820)
  rcases ifs h with ⟨h822, h⟩ | ⟨h822, h⟩
  ·rcases ifs h with ⟨h823, h⟩ | ⟨h823, h⟩
   ·have e824 := (ti (ti (an e821 (ti (an (an h822 tt) (an (an h822 tt) (an (an h822 tt) (an (dt h823) (an (dt h823) (an (dt h823) (ti (ti (an (dt h823) (an (an h822 (dt h823)) (an h822 (ti tt))))))))))))))))
    injection h with h; subst h
    exact Qk pm pn Try.func6 (r0 := vb true) (ans := [.reg (.n :: .n :: []), .reg (.n :: []), .sub ⟨[(1, none), (3, none)], [none], []⟩ (.exit 0) (Xb a0 r816), .reg (nN 4 []), .reg (.n :: .n :: .call (vb r819) :: nN 4 (nS 6 (.b true :: .b true :: .n :: [])))]) (fr := true) (by kernel_rfl) (an (an (ti (ti tt)) (an (an (ti tt) e818) (an (ti (ti (ti (ti tt)))) (an e824 tt)))) (ti tt)) (Wv.refl _)
   ·rcases ifs h with ⟨h825, h⟩ | ⟨h825, h⟩
    ·have e826 := (an (df h823) (dt h825))
     have e827 := (ti (ti (an e821 (ti (an (an h822 tt) (an (an h822 tt) (an (an h822 tt) (an (an (df h823) tt) (an (an (df h823) tt) (an (an (df h823) tt) (an (an (dt h825) tt) (an (an (dt h825) tt) (an e826 (an (an h822 (df h823)) (an h822 (ti tt))))))))))))))))
     injection h with h; subst h
     exact Qk pm pn Try.func6 (r0 := vb (decide ((a0.Targets.length : Int) <= 23))) (ans := [.reg (.n :: .n :: []), .reg (.n :: []), .sub ⟨[(1, none), (3, none)], [none], []⟩ (.exit 0) (Xb a0 r816), .reg (nN 4 []), .reg (.n :: .n :: .call (vb r819) :: nN 9 (.b true :: .b false :: .b true :: .n :: []))]) (fr := true) (by kernel_rfl) (an (an (ti (ti tt)) (an (an (ti tt) e818) (an (ti (ti (ti (ti tt)))) (an e827 tt)))) (ti tt)) (Wv.refl _)
    ·have e828 := (an (df h823) (df h825))
     have e829 := (ti (ti (an e821 (ti (an (an h822 tt) (an (an h822 tt) (an (an h822 tt) (an (an (df h823) tt) (an (an (df h823) tt) (an (an (df h823) tt) (an (df h825) (an (df h825) (an e828 (an (an h822 (df h823)) (an h822 (ti tt))))))))))))))))
     injection h with h; subst h
     exact Qk pm pn Try.func6 (r0 := vb false) (ans := [.reg (.n :: .n :: []), .reg (.n :: []), .sub ⟨[(1, none), (3, none)], [none], []⟩ (.exit 0) (Xb a0 r816), .reg (nN 4 []), .reg (Q19 r819)]) (fr := true) (by kernel_rfl) (an (an (ti (ti tt)) (an (an (ti tt) e818) (an (ti (ti (ti (ti tt)))) (an e829 tt)))) (ti tt)) (Wv.refl _)
  ·have e830 := (ti (ti (an e821 (ti (an (Zb h822) (an (Zb h822) (an (Zb h822) (ti (ti (ti (ti (ti (ti (an (Zb h822) (an (Zb h822) (ti tt))))))))))))))))
   injection h with h; subst h
   exact Qk pm pn Try.func6 (r0 := vb false) (ans := [.reg (.n :: .n :: []), .reg (.n :: []), .sub ⟨[(1, none), (3, none)], [none], []⟩ (.exit 0) (Xb a0 r816), .reg (nN 4 []), .reg (.n :: .n :: .call (vb r819) :: .n :: nS 10 (.b false :: .n :: []))]) (fr := true) (by kernel_rfl) (an (an (ti (ti tt)) (an (an (ti tt) e818) (an (ti (ti (ti (ti tt)))) (an e830 tt)))) (ti tt)) (Wv.refl _)
theorem Q2a (z0 : Int) : [vi 0, vi 100000, VV.tr (List.map vi ([z0] : List Int)) (([z0] : List Int).length)] = [vi 0, vi 100000, VV.tr [vi z0] 1] := by first | rfl | (simp only [Qm, map_cons, map_nil, un_i, Yj, length_map, length_cons, length_nil]; done) | (simp only [Qm, map_cons, map_nil, un_i, Yj, length_map, length_cons, length_nil]; rfl) | (simp only [Qm, map_cons, map_nil, un_i, Yj, length_map, length_cons, length_nil, length_cons, length_nil, length_append]; done)
def Qb9 (k : Nat) (a0 : Int) : Option Int :=
 (Zc k 0 100000 ([a0] : List Int)).bind fun r841 => (if r841 = true then (some 0) else (some 2))
theorem Qia (k : Nat) (a0 : Int) (r : Int) (h : Qb9 k a0 = some r) : VC Try.prog 40 [vi a0] (vi r) := by
 unfold Qb9 at h
 obtain ⟨r841, h842, h⟩ := bs h
 have e843 := (VC.args (Zo k 0 100000 ([a0] : List Int) _ h842) (Q2a a0))
 rcases ifs h with ⟨h844, h⟩ | ⟨h844, h⟩
 ·injection h with h; subst h
  exact Qk pm pn Try.func40 (r0 := vi 0) (ans := [.reg (.n :: []), .reg (.n :: .v VV.any :: .call (vb r841) :: .n :: []), .br false, .reg (.n :: [])]) (fr := true) (by kernel_rfl) (an (an (ti tt) (an (an (ti (ti (an e843 (ti tt)))) (an (Q5 h844) tt)) (an (ti tt) tt))) (ti tt)) (Wv.refl _)
 ·injection h with h; subst h
  exact Qk pm pn Try.func40 (r0 := vi 2) (ans := [.reg (.n :: []), .reg (.n :: .v VV.any :: .call (vb r841) :: .n :: []), .br true, .reg (.n :: [])]) (fr := true) (by kernel_rfl) (an (an (ti tt) (an (ti (ti (an e843 (ti tt)))) (an (Z5 (Zb h844)) (an (ti tt) tt)))) (ti tt)) (Wv.refl _)
theorem Q2b (z0 : Qc) (z1 : A26) : [vi z0.Least, vi z0.Most, VV.tr (List.map vi ([z1.e1] : List Int)) (([z1.e1] : List Int).length)] = [vi z0.Least, vi z0.Most, VV.tr [vi z1.e1] 1] := by first | rfl | (simp only [Qm, map_cons, map_nil, un_i, Yj, length_map, length_cons, length_nil]; done) | (simp only [Qm, map_cons, map_nil, un_i, Yj, length_map, length_cons, length_nil]; rfl) | (simp only [Qm, map_cons, map_nil, un_i, Yj, length_map, length_cons, length_nil, length_cons, length_nil, length_append]; done)
def Qbh (k : Nat) (a0 : Qa) (q0_0 : ByteArray) (q0_1 : Int) (q0_2 : Int) (q0_3 : Int) (q0_4 : Int) (q0_5 : Int) : Option Bool :=
 some (decide (a0.Name = q0_0))
theorem Qfs (k : Nat) (a0 : Qa) (q0_0 : ByteArray) (q0_1 : Int) (q0_2 : Int) (q0_3 : Int) (q0_4 : Int) (q0_5 : Int) (r : Bool) (h : Qbh k a0 q0_0 q0_1 q0_2 q0_3 q0_4 q0_5 = some r) : VC Try.prog 52 [VV.ag (Qh a0), VV.tp [vs q0_0, vi q0_1, vi q0_2, vi q0_3, vi q0_4, vi q0_5] 0] (vb r) := by
 unfold Qbh at h
 have e869 := (show Zv Try.prog 9 0 [vs q0_0, vi q0_1, vi q0_2, vi q0_3, vi q0_4, vi q0_5] = some (vs q0_0) from (Qfb ag9 rfl))
 injection h with h; subst h
 exact Qk pm pn Try.func52 (r0 := vb (decide (a0.Name = q0_0))) (ans := [.reg (.n :: .n :: []), .reg (nN 3 (.v (vs q0_0) :: .n :: .n :: []))]) (fr := true) (by kernel_rfl) (an (an (ti (ti tt)) (an (ti (ti (ti (an e869 (ti (ti tt)))))) tt)) (ti tt)) (Wv.refl _)
def Qj (a0 : (List Qa)) (a1 : (ByteArray × Int × Int × Int × Int × Int)) (x8 : Int) : VS := ⟨mkA [(0, VV.tr (flatMap Qh a0) a0.length), (1, VV.fn 52 [VV.tp [vs a1.1, vi a1.2.1, vi a1.2.2.1, vi a1.2.2.2.1, vi a1.2.2.2.2.1, vi a1.2.2.2.2.2] 0]), (7, vi (a0.length : Int)), (8, vi x8)], [], .nil⟩
def Qs (a0 : (List Qa)) (a1 : (ByteArray × Int × Int × Int × Int × Int)) (r : Int) : VS := ⟨mkA [(4, vi r)], [], .nil⟩
def Qu (a0 : (List Qa)) (a1 : (ByteArray × Int × Int × Int × Int × Int)) (r : Unit) : VS := ⟨mkA [], [], .nil⟩
def Qd (k : Nat) (a0 : (List Qa)) (a1 : (ByteArray × Int × Int × Int × Int × Int)) : Nat -> Int -> Option (Sum Int Unit)
 | 0, _ => none
 | fuel + 1, x8 => if x8 < (a0.length : Int) then (if 0 <= x8 /\ x8 < (a0.length : Int) then ((Qbh k (a0.getD x8.toNat default) a1.1 a1.2.1 a1.2.2.1 a1.2.2.2.1 a1.2.2.2.2.1 a1.2.2.2.2.2).bind fun r916 => (if r916 = true then (some (.inl x8)) else (Qd k a0 a1 fuel (w64 (x8 + 1))))) else none) else (some (.inr ()))
theorem Xq (k : Nat) (a0 : (List Qa)) (a1 : (ByteArray × Int × Int × Int × Int × Int)) : ∀ (fuel : Nat) (x8 : Int) (r : Sum Int Unit), Qd k a0 a1 fuel x8 = some r -> (match r with | .inl r => J6 none Try.prog (szF Try.f57) (X5 Try.f57 0) (Qj a0 a1 x8) .ret (Qs a0 a1 r) | .inr r => J6 none Try.prog (szF Try.f57) (X5 Try.f57 0) (Qj a0 a1 x8) (.exit 0) (Qu a0 a1 r)) := by
 intro fuel
 induction fuel with
 | zero => intro x8 r h; rw [Qd.eq_1] at h; cases h
 | succ fuel ih =>
  intro x8 r h
  rw [Qd.eq_2] at h
  rcases ifs h with ⟨h913, h⟩ | ⟨h913, h⟩
  ·obtain ⟨h914, h⟩ := ifn h
   have e915 := (show Zv Try.prog 51 (x8.toNat * 6) (flatMap Qh a0) = some (VV.ag (Qh (a0.getD x8.toNat default))) from Qed ag51 Qh 6 sz51 Qaw a0 default h914 (by omega))
   obtain ⟨r916, h917, h⟩ := bs h
   have e918 := (Qfs k (a0.getD x8.toNat default) a1.1 a1.2.1 a1.2.2.1 a1.2.2.2.1 a1.2.2.2.2.1 a1.2.2.2.2.2 _ h917)
   have e919 := (ti (ti (ti (an h914 (an e915 (an e918 tt))))))
   rcases ifs h with ⟨h920, h⟩ | ⟨h920, h⟩
   ·injection h with h; subst h
    exact Qz (c := ⟨[(4, none)], [], []⟩) (s1 := (Qs a0 a1 x8)) pm pn (ans := [.reg (.n :: []), .br true, .reg (.n :: .n :: []), .reg (nN 4 (.v (VV.ag (Qh (a0.getD x8.toNat default))) :: .call (vb r916) :: [])), .br true, .reg (.n :: .n :: [])]) (by kernel_rfl) (by intro e; cases e) (an (an (ti tt) (an (an (dt h913) tt) (an (ti (ti tt)) (an e919 (an h920 (an (ti (ti tt)) tt)))))) (ti tt))
   ·have h2 := ih _ _ h
    obtain ⟨q, hv, hq⟩ := pkR (rd := none) (P := Try.prog) (fn := Try.f57) (k := 0) (s := (Qj a0 a1 x8)) (ans := [.reg (.n :: []), .br true, .reg (.n :: .n :: []), .reg (nN 4 (.v (VV.ag (Qh (a0.getD x8.toNat default))) :: .call (vb r916) :: [])), .br false, .reg (.n :: .n :: [])]) (c := ⟨[(0, none), (1, none), (7, none), (8, none)], [], []⟩) (e := .normal) (s1 := (Qj a0 a1 (w64 (x8 + 1)))) (an (an (ti tt) (an (an (dt h913) tt) (an (an (ti (ti tt)) (an e919 (an (Zb h920) tt))) (ti (ti tt))))) (ti tt)) (by kernel_rfl)
    cases r with
    | inl r => exact Qy pm pn hv hq h2
    | inr r =>
     exact Qy pm pn hv hq h2
  ·injection h with h; subst h
   exact Qz (c := ⟨[], [], []⟩) (s1 := (Qu a0 a1 ())) pm pn (ans := [.reg (.n :: []), .br false]) (by kernel_rfl) (by intro e; cases e) (an (an (ti tt) (an (df h913) tt)) (ti tt))
def Qo (k : Nat) (a0 : (List Qa)) (a1 : (ByteArray × Int × Int × Int × Int × Int)) : Option Int :=
 (Qd k a0 a1 k 0).bind fun r922 => (match r922 with | .inl r923 => (some r923) | .inr r924 => (some (-1)))
theorem Xz (k : Nat) (a0 : (List Qa)) (a1 : (ByteArray × Int × Int × Int × Int × Int)) (r : Int) (h : Qo k a0 a1 = some r) : VC Try.prog 57 [VV.tr (flatMap Qh a0) a0.length, VV.fn 52 [VV.tp [vs a1.1, vi a1.2.1, vi a1.2.2.1, vi a1.2.2.2.1, vi a1.2.2.2.2.1, vi a1.2.2.2.2.2] 0]] (vi r) := by
 unfold Qo at h
 obtain ⟨r922, h921, h⟩ := bs h
 have hph921 := Xq k a0 a1 _ _ _ h921
 cases r922 with
 | inl r923 =>
  dsimp only at h
  have e925 := (an (ti tt) (VRun.loop hph921))
  injection h with h; subst h
  exact Qk pm pn Try.func57 (r0 := vi r923) (ans := [.reg (.n :: []), .reg (nN 3 []), .sub ⟨[(0, none), (1, none), (7, none), (8, none)], [], []⟩ .ret (Qs a0 a1 r923)]) (fr := true) (by kernel_rfl) (an (an (ti tt) (an (ti (ti (ti tt))) e925)) (ti tt)) (Wv.refl _)
 | inr r924 =>
  dsimp only at h
  have e926 := (an (ti tt) (VRun.loop hph921))
  injection h with h; subst h
  exact Qk pm pn Try.func57 (r0 := vi (-1)) (ans := [.reg (.n :: []), .reg (nN 3 []), .sub ⟨[(0, none), (1, none), (7, none), (8, none)], [], []⟩ (.exit 0) (Qu a0 a1 r924), .reg (.n :: [])]) (fr := true) (by kernel_rfl) (an (an (ti tt) (an (an (ti (ti (ti tt))) e926) (an (ti tt) tt))) (ti tt)) (Wv.refl _)
def Ql (k : Nat) (a0 : (List Qa)) (a1 : (ByteArray × Int × Int × Int × Int × Int)) : Option Bool :=
 (Qo k a0 a1).bind fun r930 => (some (decide (0 <= r930)))
theorem Xu (k : Nat) (a0 : (List Qa)) (a1 : (ByteArray × Int × Int × Int × Int × Int)) (r : Bool) (h : Ql k a0 a1 = some r) : VC Try.prog 51 [VV.tr (flatMap Qh a0) a0.length, VV.fn 52 [VV.tp [vs a1.1, vi a1.2.1, vi a1.2.2.1, vi a1.2.2.2.1, vi a1.2.2.2.2.1, vi a1.2.2.2.2.2] 0]] (vb r) := by
 unfold Ql at h
 obtain ⟨r930, h931, h⟩ := bs h
 have e932 := (Xz k a0 a1 _ h931)
 injection h with h; subst h
 exact Qk pm pn Try.func51 (r0 := vb (decide (0 <= r930))) (ans := [.reg (.n :: []), .reg (.n :: .n :: .call (vi r930) :: .n :: .n :: [])]) (fr := true) (by kernel_rfl) (an (an (ti tt) (an (ti (ti (an e932 (ti (ti tt))))) tt)) (ti tt)) (Wv.refl _)
theorem Q2c (z0 : (List Qa)) (z1 : Qa) : [VV.tr (flatMap Qh z0) z0.length, VV.fn 52 [VV.tp [vs ((z1.Name, z1.Azimuth, z1.Height, z1.From, z1.To, z1.Dwell).1), vi ((z1.Name, z1.Azimuth, z1.Height, z1.From, z1.To, z1.Dwell).2.1), vi ((z1.Name, z1.Azimuth, z1.Height, z1.From, z1.To, z1.Dwell).2.2.1), vi ((z1.Name, z1.Azimuth, z1.Height, z1.From, z1.To, z1.Dwell).2.2.2.1), vi ((z1.Name, z1.Azimuth, z1.Height, z1.From, z1.To, z1.Dwell).2.2.2.2.1), vi ((z1.Name, z1.Azimuth, z1.Height, z1.From, z1.To, z1.Dwell).2.2.2.2.2)] 0]] = [VV.tr (flatMap Qh z0) z0.length, VV.fn 52 [VV.tp [vs z1.Name, vi z1.Azimuth, vi z1.Height, vi z1.From, vi z1.To, vi z1.Dwell] 0]] := by first | rfl | (simp only [Qm, Qcj, map_cons, map_nil, un_i, un_s, Yj, length_cons, length_nil, Jq]; done) | (simp only [Qm, Qcj, map_cons, map_nil, un_i, un_s, Yj, length_cons, length_nil, Jq]; rfl) | (simp only [Qm, Qcj, map_cons, map_nil, un_i, un_s, Yj, length_cons, length_nil, Jq, Qh, length_cons, length_nil, length_append]; done)
def Wh (k : Nat) (a0 : (List Qa)) (a1 : Qa) : Option Int :=
 (Y9 k a1).bind fun r938 => (if r938 = 0 then ((Ql k a0 (a1.Name, a1.Azimuth, a1.Height, a1.From, a1.To, a1.Dwell)).bind fun r942 => (if r942 = true then (some 5) else (some 0))) else (some r938))
theorem Qgh (k : Nat) (a0 : (List Qa)) (a1 : Qa) (r : Int) (h : Wh k a0 a1 = some r) : VC Try.prog 41 [VV.tr (flatMap Qh a0) a0.length, VV.ag (Qh a1)] (vi r) := by
 unfold Wh at h
 have e937 := (show Zv Try.prog 51 0 [vs a1.Name, vi a1.Azimuth, vi a1.Height, vi a1.From, vi a1.To, vi a1.Dwell] = some (VV.ag (Qh a1)) from (Q18 ag51 sz51 rfl))
 obtain ⟨r938, h939, h⟩ := bs h
 have e940 := (an e937 (an (Qgi k a1 _ h939) (ti tt)))
 rcases ifs h with ⟨h941, h⟩ | ⟨h941, h⟩
 ·obtain ⟨r942, h943, h⟩ := bs h
  have e944 := (VC.args (Xu k a0 (a1.Name, a1.Azimuth, a1.Height, a1.From, a1.To, a1.Dwell) _ h943) (Q2c a0 a1))
  rcases ifs h with ⟨h945, h⟩ | ⟨h945, h⟩
  ·injection h with h; subst h
   exact Qk pm pn Try.func41 (r0 := vi 5) (ans := [.reg (.n :: .n :: []), .frz 0, .reg (.v (VV.ag (Qh a1)) :: .call (vi r938) :: .n :: []), .reg (.n :: .n :: []), .br false, .reg (.n :: .n :: .call (vb r942) :: []), .br true, .reg (.n :: [])]) (fr := true) (by kernel_rfl) (an (an (ti (ti tt)) (an (an e940 (an (ti (ti tt)) (an (Q5 (dt h941)) tt))) (an (ti (ti (an e944 tt))) (an h945 (an (ti tt) tt))))) (ti tt)) (Wv.refl _)
  ·injection h with h; subst h
   exact Qk pm pn Try.func41 (r0 := vi 0) (ans := [.reg (.n :: .n :: []), .frz 0, .reg (.v (VV.ag (Qh a1)) :: .call (vi r938) :: .n :: []), .reg (.n :: .n :: []), .br false, .reg (.n :: .n :: .call (vb r942) :: []), .br false, .reg (.n :: [])]) (fr := true) (by kernel_rfl) (an (an (ti (ti tt)) (an (an e940 (an (ti (ti tt)) (an (Q5 (dt h941)) tt))) (an (an (ti (ti (an e944 tt))) (an (Zb h945) tt)) (an (ti tt) tt)))) (ti tt)) (Wv.refl _)
 ·injection h with h; subst h
  exact Qk pm pn Try.func41 (r0 := vi r938) (ans := [.reg (.n :: .n :: []), .frz 0, .reg (.v (VV.ag (Qh a1)) :: .call (vi r938) :: .n :: []), .reg (.n :: .n :: []), .br true, .reg (.n :: .n :: [])]) (fr := true) (by kernel_rfl) (an (an (ti (ti tt)) (an e940 (an (ti (ti tt)) (an (Z5 (df h941)) (an (ti (ti tt)) tt))))) (ti tt)) (Wv.refl _)
def Qwa (z0 : (List Qa)) (z1 : Int) (z2 : Int) : List Ans := (.n :: .n :: .v (VV.tr (flatMap Qh (sl z0 0 ((z1).toNat))) ((sl z0 0 ((z1).toNat)).length)) :: .n :: .call (vi z2) :: .n :: [])
theorem Qpe  : vi 0 = vi ((⟨0, []⟩ : Zy).begin) := by first | rfl | (simp only [Qm, map_cons, map_nil, un_i]; done) | (simp only [Qm, map_cons, map_nil, un_i]; rfl) | (simp only [Qm, map_cons, map_nil, un_i, length_cons, length_nil, length_append]; done)
def Qaa (a0 : Qc) (a1 : (List Qa)) (a2 : A26) (y4 : List Z8) (x52 : Int) : VS := ⟨mkA [(1, VV.tr (flatMap Qh a1) a1.length), (3, VV.pt 0 0), (6, VV.pt 2 0), (10, vi a2.e0), (13, VV.pt 3 0), (50, VV.tr (flatMap Qh a1) a1.length), (51, vi (a1.length : Int)), (52, vi x52)], [some ⟨true, 1, Zq a0⟩, some ⟨true, 1, Qdw a2⟩, some ⟨true, 1, [vi 0, VV.c (.slice none 0 0)]⟩, some ⟨true, 1, [vi a2.e1, VV.rf 4 0 y4.length]⟩, some ⟨false, 8, flatMap Qah y4⟩], .nil⟩
def Wi (a0 : Qc) (a1 : (List Qa)) (a2 : A26) (r : Int × Int) : VS := ⟨mkA [(6, VV.pt 2 0), (7, vi r.1), (8, vi r.2)], [some ⟨true, 1, Zq a0⟩, some ⟨true, 1, Qdw a2⟩, some ⟨true, 1, [vi 0, VV.c (.slice none 0 0)]⟩], .nil⟩
def Qba (a0 : Qc) (a1 : (List Qa)) (a2 : A26) (r : (List Z8)) : VS := ⟨mkA [(6, VV.pt 2 0), (13, VV.pt 3 0)], [some ⟨true, 1, Zq a0⟩, some ⟨true, 1, Qdw a2⟩, some ⟨true, 1, [vi 0, VV.c (.slice none 0 0)]⟩, some ⟨true, 1, [vi a2.e1, VV.rf 4 0 r.length]⟩, some ⟨false, 8, flatMap Qah r⟩], .nil⟩
def Xp (k : Nat) (a0 : Qc) (a1 : (List Qa)) (a2 : A26) : Nat -> (List Z8) -> Int -> Option (Sum (Int × Int) (List Z8))
 | 0, _, _ => none
 | fuel + 1, y4, x52 => if x52 < (a1.length : Int) then (if 0 <= x52 /\ x52 < (a1.length : Int) then (if 0 <= (0 : Int) /\ (0 : Int) <= x52 /\ x52 <= (a1.length : Int) then ((Wh k (sl a1 0 ((x52).toNat)) (a1.getD x52.toNat default)).bind fun r1080 => (if r1080 = 0 then ((Qb6 k a0 (a1.getD x52.toNat default) a2.e0).bind fun r1084 => (if r1084.2 = 0 then (if y4.length + ([r1084.1] : List Z8).length <= 1000000000 then (Xp k a0 a1 a2 fuel (y4 ++ ([r1084.1] : List Z8)) (w64 (x52 + 1))) else none) else (some (.inl (x52, r1084.2))))) else (some (.inl (x52, r1080))))) else none) else none) else (some (.inr y4))
theorem Qgj (k : Nat) (a0 : Qc) (a1 : (List Qa)) (a2 : A26) : ∀ (fuel : Nat) (y4 : List Z8) (x52 : Int) (r : Sum (Int × Int) (List Z8)), Xp k a0 a1 a2 fuel y4 x52 = some r -> (match r with | .inl r => J6 none Try.prog (szF Try.f22) (X5 Try.f22 0) (Qaa a0 a1 a2 y4 x52) .ret (Wi a0 a1 a2 r) | .inr r => J6 none Try.prog (szF Try.f22) (X5 Try.f22 0) (Qaa a0 a1 a2 y4 x52) (.exit 0) (Qba a0 a1 a2 r)) := by
 intro fuel
 induction fuel with
 | zero => intro y4 x52 r h; rw [Xp.eq_1] at h; cases h
 | succ fuel ih =>
  intro y4 x52 r h
  rw [Xp.eq_2] at h
  rcases ifs h with ⟨h1075, h⟩ | ⟨h1075, h⟩
  ·obtain ⟨h1076, h⟩ := ifn h
   have e1077 := (show Zv Try.prog 51 (x52.toNat * 6) (flatMap Qh a1) = some (VV.ag (Qh (a1.getD x52.toNat default))) from Qed ag51 Qh 6 sz51 Qaw a1 default h1076 (by omega))
   obtain ⟨h1078, h⟩ := ifn h
   have e1079 := (show (True /\ 0 <= x52 /\ 0 <= (x52).toNat /\ (x52).toNat <= a1.length /\ (x52).toNat * 6 <= List.length (flatMap Qh a1)) /\ VV.tr (List.take (((x52).toNat - 0) * 6) (List.drop (0 * 6) (flatMap Qh a1))) ((x52).toNat - 0) = VV.tr (flatMap Qh (sl a1 0 ((x52).toNat))) ((sl a1 0 ((x52).toNat)).length) from ⟨⟨tt, (by have := h1078; omega), (by have := h1078; omega), (by have := h1078; omega), (by rw [Qft Qaw]; have := h1078; omega)⟩, (by exact Q0p Qaw a1 0 ((x52).toNat) (by have := h1078; omega) (by have := h1078; omega))⟩)
   obtain ⟨r1080, h1081, h⟩ := bs h
   have e1082 := (Qgh k (sl a1 0 ((x52).toNat)) (a1.getD x52.toNat default) _ h1081)
   rcases ifs h with ⟨h1083, h⟩ | ⟨h1083, h⟩
   ·obtain ⟨r1084, h1085, h⟩ := bs h
    have e1086 := (show VC Try.prog 34 [VV.ag (Zq a0), VV.ag (Qh (a1.getD x52.toNat default)), vi a2.e0] (VV.tu [VV.ag (Qah r1084.1), vi r1084.2]) from (VC.weak (Qjg k a0 (a1.getD x52.toNat default) a2.e0 _ h1085) (Wv.tuL (.cons (Wv.agL (.cons (Wv.refl _) (.cons (Wv.refl _) (.cons (Wv.refl _) (.cons (Wv.refl _) (.cons (Wv.refl _) (.cons (Wv.refl _) (.cons (Wv.fw rfl rfl) (.cons (Wv.fw rfl rfl) .nil))))))))) (.cons (Wv.refl _) .nil)))))
    have e1087 := (ti (ti (ti (an e1086 (ti (ti (ti (ti (ti (ti tt))))))))))
    rcases ifs h with ⟨h1088, h⟩ | ⟨h1088, h⟩
    ·obtain ⟨h1089, h⟩ := ifn h
     have e1090 := (show List.length (flatMap Qah y4) = y4.length * 8 /\ List.length [vs r1084.1.SkyTarget.Name, vi r1084.1.SkyTarget.Azimuth, vi r1084.1.SkyTarget.Height, vi r1084.1.SkyTarget.From, vi r1084.1.SkyTarget.To, vi r1084.1.SkyTarget.Dwell, VV.fr (List.map vi r1084.1.turns) r1084.1.turns.length, VV.fr (List.map vi r1084.1.positions) r1084.1.positions.length] = 1 * 8 /\ (y4.length + 1) * 104 <= 140737488355328 /\ y4.length + 1 < 1099511627776 /\ List.all [vs r1084.1.SkyTarget.Name, vi r1084.1.SkyTarget.Azimuth, vi r1084.1.SkyTarget.Height, vi r1084.1.SkyTarget.From, vi r1084.1.SkyTarget.To, vi r1084.1.SkyTarget.Dwell, VV.fr (List.map vi r1084.1.turns) r1084.1.turns.length, VV.fr (List.map vi r1084.1.positions) r1084.1.positions.length] VV.still = true from ⟨(by rw [Qft Qk0] <;> simp), (by rw [show [vs r1084.1.SkyTarget.Name, vi r1084.1.SkyTarget.Azimuth, vi r1084.1.SkyTarget.Height, vi r1084.1.SkyTarget.From, vi r1084.1.SkyTarget.To, vi r1084.1.SkyTarget.Dwell, VV.fr (List.map vi r1084.1.turns) r1084.1.turns.length, VV.fr (List.map vi r1084.1.positions) r1084.1.positions.length] = flatMap Qah ([r1084.1] : List Z8) from rfl]; rw [Qft Qk0] <;> simp), (by first | omega | (simp at h1089 ⊢; omega)), (by first | omega | (simp at h1089 ⊢; omega)), (by rw [show [vs r1084.1.SkyTarget.Name, vi r1084.1.SkyTarget.Azimuth, vi r1084.1.SkyTarget.Height, vi r1084.1.SkyTarget.From, vi r1084.1.SkyTarget.To, vi r1084.1.SkyTarget.Dwell, VV.fr (List.map vi r1084.1.turns) r1084.1.turns.length, VV.fr (List.map vi r1084.1.positions) r1084.1.positions.length] = flatMap Qah ([r1084.1] : List Z8) from rfl]; exact Qny _)⟩)
     have h2 := ih _ _ _ h
     obtain ⟨q, hv, hq⟩ := pkR (rd := none) (P := Try.prog) (fn := Try.f22) (k := 0) (s := (Qaa a0 a1 a2 y4 x52)) (ans := [.reg (.n :: []), .br true, .reg (.n :: .n :: .v (VV.ag (Qh (a1.getD x52.toNat default))) :: nN 3 []), .reg (Qwa a1 x52 r1080), .reg (.n :: .n :: []), .br false, .reg (nN 3 (.call (VV.tu [VV.ag (Qah r1084.1), vi r1084.2]) :: nN 6 [])), .reg (.n :: .n :: []), .br false, .reg (nN 7 []), .reg (.n :: .n :: [])]) (c := ⟨[(1, none), (3, none), (6, none), (10, none), (13, none), (50, none), (51, none), (52, none)], [none, none, none, some [vi a2.e1, VV.rf 4 0 ((y4 ++ ([r1084.1] : List Z8)).length)], some (flatMap Qah (y4 ++ ([r1084.1] : List Z8)))], []⟩) (e := .normal) (s1 := (Qaa a0 a1 a2 (y4 ++ ([r1084.1] : List Z8)) (w64 (x52 + 1)))) (an (an (ti tt) (an (an (dt h1075) tt) (an (an (ti (an h1076 (an e1077 (ti (ti (ti tt)))))) (an (an (ti (ti (an e1079 (ti (an e1082 (ti tt)))))) (an (ti (ti tt)) (an (Q5 (dt h1083)) tt))) (an e1087 (an (an (ti (ti tt)) (an (Q5 (dt h1088)) tt)) (ti (ti (ti (ti (an e1090 (ti (ti tt))))))))))) (ti (ti tt))))) (ti (an (show [vi a2.e1, VV.rf 4 0 (y4.length + 1)] = [vi a2.e1, VV.rf 4 0 ((y4 ++ ([r1084.1] : List Z8)).length)] from (by first | rfl | simp)) (an (show (flatMap Qah y4) ++ [vs r1084.1.SkyTarget.Name, vi r1084.1.SkyTarget.Azimuth, vi r1084.1.SkyTarget.Height, vi r1084.1.SkyTarget.From, vi r1084.1.SkyTarget.To, vi r1084.1.SkyTarget.Dwell, VV.fr (List.map vi r1084.1.turns) r1084.1.turns.length, VV.fr (List.map vi r1084.1.positions) r1084.1.positions.length] = flatMap Qah (y4 ++ ([r1084.1] : List Z8)) from (by rw [show [vs r1084.1.SkyTarget.Name, vi r1084.1.SkyTarget.Azimuth, vi r1084.1.SkyTarget.Height, vi r1084.1.SkyTarget.From, vi r1084.1.SkyTarget.To, vi r1084.1.SkyTarget.Dwell, VV.fr (List.map vi r1084.1.turns) r1084.1.turns.length, VV.fr (List.map vi r1084.1.positions) r1084.1.positions.length] = flatMap Qah ([r1084.1] : List Z8) from rfl]; exact List.flatMap_append.symm)) tt)))) (by kernel_rfl)
     cases r with
     | inl r => exact Qy pm pn hv hq h2
     | inr r =>
      exact Qy pm pn hv hq h2
    ·injection h with h; subst h
     exact Qz (c := ⟨[(6, none), (7, none), (8, none)], [none, none, none], []⟩) (s1 := (Wi a0 a1 a2 (x52, r1084.2))) pm pn (ans := [.reg (.n :: []), .br true, .reg (.n :: .n :: .v (VV.ag (Qh (a1.getD x52.toNat default))) :: nN 3 []), .reg (Qwa a1 x52 r1080), .reg (.n :: .n :: []), .br false, .reg (nN 3 (.call (VV.tu [VV.ag (Qah r1084.1), vi r1084.2]) :: nN 6 [])), .reg (.n :: .n :: []), .br true, .reg (nN 6 [])]) (by kernel_rfl) (by intro e; cases e) (an (an (ti tt) (an (an (dt h1075) tt) (an (ti (an h1076 (an e1077 (ti (ti (ti tt)))))) (an (an (ti (ti (an e1079 (ti (an e1082 (ti tt)))))) (an (ti (ti tt)) (an (Q5 (dt h1083)) tt))) (an e1087 (an (ti (ti tt)) (an (Z5 (df h1088)) (an (ti (ti (ti (ti (ti (ti tt)))))) tt)))))))) (ti tt))
   ·injection h with h; subst h
    exact Qz (c := ⟨[(6, none), (7, none), (8, none)], [none, none, none], []⟩) (s1 := (Wi a0 a1 a2 (x52, r1080))) pm pn (ans := [.reg (.n :: []), .br true, .reg (.n :: .n :: .v (VV.ag (Qh (a1.getD x52.toNat default))) :: nN 3 []), .reg (Qwa a1 x52 r1080), .reg (.n :: .n :: []), .br true, .reg (nN 6 [])]) (by kernel_rfl) (by intro e; cases e) (an (an (ti tt) (an (an (dt h1075) tt) (an (ti (an h1076 (an e1077 (ti (ti (ti tt)))))) (an (ti (ti (an e1079 (ti (an e1082 (ti tt)))))) (an (ti (ti tt)) (an (Z5 (df h1083)) (an (ti (ti (ti (ti (ti (ti tt)))))) tt))))))) (ti tt))
  ·injection h with h; subst h
   exact Qz (c := ⟨[(6, none), (13, none)], [none, none, none, none, none], []⟩) (s1 := (Qba a0 a1 a2 y4)) pm pn (ans := [.reg (.n :: []), .br false]) (by kernel_rfl) (by intro e; cases e) (an (an (ti tt) (an (df h1075) tt)) (ti tt))
theorem Q2d (z0 : A26) (z1 : (List Z8)) : VV.tu [VV.ag [vi z0.e1, VV.fw 8 (List.drop 0 (List.map unfr (flatMap Qah z1))) z1.length], vi 0, vi 0] = VV.tu [VV.ag [vi ((⟨z0.e1, z1⟩ : Zy).begin), VV.fw 8 (flatMap Qw ((⟨z0.e1, z1⟩ : Zy).stops)) (((⟨z0.e1, z1⟩ : Zy).stops).length)], vi 0, vi 0] := by first | rfl | (simp only [Qea, Qm, map_cons, map_nil, un_i, length_map, length_cons, length_nil, Qa4, Qa5]; done) | (simp only [Qea, Qm, map_cons, map_nil, un_i, length_map, length_cons, length_nil, Qa4, Qa5]; rfl) | (simp only [Qea, Qm, map_cons, map_nil, un_i, length_map, length_cons, length_nil, Qa4, Qa5, Qah, Qw, length_cons, length_nil, length_append]; done)
def Qan (k : Nat) (a0 : Qc) (a1 : (List Qa)) (a2 : A26) : Option (Zy × Int × Int) :=
 (Qag k a0).bind fun r1011 => (if r1011 = 0 then ((Qb9 k a2.e0).bind fun r1017 => (if r1017 = 0 then ((Zc k a0.Least a0.Most ([a2.e1] : List Int)).bind fun r1021 => (if r1021 = true then (if 20 < (a1.length : Int) then (some ((⟨0, []⟩ : Zy), 0, 8)) else ((Xp k a0 a1 a2 k ([] : List Z8) 0).bind fun r1092 => (match r1092 with | .inl r1093 => (some ((⟨0, []⟩ : Zy), r1093.1, r1093.2)) | .inr r1094 => (some ((⟨a2.e1, r1094⟩ : Zy), 0, 0))))) else (some ((⟨0, []⟩ : Zy), 0, 2)))) else (some ((⟨0, []⟩ : Zy), 0, r1017)))) else (some ((⟨0, []⟩ : Zy), 0, r1011)))
theorem Qda (k : Nat) (a0 : Qc) (a1 : (List Qa)) (a2 : A26) (r : (Zy × Int × Int)) (h : Qan k a0 a1 a2 = some r) : VC Try.prog 22 [VV.ag (Zq a0), VV.tr (flatMap Qh a1) a1.length, VV.ag (Qdw a2)] (VV.tu [VV.ag [vi r.1.begin, VV.fw 8 (flatMap Qw r.1.stops) r.1.stops.length], vi r.2.1, vi r.2.2]) := by
 unfold Qan at h
 obtain ⟨r1011, h1012, h⟩ := bs h
 have e1013 := (ti (an (Qg1 k a0 _ h1012) (ti tt)))
 rcases ifs h with ⟨h1014, h⟩ | ⟨h1014, h⟩
 ·have e1015 := (show (0:Int) <= 0 /\ (0:Int) < ((2 : Nat) : Int) from ⟨by decide, by decide⟩)
  have e1016 := (show (0:Int) <= 1 /\ (1:Int) < ((2 : Nat) : Int) from ⟨by decide, by decide⟩)
  obtain ⟨r1017, h1018, h⟩ := bs h
  have e1019 := (ti (an (Qia k a2.e0 _ h1018) (ti tt)))
  rcases ifs h with ⟨h1020, h⟩ | ⟨h1020, h⟩
  ·obtain ⟨r1021, h1022, h⟩ := bs h
   have e1023 := (VC.args (Zo k a0.Least a0.Most ([a2.e1] : List Int) _ h1022) (Q2b a0 a2))
   have e1024 := (ti (ti (ti (ti (ti (ti (an e1023 (ti tt))))))))
   rcases ifs h with ⟨h1025, h⟩ | ⟨h1025, h⟩
   ·rcases ifs h with ⟨h1026, h⟩ | ⟨h1026, h⟩
    ·injection h with h; subst h
     exact Qk pm pn Try.func22 (r0 := VV.tu [VV.ag [vi 0, VV.c (.slice none 0 0)], vi 0, vi 8]) (ans := [.reg (nN 5 []), .reg (.n :: .call (vi r1011) :: .n :: []), .reg (.n :: .n :: []), .br false, .reg (nN 6 []), .reg (.n :: .call (vi r1017) :: .n :: []), .reg (.n :: .n :: []), .br false, .reg (nN 5 (.v VV.any :: .call (vb r1021) :: .n :: [])), .br false, .reg (nN 3 []), .br true, .reg (nN 4 [])]) (fr := true) (by kernel_rfl) (an (an (ti (ti (ti (ti (ti tt))))) (an (an e1013 (an (ti (ti tt)) (an (Q5 (dt h1014)) tt))) (an (an e1015 (ti (an e1016 (ti (ti (ti tt)))))) (an (an e1019 (an (ti (ti tt)) (an (Q5 (dt h1020)) tt))) (an (an e1024 (an (Q5 h1025) tt)) (an (ti (ti (ti tt))) (an (dt h1026) (an (ti (ti (ti (ti tt)))) tt)))))))) (an (ti (ti (ti tt))) (ti (ti tt)))) (Wv.tuL (.cons (Wv.agL (.cons (Wv.of_eq Qpe) (.cons Wv.Qka .nil))) (.cons (Wv.refl _) (.cons (Wv.refl _) .nil))))
    ·obtain ⟨r1092, h1091, h⟩ := bs h
     have hph1091 := Qgj k a0 a1 a2 _ _ _ _ h1091
     cases r1092 with
     | inl r1093 =>
      dsimp only at h
      have e1095 := (an (ti tt) (VRun.loop hph1091))
      injection h with h; subst h
      exact Qk pm pn Try.func22 (r0 := VV.tu [VV.ag [vi 0, VV.c (.slice none 0 0)], vi r1093.1, vi r1093.2]) (ans := [.reg (nN 5 []), .reg (.n :: .call (vi r1011) :: .n :: []), .reg (.n :: .n :: []), .br false, .reg (nN 6 []), .reg (.n :: .call (vi r1017) :: .n :: []), .reg (.n :: .n :: []), .br false, .reg (nN 5 (.v VV.any :: .call (vb r1021) :: .n :: [])), .br false, .reg (nN 3 []), .br false, .reg (nN 4 []), .reg (nN 3 []), .sub ⟨[(1, none), (3, none), (6, none), (10, none), (13, none), (50, none), (51, none), (52, none)], [none, none, none, none], [.b 3 1 8]⟩ .ret (Wi a0 a1 a2 r1093)]) (fr := true) (by kernel_rfl) (an (an (ti (ti (ti (ti (ti tt))))) (an (an e1013 (an (ti (ti tt)) (an (Q5 (dt h1014)) tt))) (an (an e1015 (ti (an e1016 (ti (ti (ti tt)))))) (an (an e1019 (an (ti (ti tt)) (an (Q5 (dt h1020)) tt))) (an (an e1024 (an (Q5 h1025) tt)) (an (an (ti (ti (ti tt))) (an (df h1026) tt)) (an (ti (ti (ti (ti tt)))) (an (ti (ti (ti tt))) e1095)))))))) (an (ti (ti (ti tt))) (ti (ti tt)))) (Wv.tuL (.cons (Wv.agL (.cons (Wv.of_eq Qpe) (.cons Wv.Qka .nil))) (.cons (Wv.refl _) (.cons (Wv.refl _) .nil))))
     | inr r1094 =>
      dsimp only at h
      have e1096 := (an (ti tt) (VRun.loop hph1091))
      injection h with h; subst h
      exact Qk pm pn Try.func22 (r0 := VV.tu [VV.ag [vi a2.e1, VV.fw 8 (List.drop 0 (List.map unfr (flatMap Qah r1094))) r1094.length], vi 0, vi 0]) (ans := [.reg (nN 5 []), .reg (.n :: .call (vi r1011) :: .n :: []), .reg (.n :: .n :: []), .br false, .reg (nN 6 []), .reg (.n :: .call (vi r1017) :: .n :: []), .reg (.n :: .n :: []), .br false, .reg (nN 5 (.v VV.any :: .call (vb r1021) :: .n :: [])), .br false, .reg (nN 3 []), .br false, .reg (nN 4 []), .reg (nN 3 []), .sub ⟨[(1, none), (3, none), (6, none), (10, none), (13, none), (50, none), (51, none), (52, none)], [none, none, none, none], [.b 3 1 8]⟩ (.exit 0) (Qba a0 a1 a2 r1094), .reg (nN 4 [])]) (fr := true) (by kernel_rfl) (an (an (ti (ti (ti (ti (ti tt))))) (an (an e1013 (an (ti (ti tt)) (an (Q5 (dt h1014)) tt))) (an (an e1015 (ti (an e1016 (ti (ti (ti tt)))))) (an (an e1019 (an (ti (ti tt)) (an (Q5 (dt h1020)) tt))) (an (an e1024 (an (Q5 h1025) tt)) (an (an (ti (ti (ti tt))) (an (df h1026) tt)) (an (ti (ti (ti (ti tt)))) (an (an (ti (ti (ti tt))) e1096) (an (ti (ti (ti (ti tt)))) tt))))))))) (an (ti (ti (an (show List.all (flatMap Qah r1094) new0 = true from (by exact Qpf _)) tt))) (ti (ti tt)))) (Wv.of_eq (Q2d a2 r1094))
   ·injection h with h; subst h
    exact Qk pm pn Try.func22 (r0 := VV.tu [VV.ag [vi 0, VV.c (.slice none 0 0)], vi 0, vi 2]) (ans := [.reg (nN 5 []), .reg (.n :: .call (vi r1011) :: .n :: []), .reg (.n :: .n :: []), .br false, .reg (nN 6 []), .reg (.n :: .call (vi r1017) :: .n :: []), .reg (.n :: .n :: []), .br false, .reg (nN 5 (.v VV.any :: .call (vb r1021) :: .n :: [])), .br true, .reg (nN 4 [])]) (fr := true) (by kernel_rfl) (an (an (ti (ti (ti (ti (ti tt))))) (an (an e1013 (an (ti (ti tt)) (an (Q5 (dt h1014)) tt))) (an (an e1015 (ti (an e1016 (ti (ti (ti tt)))))) (an (an e1019 (an (ti (ti tt)) (an (Q5 (dt h1020)) tt))) (an e1024 (an (Z5 (Zb h1025)) (an (ti (ti (ti (ti tt)))) tt))))))) (an (ti (ti (ti tt))) (ti (ti tt)))) (Wv.tuL (.cons (Wv.agL (.cons (Wv.of_eq Qpe) (.cons Wv.Qka .nil))) (.cons (Wv.refl _) (.cons (Wv.refl _) .nil))))
  ·injection h with h; subst h
   exact Qk pm pn Try.func22 (r0 := VV.tu [VV.ag [vi 0, VV.c (.slice none 0 0)], vi 0, vi r1017]) (ans := [.reg (nN 5 []), .reg (.n :: .call (vi r1011) :: .n :: []), .reg (.n :: .n :: []), .br false, .reg (nN 6 []), .reg (.n :: .call (vi r1017) :: .n :: []), .reg (.n :: .n :: []), .br true, .reg (nN 5 [])]) (fr := true) (by kernel_rfl) (an (an (ti (ti (ti (ti (ti tt))))) (an (an e1013 (an (ti (ti tt)) (an (Q5 (dt h1014)) tt))) (an (an e1015 (ti (an e1016 (ti (ti (ti tt)))))) (an e1019 (an (ti (ti tt)) (an (Z5 (df h1020)) (an (ti (ti (ti (ti (ti tt))))) tt))))))) (an (ti (ti (ti tt))) (ti (ti tt)))) (Wv.tuL (.cons (Wv.agL (.cons (Wv.of_eq Qpe) (.cons Wv.Qka .nil))) (.cons (Wv.refl _) (.cons (Wv.refl _) .nil))))
 ·injection h with h; subst h
  exact Qk pm pn Try.func22 (r0 := VV.tu [VV.ag [vi 0, VV.c (.slice none 0 0)], vi 0, vi r1011]) (ans := [.reg (nN 5 []), .reg (.n :: .call (vi r1011) :: .n :: []), .reg (.n :: .n :: []), .br true, .reg (nN 5 [])]) (fr := true) (by kernel_rfl) (an (an (ti (ti (ti (ti (ti tt))))) (an e1013 (an (ti (ti tt)) (an (Z5 (df h1014)) (an (ti (ti (ti (ti (ti tt))))) tt))))) (an (ti (ti (ti tt))) (ti (ti tt)))) (Wv.tuL (.cons (Wv.agL (.cons (Wv.of_eq Qpe) (.cons Wv.Qka .nil))) (.cons (Wv.refl _) (.cons (Wv.refl _) .nil))))
end Go.Proofs.Ytbgajdbpdhipiaa.Vg

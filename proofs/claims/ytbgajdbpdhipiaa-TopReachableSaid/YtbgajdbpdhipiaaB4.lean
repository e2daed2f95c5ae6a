import Derived.Test.YtbgajdbpdhipiaaB2
namespace Go.Proofs.Ytbgajdbpdhipiaa.Vg
set_option maxRecDepth 100000
set_option maxHeartbeats 4000000
set_option linter.unusedVariables false
set_option linter.unusedSimpArgs false
open Go Go.Proofs.Ytbgajdbpdhipiaa.Ev Go.Proofs.Ytbgajdbpdhipiaa.Vv
open List (flatMap length_cons length_nil length_map length_append map_cons map_nil length_replicate)
structure Qad where
 Mount : Qd
 Targets : (List Qa)
 At : A26
 deriving Inhabited
def Qdo (x : Qad) : List VV := [vi x.Mount.Least, vi x.Mount.Most, vi x.Mount.Low, vi x.Mount.High, vi x.Mount.Speed, VV.tr (flatMap Zd x.Mount.Refraction) x.Mount.Refraction.length, VV.tr (flatMap Zd x.Mount.Drift) x.Mount.Drift.length, VV.tr (flatMap Qb x.Targets) x.Targets.length, vi x.At.e0, vi x.At.e1]
def Q1o (x : Qad) : List VV := [vi x.Mount.Least, vi x.Mount.Most, vi x.Mount.Low, vi x.Mount.High, vi x.Mount.Speed, VV.fr (flatMap Zd x.Mount.Refraction) x.Mount.Refraction.length, VV.fr (flatMap Zd x.Mount.Drift) x.Mount.Drift.length, VV.fr (flatMap Qb x.Targets) x.Targets.length, vi x.At.e0, vi x.At.e1]
theorem Qew (xs : List Qad) : (xs.flatMap Qdo).map unfr = xs.flatMap Qdo := Qba (fun _ => rfl) xs
theorem Qex (xs : List Qad) : (xs.flatMap Q1o).map unfr = xs.flatMap Qdo := Qba (fun _ => rfl) xs
structure Xp where
 begin : Int
 stops : (List Xe)
 deriving Inhabited
def Xi (x : Xp) : List VV := [vi x.begin, VV.tr (flatMap Zb x.stops) x.stops.length]
def Qcv (x : Xp) : List VV := [vi x.begin, VV.fr (flatMap Zb x.stops) x.stops.length]
theorem Qbk (xs : List Xp) : (xs.flatMap Xi).map unfr = xs.flatMap Xi := Qba (fun _ => rfl) xs
theorem Qey (xs : List Xp) : (xs.flatMap Qcv).map unfr = xs.flatMap Xi := Qba (fun _ => rfl) xs
theorem ag9 : Qct Try.prog 9 = some false := by kernel_rfl
theorem ag51 : Qct Try.prog 51 = some true := by kernel_rfl
theorem sz51 : szOf Try.prog 51 = some 6 := by kernel_rfl
def Jl (a0 : Qad) (x3 : Int) : VS := ⟨mkA [(1, VV.pt 0 0), (3, vi x3)], [some ⟨true, 1, Qdo a0⟩], .nil⟩
def Yz (a0 : Qad) (r : Unit) : VS := ⟨mkA [(2, vb false)], [], .nil⟩
def Xh (a0 : Qad) (r : Unit) : VS := ⟨mkA [(1, VV.pt 0 0)], [some ⟨true, 1, Qdo a0⟩], .nil⟩
def Zu (k : Nat) (a0 : Qad) : Nat -> Int -> Option (Sum Unit Unit)
 | 0, _ => none
 | fuel + 1, x3 => if x3 < (a0.Targets.length : Int) then (if 0 <= x3 /\ x3 < (a0.Targets.length : Int) then (if 30 < (((a0.Targets.getD x3.toNat default).Name).size : Int) then (some (.inl ())) else (Zu k a0 fuel (w64 (x3 + 1)))) else none) else (some (.inr ()))
theorem Qd9 (k : Nat) (a0 : Qad) : ∀ (fuel : Nat) (x3 : Int) (r : Sum Unit Unit), Zu k a0 fuel x3 = some r -> (match r with | .inl r => J9 none Try.prog (szF Try.f6) (X9 Try.f6 0) (Jl a0 x3) .ret (Yz a0 r) | .inr r => J9 none Try.prog (szF Try.f6) (X9 Try.f6 0) (Jl a0 x3) (.exit 0) (Xh a0 r)) := by
 intro fuel
 induction fuel with
 | zero => intro x3 r h; rw [Zu.eq_1] at h; cases h
 | succ fuel ih =>
  intro x3 r h
  rw [Zu.eq_2] at h
  rcases ifs h with ⟨h808, h⟩ | ⟨h808, h⟩
  ·obtain ⟨h809, h⟩ := ifn h
   have e810 := (show Ze Try.prog 9 (x3.toNat * 6 + 0) (flatMap Qb a0.Targets) = some (vs ((a0.Targets.getD x3.toNat default).Name)) from (Ya ag9 Qb 6 0 Qs (by omega) a0.Targets default h809 (by omega)).trans rfl)
   have e811 := (t3 (an h809 (ti (an e810 (t2 tt)))))
   rcases ifs h with ⟨h812, h⟩ | ⟨h812, h⟩
   ·injection h with h; subst h
    exact Qj (c := ⟨[(2, none)], [], []⟩) (s1 := (Yz a0 ())) pm pn (ans := [.reg (nN 5 []), .br true, .reg (nN 5 (.v (vs ((a0.Targets.getD x3.toNat default).Name)) :: .n :: .n :: [])), .br true, .reg (.n :: [])]) (by kernel_rfl) (by intro e; cases e) (an (an (an (t5 tt) (te h808)) (an e811 (an (dt h812) (an (ti tt) tt)))) (ti tt))
   ·have h2 := ih _ _ h
    obtain ⟨q, hv, hq⟩ := pkR (rd := none) (P := Try.prog) (fn := Try.f6) (k := 0) (s := (Jl a0 x3)) (ans := [.reg (nN 5 []), .br true, .reg (nN 5 (.v (vs ((a0.Targets.getD x3.toNat default).Name)) :: .n :: .n :: [])), .br false, .reg (nN 3 [])]) (c := ⟨[(1, none), (3, none)], [none], []⟩) (e := .normal) (s1 := (Jl a0 (w64 (x3 + 1)))) (an (an (an (t5 tt) (te h808)) (an (an e811 (tf h812)) (t3 tt))) (ti tt)) (by kernel_rfl)
    cases r with
    | inl r => exact Qv pm pn hv hq h2
    | inr r =>
     exact Qv pm pn hv hq h2
  ·injection h with h; subst h
   exact Qj (c := ⟨[(1, none)], [none], []⟩) (s1 := (Xh a0 ())) pm pn (ans := [.reg (nN 5 []), .br false]) (by kernel_rfl) (by intro e; cases e) (an (an (t5 tt) (tf h808)) (ti tt))
def Q28 (z0 : Bool) : List Ans := (.n :: .n :: .call (vb z0) :: nN 7 (.skip :: .skip :: .b false :: .b false :: .b true :: .n :: []))
def Yq (k : Nat) (a0 : Qad) : Option Bool :=
 (Zu k a0 k 0).bind fun r814 => (match r814 with | .inl r815 => (some false) | .inr r816 => ((Yp k a0.Mount).bind fun r819 => (if r819 = true then (if (a0.Targets.length : Int) <= 5 then (some true) else (if 20 < (a0.Targets.length : Int) then (some (decide ((a0.Targets.length : Int) <= 23))) else (some false))) else (some false))))
theorem Qcm (k : Nat) (a0 : Qad) (r : Bool) (h : Yq k a0 = some r) : VC Try.prog 6 [VV.ag (Qdo a0)] (vb r) := by
 unfold Yq at h
 obtain ⟨r814, h813, h⟩ := bs h
 have hph813 := Qd9 k a0 _ _ _ h813
 cases r814 with
 | inl r815 =>
  dsimp only at h
  have e817 := (an (ti tt) (VRun.loop hph813))
  injection h with h; subst h
  exact Qo pm pn Try.func6 (r0 := vb false) (ans := [.reg (.n :: .n :: []), .reg (.n :: []), .sub ⟨[(1, none), (3, none)], [none], []⟩ .ret (Yz a0 r815)]) (fr := true) (by kernel_rfl) (an (an (t2 tt) (an (ti tt) e817)) (ti tt)) (Wv.refl _)
 | inr r816 =>
  dsimp only at h
  have e818 := (an (ti tt) (VRun.loop hph813))
  obtain ⟨r819, h820, h⟩ := bs h
  have e821 := (Qf9 k a0.Mount _ h820)
  rcases ifs h with ⟨h822, h⟩ | ⟨h822, h⟩
  ·rcases ifs h with ⟨h823, h⟩ | ⟨h823, h⟩
   ·have e824 := (t2 (an e821 (ti (u3 (an h822 tt) (u3 (dt h823) (t2 (an (dt h823) (an (an h822 (dt h823)) (an h822 (ti tt))))))))))
    injection h with h; subst h
    exact Qo pm pn Try.func6 (r0 := vb true) (ans := [.reg (.n :: .n :: []), .reg (.n :: []), .sub ⟨[(1, none), (3, none)], [none], []⟩ (.exit 0) (Xh a0 r816), .reg (nN 4 []), .reg (.n :: .n :: .call (vb r819) :: nN 4 (nS 6 (.b true :: .b true :: .n :: [])))]) (fr := true) (by kernel_rfl) (an (an (t2 tt) (an (an (ti tt) e818) (an (t4 tt) (an e824 tt)))) (ti tt)) (Wv.refl _)
   ·rcases ifs h with ⟨h825, h⟩ | ⟨h825, h⟩
    ·have e826 := (an (df h823) (dt h825))
     have e827 := (t2 (an e821 (ti (u3 (an h822 tt) (u3 (tf h823) (u2 (te h825) (an e826 (an (an h822 (df h823)) (an h822 (ti tt))))))))))
     injection h with h; subst h
     exact Qo pm pn Try.func6 (r0 := vb (decide ((a0.Targets.length : Int) <= 23))) (ans := [.reg (.n :: .n :: []), .reg (.n :: []), .sub ⟨[(1, none), (3, none)], [none], []⟩ (.exit 0) (Xh a0 r816), .reg (nN 4 []), .reg (.n :: .n :: .call (vb r819) :: nN 9 (.b true :: .b false :: .b true :: .n :: []))]) (fr := true) (by kernel_rfl) (an (an (t2 tt) (an (an (ti tt) e818) (an (t4 tt) (an e827 tt)))) (ti tt)) (Wv.refl _)
    ·have e828 := (an (df h823) (df h825))
     have e829 := (t2 (an e821 (ti (u3 (an h822 tt) (u3 (tf h823) (u2 (df h825) (an e828 (an (an h822 (df h823)) (an h822 (ti tt))))))))))
     injection h with h; subst h
     exact Qo pm pn Try.func6 (r0 := vb false) (ans := [.reg (.n :: .n :: []), .reg (.n :: []), .sub ⟨[(1, none), (3, none)], [none], []⟩ (.exit 0) (Xh a0 r816), .reg (nN 4 []), .reg (Q28 r819)]) (fr := true) (by kernel_rfl) (an (an (t2 tt) (an (an (ti tt) e818) (an (t4 tt) (an e829 tt)))) (ti tt)) (Wv.refl _)
  ·have e830 := (t2 (an e821 (ti (u3 (Qy h822) (t6 (u2 (Qy h822) (ti tt)))))))
   injection h with h; subst h
   exact Qo pm pn Try.func6 (r0 := vb false) (ans := [.reg (.n :: .n :: []), .reg (.n :: []), .sub ⟨[(1, none), (3, none)], [none], []⟩ (.exit 0) (Xh a0 r816), .reg (nN 4 []), .reg (.n :: .n :: .call (vb r819) :: .n :: nS 10 (.b false :: .n :: []))]) (fr := true) (by kernel_rfl) (an (an (t2 tt) (an (an (ti tt) e818) (an (t4 tt) (an e830 tt)))) (ti tt)) (Wv.refl _)
theorem Q29 (z0 : Int) : [vi 0, vi 100000, VV.tr (List.map vi ([z0] : List Int)) (([z0] : List Int).length)] = [vi 0, vi 100000, VV.tr [vi z0] 1] := by first | rfl | (simp only [Qn, map_cons, map_nil, un_i, Ji, length_map, length_cons, length_nil]; done) | (simp only [Qn, map_cons, map_nil, un_i, Ji, length_map, length_cons, length_nil]; rfl) | (simp only [Qn, map_cons, map_nil, un_i, Ji, length_map, length_cons, length_nil, length_cons, length_nil, length_append]; done)
def Wh (k : Nat) (a0 : Int) : Option Int :=
 (Zh k 0 100000 ([a0] : List Int)).bind fun r841 => (if r841 = true then (some 0) else (some 2))
theorem Qeu (k : Nat) (a0 : Int) (r : Int) (h : Wh k a0 = some r) : VC Try.prog 40 [vi a0] (vi r) := by
 unfold Wh at h
 obtain ⟨r841, h842, h⟩ := bs h
 have e843 := (VC.args (Zo k 0 100000 ([a0] : List Int) _ h842) (Q29 a0))
 rcases ifs h with ⟨h844, h⟩ | ⟨h844, h⟩
 ·injection h with h; subst h
  exact Qo pm pn Try.func40 (r0 := vi 0) (ans := [.reg (.n :: []), .reg (.n :: .v VV.any :: .call (vb r841) :: .n :: []), .br false, .reg (.n :: [])]) (fr := true) (by kernel_rfl) (an (an (ti tt) (an (an (t2 (an e843 (ti tt))) (an (Qi h844) tt)) (an (ti tt) tt))) (ti tt)) (Wv.refl _)
 ·injection h with h; subst h
  exact Qo pm pn Try.func40 (r0 := vi 2) (ans := [.reg (.n :: []), .reg (.n :: .v VV.any :: .call (vb r841) :: .n :: []), .br true, .reg (.n :: [])]) (fr := true) (by kernel_rfl) (an (an (ti tt) (an (t2 (an e843 (ti tt))) (an (Qq (Qy h844)) (an (ti tt) tt)))) (ti tt)) (Wv.refl _)
theorem Q3a (z0 : Qd) (z1 : A26) : [vi z0.Least, vi z0.Most, VV.tr (List.map vi ([z1.e1] : List Int)) (([z1.e1] : List Int).length)] = [vi z0.Least, vi z0.Most, VV.tr [vi z1.e1] 1] := by first | rfl | (simp only [Qn, map_cons, map_nil, un_i, Ji, length_map, length_cons, length_nil]; done) | (simp only [Qn, map_cons, map_nil, un_i, Ji, length_map, length_cons, length_nil]; rfl) | (simp only [Qn, map_cons, map_nil, un_i, Ji, length_map, length_cons, length_nil, length_cons, length_nil, length_append]; done)
def Qbx (k : Nat) (a0 : Qa) (q0_0 : ByteArray) (q0_1 : Int) (q0_2 : Int) (q0_3 : Int) (q0_4 : Int) (q0_5 : Int) : Option Bool :=
 some (decide (a0.Name = q0_0))
theorem Qga (k : Nat) (a0 : Qa) (q0_0 : ByteArray) (q0_1 : Int) (q0_2 : Int) (q0_3 : Int) (q0_4 : Int) (q0_5 : Int) (r : Bool) (h : Qbx k a0 q0_0 q0_1 q0_2 q0_3 q0_4 q0_5 = some r) : VC Try.prog 52 [VV.ag (Qb a0), VV.tp [vs q0_0, vi q0_1, vi q0_2, vi q0_3, vi q0_4, vi q0_5] 0] (vb r) := by
 unfold Qbx at h
 have e869 := (show Ze Try.prog 9 0 [vs q0_0, vi q0_1, vi q0_2, vi q0_3, vi q0_4, vi q0_5] = some (vs q0_0) from (Qfr ag9 rfl))
 injection h with h; subst h
 exact Qo pm pn Try.func52 (r0 := vb (decide (a0.Name = q0_0))) (ans := [.reg (.n :: .n :: []), .reg (nN 3 (.v (vs q0_0) :: .n :: .n :: []))]) (fr := true) (by kernel_rfl) (an (an (t2 tt) (an (t3 (an e869 (t2 tt))) tt)) (ti tt)) (Wv.refl _)
def Qr (a0 : (List Qa)) (a1 : (ByteArray × Int × Int × Int × Int × Int)) (x8 : Int) : VS := ⟨mkA [(0, VV.tr (flatMap Qb a0) a0.length), (1, VV.fn 52 [VV.tp [vs a1.1, vi a1.2.1, vi a1.2.2.1, vi a1.2.2.2.1, vi a1.2.2.2.2.1, vi a1.2.2.2.2.2] 0]), (7, vi (a0.length : Int)), (8, vi x8)], [], .nil⟩
def Q9 (a0 : (List Qa)) (a1 : (ByteArray × Int × Int × Int × Int × Int)) (r : Int) : VS := ⟨mkA [(4, vi r)], [], .nil⟩
def Za (a0 : (List Qa)) (a1 : (ByteArray × Int × Int × Int × Int × Int)) (r : Unit) : VS := ⟨mkA [], [], .nil⟩
def Qe (k : Nat) (a0 : (List Qa)) (a1 : (ByteArray × Int × Int × Int × Int × Int)) : Nat -> Int -> Option (Sum Int Unit)
 | 0, _ => none
 | fuel + 1, x8 => if x8 < (a0.length : Int) then (if 0 <= x8 /\ x8 < (a0.length : Int) then ((Qbx k (a0.getD x8.toNat default) a1.1 a1.2.1 a1.2.2.1 a1.2.2.2.1 a1.2.2.2.2.1 a1.2.2.2.2.2).bind fun r916 => (if r916 = true then (some (.inl x8)) else (Qe k a0 a1 fuel (w64 (x8 + 1))))) else none) else (some (.inr ()))
theorem Xv (k : Nat) (a0 : (List Qa)) (a1 : (ByteArray × Int × Int × Int × Int × Int)) : ∀ (fuel : Nat) (x8 : Int) (r : Sum Int Unit), Qe k a0 a1 fuel x8 = some r -> (match r with | .inl r => J9 none Try.prog (szF Try.f57) (X9 Try.f57 0) (Qr a0 a1 x8) .ret (Q9 a0 a1 r) | .inr r => J9 none Try.prog (szF Try.f57) (X9 Try.f57 0) (Qr a0 a1 x8) (.exit 0) (Za a0 a1 r)) := by
 intro fuel
 induction fuel with
 | zero => intro x8 r h; rw [Qe.eq_1] at h; cases h
 | succ fuel ih =>
  intro x8 r h
  rw [Qe.eq_2] at h
  rcases ifs h with ⟨h913, h⟩ | ⟨h913, h⟩
  ·obtain ⟨h914, h⟩ := ifn h
   have e915 := (show Ze Try.prog 51 (x8.toNat * 6) (flatMap Qb a0) = some (VV.ag (Qb (a0.getD x8.toNat default))) from Qbb ag51 Qb 6 sz51 Qs a0 default h914 (by omega))
   obtain ⟨r916, h917, h⟩ := bs h
   have e918 := (Qga k (a0.getD x8.toNat default) a1.1 a1.2.1 a1.2.2.1 a1.2.2.2.1 a1.2.2.2.2.1 a1.2.2.2.2.2 _ h917)
   have e919 := (t3 (an h914 (an e915 (an e918 tt))))
   rcases ifs h with ⟨h920, h⟩ | ⟨h920, h⟩
   ·injection h with h; subst h
    exact Qj (c := ⟨[(4, none)], [], []⟩) (s1 := (Q9 a0 a1 x8)) pm pn (ans := [.reg (.n :: []), .br true, .reg (.n :: .n :: []), .reg (nN 4 (.v (VV.ag (Qb (a0.getD x8.toNat default))) :: .call (vb r916) :: [])), .br true, .reg (.n :: .n :: [])]) (by kernel_rfl) (by intro e; cases e) (an (an (ti tt) (an (te h913) (an (t2 tt) (an e919 (an h920 (an (t2 tt) tt)))))) (ti tt))
   ·have h2 := ih _ _ h
    obtain ⟨q, hv, hq⟩ := pkR (rd := none) (P := Try.prog) (fn := Try.f57) (k := 0) (s := (Qr a0 a1 x8)) (ans := [.reg (.n :: []), .br true, .reg (.n :: .n :: []), .reg (nN 4 (.v (VV.ag (Qb (a0.getD x8.toNat default))) :: .call (vb r916) :: [])), .br false, .reg (.n :: .n :: [])]) (c := ⟨[(0, none), (1, none), (7, none), (8, none)], [], []⟩) (e := .normal) (s1 := (Qr a0 a1 (w64 (x8 + 1)))) (an (an (ti tt) (an (te h913) (an (an (t2 tt) (an e919 (an (Qy h920) tt))) (t2 tt)))) (ti tt)) (by kernel_rfl)
    cases r with
    | inl r => exact Qv pm pn hv hq h2
    | inr r =>
     exact Qv pm pn hv hq h2
  ·injection h with h; subst h
   exact Qj (c := ⟨[], [], []⟩) (s1 := (Za a0 a1 ())) pm pn (ans := [.reg (.n :: []), .br false]) (by kernel_rfl) (by intro e; cases e) (an (an (ti tt) (tf h913)) (ti tt))
def Qx (k : Nat) (a0 : (List Qa)) (a1 : (ByteArray × Int × Int × Int × Int × Int)) : Option Int :=
 (Qe k a0 a1 k 0).bind fun r922 => (match r922 with | .inl r923 => (some r923) | .inr r924 => (some (-1)))
theorem X6 (k : Nat) (a0 : (List Qa)) (a1 : (ByteArray × Int × Int × Int × Int × Int)) (r : Int) (h : Qx k a0 a1 = some r) : VC Try.prog 57 [VV.tr (flatMap Qb a0) a0.length, VV.fn 52 [VV.tp [vs a1.1, vi a1.2.1, vi a1.2.2.1, vi a1.2.2.2.1, vi a1.2.2.2.2.1, vi a1.2.2.2.2.2] 0]] (vi r) := by
 unfold Qx at h
 obtain ⟨r922, h921, h⟩ := bs h
 have hph921 := Xv k a0 a1 _ _ _ h921
 cases r922 with
 | inl r923 =>
  dsimp only at h
  have e925 := (an (ti tt) (VRun.loop hph921))
  injection h with h; subst h
  exact Qo pm pn Try.func57 (r0 := vi r923) (ans := [.reg (.n :: []), .reg (nN 3 []), .sub ⟨[(0, none), (1, none), (7, none), (8, none)], [], []⟩ .ret (Q9 a0 a1 r923)]) (fr := true) (by kernel_rfl) (an (an (ti tt) (an (t3 tt) e925)) (ti tt)) (Wv.refl _)
 | inr r924 =>
  dsimp only at h
  have e926 := (an (ti tt) (VRun.loop hph921))
  injection h with h; subst h
  exact Qo pm pn Try.func57 (r0 := vi (-1)) (ans := [.reg (.n :: []), .reg (nN 3 []), .sub ⟨[(0, none), (1, none), (7, none), (8, none)], [], []⟩ (.exit 0) (Za a0 a1 r924), .reg (.n :: [])]) (fr := true) (by kernel_rfl) (an (an (ti tt) (an (an (t3 tt) e926) (an (ti tt) tt))) (ti tt)) (Wv.refl _)
def Qu (k : Nat) (a0 : (List Qa)) (a1 : (ByteArray × Int × Int × Int × Int × Int)) : Option Bool :=
 (Qx k a0 a1).bind fun r930 => (some (decide (0 <= r930)))
theorem Xx (k : Nat) (a0 : (List Qa)) (a1 : (ByteArray × Int × Int × Int × Int × Int)) (r : Bool) (h : Qu k a0 a1 = some r) : VC Try.prog 51 [VV.tr (flatMap Qb a0) a0.length, VV.fn 52 [VV.tp [vs a1.1, vi a1.2.1, vi a1.2.2.1, vi a1.2.2.2.1, vi a1.2.2.2.2.1, vi a1.2.2.2.2.2] 0]] (vb r) := by
 unfold Qu at h
 obtain ⟨r930, h931, h⟩ := bs h
 have e932 := (X6 k a0 a1 _ h931)
 injection h with h; subst h
 exact Qo pm pn Try.func51 (r0 := vb (decide (0 <= r930))) (ans := [.reg (.n :: []), .reg (.n :: .n :: .call (vi r930) :: .n :: .n :: [])]) (fr := true) (by kernel_rfl) (an (an (ti tt) (an (t2 (an e932 (t2 tt))) tt)) (ti tt)) (Wv.refl _)
theorem Q3b (z0 : (List Qa)) (z1 : Qa) : [VV.tr (flatMap Qb z0) z0.length, VV.fn 52 [VV.tp [vs ((z1.Name, z1.Azimuth, z1.Height, z1.From, z1.To, z1.Dwell).1), vi ((z1.Name, z1.Azimuth, z1.Height, z1.From, z1.To, z1.Dwell).2.1), vi ((z1.Name, z1.Azimuth, z1.Height, z1.From, z1.To, z1.Dwell).2.2.1), vi ((z1.Name, z1.Azimuth, z1.Height, z1.From, z1.To, z1.Dwell).2.2.2.1), vi ((z1.Name, z1.Azimuth, z1.Height, z1.From, z1.To, z1.Dwell).2.2.2.2.1), vi ((z1.Name, z1.Azimuth, z1.Height, z1.From, z1.To, z1.Dwell).2.2.2.2.2)] 0]] = [VV.tr (flatMap Qb z0) z0.length, VV.fn 52 [VV.tp [vs z1.Name, vi z1.Azimuth, vi z1.Height, vi z1.From, vi z1.To, vi z1.Dwell] 0]] := by first | rfl | (simp only [Qn, Qcx, map_cons, map_nil, un_i, un_s, Ji, length_cons, length_nil, Z9]; done) | (simp only [Qn, Qcx, map_cons, map_nil, un_i, un_s, Ji, length_cons, length_nil, Z9]; rfl) | (simp only [Qn, Qcx, map_cons, map_nil, un_i, un_s, Ji, length_cons, length_nil, Z9, Qb, length_cons, length_nil, length_append]; done)
def Qae (k : Nat) (a0 : (List Qa)) (a1 : Qa) : Option Int :=
 (Yj k a1).bind fun r938 => (if r938 = 0 then ((Qu k a0 (a1.Name, a1.Azimuth, a1.Height, a1.From, a1.To, a1.Dwell)).bind fun r942 => (if r942 = true then (some 5) else (some 0))) else (some r938))
theorem Qg2 (k : Nat) (a0 : (List Qa)) (a1 : Qa) (r : Int) (h : Qae k a0 a1 = some r) : VC Try.prog 41 [VV.tr (flatMap Qb a0) a0.length, VV.ag (Qb a1)] (vi r) := by
 unfold Qae at h
 have e937 := (show Ze Try.prog 51 0 [vs a1.Name, vi a1.Azimuth, vi a1.Height, vi a1.From, vi a1.To, vi a1.Dwell] = some (VV.ag (Qb a1)) from (Q27 ag51 sz51 rfl))
 obtain ⟨r938, h939, h⟩ := bs h
 have e940 := (an e937 (an (Qde k a1 _ h939) (ti tt)))
 rcases ifs h with ⟨h941, h⟩ | ⟨h941, h⟩
 ·obtain ⟨r942, h943, h⟩ := bs h
  have e944 := (VC.args (Xx k a0 (a1.Name, a1.Azimuth, a1.Height, a1.From, a1.To, a1.Dwell) _ h943) (Q3b a0 a1))
  rcases ifs h with ⟨h945, h⟩ | ⟨h945, h⟩
  ·injection h with h; subst h
   exact Qo pm pn Try.func41 (r0 := vi 5) (ans := [.reg (.n :: .n :: []), .frz 0, .reg (.v (VV.ag (Qb a1)) :: .call (vi r938) :: .n :: []), .reg (.n :: .n :: []), .br false, .reg (.n :: .n :: .call (vb r942) :: []), .br true, .reg (.n :: [])]) (fr := true) (by kernel_rfl) (an (an (t2 tt) (an (an e940 (an (t2 tt) (ta h941))) (an (t2 (an e944 tt)) (an h945 (an (ti tt) tt))))) (ti tt)) (Wv.refl _)
  ·injection h with h; subst h
   exact Qo pm pn Try.func41 (r0 := vi 0) (ans := [.reg (.n :: .n :: []), .frz 0, .reg (.v (VV.ag (Qb a1)) :: .call (vi r938) :: .n :: []), .reg (.n :: .n :: []), .br false, .reg (.n :: .n :: .call (vb r942) :: []), .br false, .reg (.n :: [])]) (fr := true) (by kernel_rfl) (an (an (t2 tt) (an (an e940 (an (t2 tt) (ta h941))) (an (an (t2 (an e944 tt)) (an (Qy h945) tt)) (an (ti tt) tt)))) (ti tt)) (Wv.refl _)
 ·injection h with h; subst h
  exact Qo pm pn Try.func41 (r0 := vi r938) (ans := [.reg (.n :: .n :: []), .frz 0, .reg (.v (VV.ag (Qb a1)) :: .call (vi r938) :: .n :: []), .reg (.n :: .n :: []), .br true, .reg (.n :: .n :: [])]) (fr := true) (by kernel_rfl) (an (an (t2 tt) (an e940 (an (t2 tt) (an (td h941) (an (t2 tt) tt))))) (ti tt)) (Wv.refl _)
def Qwx (z0 : (List Qa)) (z1 : Int) (z2 : Int) : List Ans := (.n :: .n :: .v (VV.tr (flatMap Qb (sl z0 0 ((z1).toNat))) ((sl z0 0 ((z1).toNat)).length)) :: .n :: .call (vi z2) :: .n :: [])
theorem Qpx  : vi 0 = vi ((⟨0, []⟩ : Xp).begin) := by first | rfl | (simp only [Qn, map_cons, map_nil, un_i]; done) | (simp only [Qn, map_cons, map_nil, un_i]; rfl) | (simp only [Qn, map_cons, map_nil, un_i, length_cons, length_nil, length_append]; done)
def Qao (a0 : Qd) (a1 : (List Qa)) (a2 : A26) (y4 : List Xe) (x52 : Int) : VS := ⟨mkA [(1, VV.tr (flatMap Qb a1) a1.length), (3, VV.pt 0 0), (6, VV.pt 2 0), (10, vi a2.e0), (13, VV.pt 3 0), (50, VV.tr (flatMap Qb a1) a1.length), (51, vi (a1.length : Int)), (52, vi x52)], [some ⟨true, 1, Zf a0⟩, some ⟨true, 1, Qdy a2⟩, some ⟨true, 1, [vi 0, VV.c (.slice none 0 0)]⟩, some ⟨true, 1, [vi a2.e1, VV.rf 4 0 y4.length]⟩, some ⟨false, 8, flatMap Qac y4⟩], .nil⟩
def Qaf (a0 : Qd) (a1 : (List Qa)) (a2 : A26) (r : Int × Int) : VS := ⟨mkA [(6, VV.pt 2 0), (7, vi r.1), (8, vi r.2)], [some ⟨true, 1, Zf a0⟩, some ⟨true, 1, Qdy a2⟩, some ⟨true, 1, [vi 0, VV.c (.slice none 0 0)]⟩], .nil⟩
def Qbn (a0 : Qd) (a1 : (List Qa)) (a2 : A26) (r : (List Xe)) : VS := ⟨mkA [(6, VV.pt 2 0), (13, VV.pt 3 0)], [some ⟨true, 1, Zf a0⟩, some ⟨true, 1, Qdy a2⟩, some ⟨true, 1, [vi 0, VV.c (.slice none 0 0)]⟩, some ⟨true, 1, [vi a2.e1, VV.rf 4 0 r.length]⟩, some ⟨false, 8, flatMap Qac r⟩], .nil⟩
def Xu (k : Nat) (a0 : Qd) (a1 : (List Qa)) (a2 : A26) : Nat -> (List Xe) -> Int -> Option (Sum (Int × Int) (List Xe))
 | 0, _, _ => none
 | fuel + 1, y4, x52 => if x52 < (a1.length : Int) then (if 0 <= x52 /\ x52 < (a1.length : Int) then (if 0 <= (0 : Int) /\ (0 : Int) <= x52 /\ x52 <= (a1.length : Int) then ((Qae k (sl a1 0 ((x52).toNat)) (a1.getD x52.toNat default)).bind fun r1080 => (if r1080 = 0 then ((Qbo k a0 (a1.getD x52.toNat default) a2.e0).bind fun r1084 => (if r1084.2 = 0 then (if y4.length + ([r1084.1] : List Xe).length <= 1000000000 then (Xu k a0 a1 a2 fuel (y4 ++ ([r1084.1] : List Xe)) (w64 (x52 + 1))) else none) else (some (.inl (x52, r1084.2))))) else (some (.inl (x52, r1080))))) else none) else none) else (some (.inr y4))
theorem Qg3 (k : Nat) (a0 : Qd) (a1 : (List Qa)) (a2 : A26) : ∀ (fuel : Nat) (y4 : List Xe) (x52 : Int) (r : Sum (Int × Int) (List Xe)), Xu k a0 a1 a2 fuel y4 x52 = some r -> (match r with | .inl r => J9 none Try.prog (szF Try.f22) (X9 Try.f22 0) (Qao a0 a1 a2 y4 x52) .ret (Qaf a0 a1 a2 r) | .inr r => J9 none Try.prog (szF Try.f22) (X9 Try.f22 0) (Qao a0 a1 a2 y4 x52) (.exit 0) (Qbn a0 a1 a2 r)) := by
 intro fuel
 induction fuel with
 | zero => intro y4 x52 r h; rw [Xu.eq_1] at h; cases h
 | succ fuel ih =>
  intro y4 x52 r h
  rw [Xu.eq_2] at h
  rcases ifs h with ⟨h1075, h⟩ | ⟨h1075, h⟩
  ·obtain ⟨h1076, h⟩ := ifn h
   have e1077 := (show Ze Try.prog 51 (x52.toNat * 6) (flatMap Qb a1) = some (VV.ag (Qb (a1.getD x52.toNat default))) from Qbb ag51 Qb 6 sz51 Qs a1 default h1076 (by omega))
   obtain ⟨h1078, h⟩ := ifn h
   have e1079 := (show (True /\ 0 <= x52 /\ 0 <= (x52).toNat /\ (x52).toNat <= a1.length /\ (x52).toNat * 6 <= List.length (flatMap Qb a1)) /\ VV.tr (List.take (((x52).toNat - 0) * 6) (List.drop (0 * 6) (flatMap Qb a1))) ((x52).toNat - 0) = VV.tr (flatMap Qb (sl a1 0 ((x52).toNat))) ((sl a1 0 ((x52).toNat)).length) from ⟨⟨tt, (by have := h1078; omega), (by have := h1078; omega), (by have := h1078; omega), (by rw [Qgb Qs]; have := h1078; omega)⟩, (by exact Q1l Qs a1 0 ((x52).toNat) (by have := h1078; omega) (by have := h1078; omega))⟩)
   obtain ⟨r1080, h1081, h⟩ := bs h
   have e1082 := (Qg2 k (sl a1 0 ((x52).toNat)) (a1.getD x52.toNat default) _ h1081)
   rcases ifs h with ⟨h1083, h⟩ | ⟨h1083, h⟩
   ·obtain ⟨r1084, h1085, h⟩ := bs h
    have e1086 := (show VC Try.prog 34 [VV.ag (Zf a0), VV.ag (Qb (a1.getD x52.toNat default)), vi a2.e0] (VV.tu [VV.ag (Qac r1084.1), vi r1084.2]) from (VC.weak (Qgd k a0 (a1.getD x52.toNat default) a2.e0 _ h1085) (Wv.tuL (.cons (Wv.agL (.cons (Wv.refl _) (.cons (Wv.refl _) (.cons (Wv.refl _) (.cons (Wv.refl _) (.cons (Wv.refl _) (.cons (Wv.refl _) (.cons (Wv.fw rfl rfl) (.cons (Wv.fw rfl rfl) .nil))))))))) (.cons (Wv.refl _) .nil)))))
    have e1087 := (t3 (an e1086 (t6 tt)))
    rcases ifs h with ⟨h1088, h⟩ | ⟨h1088, h⟩
    ·obtain ⟨h1089, h⟩ := ifn h
     have e1090 := (show List.length (flatMap Qac y4) = y4.length * 8 /\ List.length [vs r1084.1.SkyTarget.Name, vi r1084.1.SkyTarget.Azimuth, vi r1084.1.SkyTarget.Height, vi r1084.1.SkyTarget.From, vi r1084.1.SkyTarget.To, vi r1084.1.SkyTarget.Dwell, VV.fr (List.map vi r1084.1.turns) r1084.1.turns.length, VV.fr (List.map vi r1084.1.positions) r1084.1.positions.length] = 1 * 8 /\ (y4.length + 1) * 104 <= 140737488355328 /\ y4.length + 1 < 1099511627776 /\ List.all [vs r1084.1.SkyTarget.Name, vi r1084.1.SkyTarget.Azimuth, vi r1084.1.SkyTarget.Height, vi r1084.1.SkyTarget.From, vi r1084.1.SkyTarget.To, vi r1084.1.SkyTarget.Dwell, VV.fr (List.map vi r1084.1.turns) r1084.1.turns.length, VV.fr (List.map vi r1084.1.positions) r1084.1.positions.length] VV.still = true from ⟨(by rw [Qgb Qlo] <;> simp), (by rw [show [vs r1084.1.SkyTarget.Name, vi r1084.1.SkyTarget.Azimuth, vi r1084.1.SkyTarget.Height, vi r1084.1.SkyTarget.From, vi r1084.1.SkyTarget.To, vi r1084.1.SkyTarget.Dwell, VV.fr (List.map vi r1084.1.turns) r1084.1.turns.length, VV.fr (List.map vi r1084.1.positions) r1084.1.positions.length] = flatMap Qac ([r1084.1] : List Xe) from rfl]; rw [Qgb Qlo] <;> simp), (by first | omega | (simp at h1089 ⊢; omega)), (by first | omega | (simp at h1089 ⊢; omega)), (by rw [show [vs r1084.1.SkyTarget.Name, vi r1084.1.SkyTarget.Azimuth, vi r1084.1.SkyTarget.Height, vi r1084.1.SkyTarget.From, vi r1084.1.SkyTarget.To, vi r1084.1.SkyTarget.Dwell, VV.fr (List.map vi r1084.1.turns) r1084.1.turns.length, VV.fr (List.map vi r1084.1.positions) r1084.1.positions.length] = flatMap Qac ([r1084.1] : List Xe) from rfl]; exact Qoj _)⟩)
     have h2 := ih _ _ _ h
     obtain ⟨q, hv, hq⟩ := pkR (rd := none) (P := Try.prog) (fn := Try.f22) (k := 0) (s := (Qao a0 a1 a2 y4 x52)) (ans := [.reg (.n :: []), .br true, .reg (.n :: .n :: .v (VV.ag (Qb (a1.getD x52.toNat default))) :: nN 3 []), .reg (Qwx a1 x52 r1080), .reg (.n :: .n :: []), .br false, .reg (nN 3 (.call (VV.tu [VV.ag (Qac r1084.1), vi r1084.2]) :: nN 6 [])), .reg (.n :: .n :: []), .br false, .reg (nN 7 []), .reg (.n :: .n :: [])]) (c := ⟨[(1, none), (3, none), (6, none), (10, none), (13, none), (50, none), (51, none), (52, none)], [none, none, none, some [vi a2.e1, VV.rf 4 0 ((y4 ++ ([r1084.1] : List Xe)).length)], some (flatMap Qac (y4 ++ ([r1084.1] : List Xe)))], []⟩) (e := .normal) (s1 := (Qao a0 a1 a2 (y4 ++ ([r1084.1] : List Xe)) (w64 (x52 + 1)))) (an (an (ti tt) (an (te h1075) (an (an (ti (an h1076 (an e1077 (t3 tt)))) (an (an (t2 (an e1079 (ti (an e1082 (ti tt))))) (an (t2 tt) (ta h1083))) (an e1087 (an (an (t2 tt) (ta h1088)) (t4 (an e1090 (t2 tt))))))) (t2 tt)))) (ti (an (show [vi a2.e1, VV.rf 4 0 (y4.length + 1)] = [vi a2.e1, VV.rf 4 0 ((y4 ++ ([r1084.1] : List Xe)).length)] from (by first | rfl | simp)) (an (show (flatMap Qac y4) ++ [vs r1084.1.SkyTarget.Name, vi r1084.1.SkyTarget.Azimuth, vi r1084.1.SkyTarget.Height, vi r1084.1.SkyTarget.From, vi r1084.1.SkyTarget.To, vi r1084.1.SkyTarget.Dwell, VV.fr (List.map vi r1084.1.turns) r1084.1.turns.length, VV.fr (List.map vi r1084.1.positions) r1084.1.positions.length] = flatMap Qac (y4 ++ ([r1084.1] : List Xe)) from (by rw [show [vs r1084.1.SkyTarget.Name, vi r1084.1.SkyTarget.Azimuth, vi r1084.1.SkyTarget.Height, vi r1084.1.SkyTarget.From, vi r1084.1.SkyTarget.To, vi r1084.1.SkyTarget.Dwell, VV.fr (List.map vi r1084.1.turns) r1084.1.turns.length, VV.fr (List.map vi r1084.1.positions) r1084.1.positions.length] = flatMap Qac ([r1084.1] : List Xe) from rfl]; exact List.flatMap_append.symm)) tt)))) (by kernel_rfl)
     cases r with
     | inl r => exact Qv pm pn hv hq h2
     | inr r =>
      exact Qv pm pn hv hq h2
    ·injection h with h; subst h
     exact Qj (c := ⟨[(6, none), (7, none), (8, none)], [none, none, none], []⟩) (s1 := (Qaf a0 a1 a2 (x52, r1084.2))) pm pn (ans := [.reg (.n :: []), .br true, .reg (.n :: .n :: .v (VV.ag (Qb (a1.getD x52.toNat default))) :: nN 3 []), .reg (Qwx a1 x52 r1080), .reg (.n :: .n :: []), .br false, .reg (nN 3 (.call (VV.tu [VV.ag (Qac r1084.1), vi r1084.2]) :: nN 6 [])), .reg (.n :: .n :: []), .br true, .reg (nN 6 [])]) (by kernel_rfl) (by intro e; cases e) (an (an (ti tt) (an (te h1075) (an (ti (an h1076 (an e1077 (t3 tt)))) (an (an (t2 (an e1079 (ti (an e1082 (ti tt))))) (an (t2 tt) (ta h1083))) (an e1087 (an (t2 tt) (an (td h1088) (an (t6 tt) tt)))))))) (ti tt))
   ·injection h with h; subst h
    exact Qj (c := ⟨[(6, none), (7, none), (8, none)], [none, none, none], []⟩) (s1 := (Qaf a0 a1 a2 (x52, r1080))) pm pn (ans := [.reg (.n :: []), .br true, .reg (.n :: .n :: .v (VV.ag (Qb (a1.getD x52.toNat default))) :: nN 3 []), .reg (Qwx a1 x52 r1080), .reg (.n :: .n :: []), .br true, .reg (nN 6 [])]) (by kernel_rfl) (by intro e; cases e) (an (an (ti tt) (an (te h1075) (an (ti (an h1076 (an e1077 (t3 tt)))) (an (t2 (an e1079 (ti (an e1082 (ti tt))))) (an (t2 tt) (an (td h1083) (an (t6 tt) tt))))))) (ti tt))
  ·injection h with h; subst h
   exact Qj (c := ⟨[(6, none), (13, none)], [none, none, none, none, none], []⟩) (s1 := (Qbn a0 a1 a2 y4)) pm pn (ans := [.reg (.n :: []), .br false]) (by kernel_rfl) (by intro e; cases e) (an (an (ti tt) (tf h1075)) (ti tt))
theorem Q3c (z0 : A26) (z1 : (List Xe)) : VV.tu [VV.ag [vi z0.e1, VV.fw 8 (List.drop 0 (List.map unfr (flatMap Qac z1))) z1.length], vi 0, vi 0] = VV.tu [VV.ag [vi ((⟨z0.e1, z1⟩ : Xp).begin), VV.fw 8 (flatMap Zb ((⟨z0.e1, z1⟩ : Xp).stops)) (((⟨z0.e1, z1⟩ : Xp).stops).length)], vi 0, vi 0] := by first | rfl | (simp only [Qdl, Qn, map_cons, map_nil, un_i, length_map, length_cons, length_nil, Qbi, Qbj]; done) | (simp only [Qdl, Qn, map_cons, map_nil, un_i, length_map, length_cons, length_nil, Qbi, Qbj]; rfl) | (simp only [Qdl, Qn, map_cons, map_nil, un_i, length_map, length_cons, length_nil, Qbi, Qbj, Qac, Zb, length_cons, length_nil, length_append]; done)
def Qaz (k : Nat) (a0 : Qd) (a1 : (List Qa)) (a2 : A26) : Option (Xp × Int × Int) :=
 (Y4 k a0).bind fun r1011 => (if r1011 = 0 then ((Wh k a2.e0).bind fun r1017 => (if r1017 = 0 then ((Zh k a0.Least a0.Most ([a2.e1] : List Int)).bind fun r1021 => (if r1021 = true then (if 20 < (a1.length : Int) then (some ((⟨0, []⟩ : Xp), 0, 8)) else ((Xu k a0 a1 a2 k ([] : List Xe) 0).bind fun r1092 => (match r1092 with | .inl r1093 => (some ((⟨0, []⟩ : Xp), r1093.1, r1093.2)) | .inr r1094 => (some ((⟨a2.e1, r1094⟩ : Xp), 0, 0))))) else (some ((⟨0, []⟩ : Xp), 0, 2)))) else (some ((⟨0, []⟩ : Xp), 0, r1017)))) else (some ((⟨0, []⟩ : Xp), 0, r1011)))
theorem Qdm (k : Nat) (a0 : Qd) (a1 : (List Qa)) (a2 : A26) (r : (Xp × Int × Int)) (h : Qaz k a0 a1 a2 = some r) : VC Try.prog 22 [VV.ag (Zf a0), VV.tr (flatMap Qb a1) a1.length, VV.ag (Qdy a2)] (VV.tu [VV.ag [vi r.1.begin, VV.fw 8 (flatMap Zb r.1.stops) r.1.stops.length], vi r.2.1, vi r.2.2]) := by
 unfold Qaz at h
 obtain ⟨r1011, h1012, h⟩ := bs h
 have e1013 := (ti (an (Qds k a0 _ h1012) (ti tt)))
 rcases ifs h with ⟨h1014, h⟩ | ⟨h1014, h⟩
 ·have e1015 := (show (0:Int) <= 0 /\ (0:Int) < ((2 : Nat) : Int) from ⟨by decide, by decide⟩)
  have e1016 := (show (0:Int) <= 1 /\ (1:Int) < ((2 : Nat) : Int) from ⟨by decide, by decide⟩)
  obtain ⟨r1017, h1018, h⟩ := bs h
  have e1019 := (ti (an (Qeu k a2.e0 _ h1018) (ti tt)))
  rcases ifs h with ⟨h1020, h⟩ | ⟨h1020, h⟩
  ·obtain ⟨r1021, h1022, h⟩ := bs h
   have e1023 := (VC.args (Zo k a0.Least a0.Most ([a2.e1] : List Int) _ h1022) (Q3a a0 a2))
   have e1024 := (t6 (an e1023 (ti tt)))
   rcases ifs h with ⟨h1025, h⟩ | ⟨h1025, h⟩
   ·rcases ifs h with ⟨h1026, h⟩ | ⟨h1026, h⟩
    ·injection h with h; subst h
     exact Qo pm pn Try.func22 (r0 := VV.tu [VV.ag [vi 0, VV.c (.slice none 0 0)], vi 0, vi 8]) (ans := [.reg (nN 5 []), .reg (.n :: .call (vi r1011) :: .n :: []), .reg (.n :: .n :: []), .br false, .reg (nN 6 []), .reg (.n :: .call (vi r1017) :: .n :: []), .reg (.n :: .n :: []), .br false, .reg (nN 5 (.v VV.any :: .call (vb r1021) :: .n :: [])), .br false, .reg (nN 3 []), .br true, .reg (nN 4 [])]) (fr := true) (by kernel_rfl) (an (an (t5 tt) (an (an e1013 (an (t2 tt) (ta h1014))) (an (an e1015 (ti (an e1016 (t3 tt)))) (an (an e1019 (an (t2 tt) (ta h1020))) (an (an e1024 (an (Qi h1025) tt)) (an (t3 tt) (an (dt h1026) (an (t4 tt) tt)))))))) (an (t3 tt) (t2 tt))) (Wv.tuL (.cons (Wv.agL (.cons (Wv.of_eq Qpx) (.cons Wv.Qhu .nil))) (.cons (Wv.refl _) (.cons (Wv.refl _) .nil))))
    ·obtain ⟨r1092, h1091, h⟩ := bs h
     have hph1091 := Qg3 k a0 a1 a2 _ _ _ _ h1091
     cases r1092 with
     | inl r1093 =>
      dsimp only at h
      have e1095 := (an (ti tt) (VRun.loop hph1091))
      injection h with h; subst h
      exact Qo pm pn Try.func22 (r0 := VV.tu [VV.ag [vi 0, VV.c (.slice none 0 0)], vi r1093.1, vi r1093.2]) (ans := [.reg (nN 5 []), .reg (.n :: .call (vi r1011) :: .n :: []), .reg (.n :: .n :: []), .br false, .reg (nN 6 []), .reg (.n :: .call (vi r1017) :: .n :: []), .reg (.n :: .n :: []), .br false, .reg (nN 5 (.v VV.any :: .call (vb r1021) :: .n :: [])), .br false, .reg (nN 3 []), .br false, .reg (nN 4 []), .reg (nN 3 []), .sub ⟨[(1, none), (3, none), (6, none), (10, none), (13, none), (50, none), (51, none), (52, none)], [none, none, none, none], [.b 3 1 8]⟩ .ret (Qaf a0 a1 a2 r1093)]) (fr := true) (by kernel_rfl) (an (an (t5 tt) (an (an e1013 (an (t2 tt) (ta h1014))) (an (an e1015 (ti (an e1016 (t3 tt)))) (an (an e1019 (an (t2 tt) (ta h1020))) (an (an e1024 (an (Qi h1025) tt)) (an (an (t3 tt) (tf h1026)) (an (t4 tt) (an (t3 tt) e1095)))))))) (an (t3 tt) (t2 tt))) (Wv.tuL (.cons (Wv.agL (.cons (Wv.of_eq Qpx) (.cons Wv.Qhu .nil))) (.cons (Wv.refl _) (.cons (Wv.refl _) .nil))))
     | inr r1094 =>
      dsimp only at h
      have e1096 := (an (ti tt) (VRun.loop hph1091))
      injection h with h; subst h
      exact Qo pm pn Try.func22 (r0 := VV.tu [VV.ag [vi a2.e1, VV.fw 8 (List.drop 0 (List.map unfr (flatMap Qac r1094))) r1094.length], vi 0, vi 0]) (ans := [.reg (nN 5 []), .reg (.n :: .call (vi r1011) :: .n :: []), .reg (.n :: .n :: []), .br false, .reg (nN 6 []), .reg (.n :: .call (vi r1017) :: .n :: []), .reg (.n :: .n :: []), .br false, .reg (nN 5 (.v VV.any :: .call (vb r1021) :: .n :: [])), .br false, .reg (nN 3 []), .br false, .reg (nN 4 []), .reg (nN 3 []), .sub ⟨[(1, none), (3, none), (6, none), (10, none), (13, none), (50, none), (51, none), (52, none)], [none, none, none, none], [.b 3 1 8]⟩ (.exit 0) (Qbn a0 a1 a2 r1094), .reg (nN 4 [])]) (fr := true) (by kernel_rfl) (an (an (t5 tt) (an (an e1013 (an (t2 tt) (ta h1014))) (an (an e1015 (ti (an e1016 (t3 tt)))) (an (an e1019 (an (t2 tt) (ta h1020))) (an (an e1024 (an (Qi h1025) tt)) (an (an (t3 tt) (tf h1026)) (an (t4 tt) (an (an (t3 tt) e1096) (an (t4 tt) tt))))))))) (an (t2 (an (show List.all (flatMap Qac r1094) new0 = true from (by exact Qpy _)) tt)) (t2 tt))) (Wv.of_eq (Q3c a2 r1094))
   ·injection h with h; subst h
    exact Qo pm pn Try.func22 (r0 := VV.tu [VV.ag [vi 0, VV.c (.slice none 0 0)], vi 0, vi 2]) (ans := [.reg (nN 5 []), .reg (.n :: .call (vi r1011) :: .n :: []), .reg (.n :: .n :: []), .br false, .reg (nN 6 []), .reg (.n :: .call (vi r1017) :: .n :: []), .reg (.n :: .n :: []), .br false, .reg (nN 5 (.v VV.any :: .call (vb r1021) :: .n :: [])), .br true, .reg (nN 4 [])]) (fr := true) (by kernel_rfl) (an (an (t5 tt) (an (an e1013 (an (t2 tt) (ta h1014))) (an (an e1015 (ti (an e1016 (t3 tt)))) (an (an e1019 (an (t2 tt) (ta h1020))) (an e1024 (an (Qq (Qy h1025)) (an (t4 tt) tt))))))) (an (t3 tt) (t2 tt))) (Wv.tuL (.cons (Wv.agL (.cons (Wv.of_eq Qpx) (.cons Wv.Qhu .nil))) (.cons (Wv.refl _) (.cons (Wv.refl _) .nil))))
  ·injection h with h; subst h
   exact Qo pm pn Try.func22 (r0 := VV.tu [VV.ag [vi 0, VV.c (.slice none 0 0)], vi 0, vi r1017]) (ans := [.reg (nN 5 []), .reg (.n :: .call (vi r1011) :: .n :: []), .reg (.n :: .n :: []), .br false, .reg (nN 6 []), .reg (.n :: .call (vi r1017) :: .n :: []), .reg (.n :: .n :: []), .br true, .reg (nN 5 [])]) (fr := true) (by kernel_rfl) (an (an (t5 tt) (an (an e1013 (an (t2 tt) (ta h1014))) (an (an e1015 (ti (an e1016 (t3 tt)))) (an e1019 (an (t2 tt) (an (td h1020) (an (t5 tt) tt))))))) (an (t3 tt) (t2 tt))) (Wv.tuL (.cons (Wv.agL (.cons (Wv.of_eq Qpx) (.cons Wv.Qhu .nil))) (.cons (Wv.refl _) (.cons (Wv.refl _) .nil))))
 ·injection h with h; subst h
  exact Qo pm pn Try.func22 (r0 := VV.tu [VV.ag [vi 0, VV.c (.slice none 0 0)], vi 0, vi r1011]) (ans := [.reg (nN 5 []), .reg (.n :: .call (vi r1011) :: .n :: []), .reg (.n :: .n :: []), .br true, .reg (nN 5 [])]) (fr := true) (by kernel_rfl) (an (an (t5 tt) (an e1013 (an (t2 tt) (an (td h1014) (an (t5 tt) tt))))) (an (t3 tt) (t2 tt))) (Wv.tuL (.cons (Wv.agL (.cons (Wv.of_eq Qpx) (.cons Wv.Qhu .nil))) (.cons (Wv.refl _) (.cons (Wv.refl _) .nil))))
end Go.Proofs.Ytbgajdbpdhipiaa.Vg

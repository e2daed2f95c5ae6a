import Derived.Test.YtiekbdbedonnoaaA0
namespace Go.Proofs.Ytiekbdbedonnoaa.Vg
set_option maxRecDepth 100000
set_option maxHeartbeats 4000000
set_option linter.unusedVariables false
set_option linter.unusedSimpArgs false
open Go Go.Proofs.Ytiekbdbedonnoaa.Ev Go.Proofs.Ytiekbdbedonnoaa.Vv
open List (flatMap length_cons length_nil length_map length_append map_cons map_nil length_replicate)
structure SDay where
 Demand : Qg
 Sessions : (List Qb)
 More : Qb
 deriving Inhabited
def Qow (x : SDay) : List VV := [VV.tr (List.map vi x.Demand.Low) x.Demand.Low.length, VV.tr (List.map vi x.Demand.High) x.Demand.High.length, VV.tr (flatMap Qa x.Sessions) x.Sessions.length, vs x.More.Mirror, vs x.More.Stroke, vi x.More.Minutes]
theorem Q1n : EqOK Try.prog 50 [some .s, some .s, some (.i .i64)] := Qzw (by kernel_rfl) (by kernel_rfl) (Qtl Try.underlying50 (by kernel_rfl) (by kernel_rfl) (by kernel_rfl) (.cons (by decide +kernel) rfl (Quh Try.underlying9 (by kernel_rfl) (by kernel_rfl)) (.cons (by decide +kernel) rfl (Quh Try.underlying9 (by kernel_rfl) (by kernel_rfl)) (.cons (by decide +kernel) rfl (Qzx Try.underlying3 (by kernel_rfl) (by kernel_rfl)) .nil))))
def Qui (k : Nat) : Option Bool := some true
theorem Wl (k : Nat) (r : Bool) (h : Qui k = some r) : VC Try.prog 5 [] (vb r) := by
 injection h with h; subst h
 exact Qxj
theorem Q1o (z0 : SDay) : [VV.tr (flatMap Qa ([z0.More] : List Qb)) (([z0.More] : List Qb).length)] = [VV.tr [vs z0.More.Mirror, vs z0.More.Stroke, vi z0.More.Minutes] 1] := by first | rfl | (simp only [Zc, Xo, map_cons, map_nil, un_i, un_s, Jr, length_cons, length_nil, Qe]; done) | (simp only [Zc, Xo, map_cons, map_nil, un_i, un_s, Jr, length_cons, length_nil, Qe]; rfl) | (simp only [Zc, Xo, map_cons, map_nil, un_i, un_s, Jr, length_cons, length_nil, Qe, Qa, length_cons, length_nil, length_append]; done)
def Qyu (z0 : ((List Qb) × Int)) (z1 : Int) (z2 : ((List Qb) × Int)) : List Ans := (nN 3 (.v (VV.ag (Qa (z0.1.getD z1.toNat default))) :: nN 3 (.v (VV.ag (Qa (z2.1.getD z1.toNat default))) :: .n :: [])))
def Qac (a0 : (List Int)) (a1 : (List Int)) (x5 : Int) : VS := ⟨mkA [(0, VV.tr (List.map vi a0) a0.length), (1, VV.tr (List.map vi a1) a1.length), (5, vi x5)], [], .nil⟩
def Qbp (a0 : (List Int)) (a1 : (List Int)) (r : Unit) : VS := ⟨mkA [(4, vb false)], [], .nil⟩
def Qbq (a0 : (List Int)) (a1 : (List Int)) (r : Unit) : VS := ⟨mkA [], [], .nil⟩
def Xp (k : Nat) (a0 : (List Int)) (a1 : (List Int)) : Nat -> Int -> Option (Sum Unit Unit)
 | 0, _ => none
 | fuel + 1, x5 => if x5 < (a0.length : Int) then (if 0 <= x5 /\ x5 < (a0.length : Int) then (if 0 <= x5 /\ x5 < (a1.length : Int) then (if (a0.getD x5.toNat 0) = (a1.getD x5.toNat 0) then (Xp k a0 a1 fuel (w64 (x5 + 1))) else (some (.inl ()))) else none) else none) else (some (.inr ()))
theorem Qfq (k : Nat) (a0 : (List Int)) (a1 : (List Int)) : ∀ (fuel : Nat) (x5 : Int) (r : Sum Unit Unit), Xp k a0 a1 fuel x5 = some r -> (match r with | .inl r => Y0 none Try.prog (szF Try.f34) (J5 Try.f34 0) (Qac a0 a1 x5) .ret (Qbp a0 a1 r) | .inr r => Y0 none Try.prog (szF Try.f34) (J5 Try.f34 0) (Qac a0 a1 x5) (.exit 0) (Qbq a0 a1 r)) := by
 intro fuel
 induction fuel with
 | zero => intro x5 r h; rw [Xp.eq_1] at h; cases h
 | succ fuel ih =>
  intro x5 r h
  rw [Xp.eq_2] at h
  rcases ifs h with ⟨h4789, h⟩ | ⟨h4789, h⟩
  ·obtain ⟨h4790, h⟩ := ifn h
   have e4791 := (show Zg Try.prog 3 (x5.toNat * 1) (List.map vi a0) = some (vi (a0.getD x5.toNat 0)) from Qb4 ag3 vi a0 0 h4790 (by omega))
   obtain ⟨h4792, h⟩ := ifn h
   have e4793 := (show Zg Try.prog 3 (x5.toNat * 1) (List.map vi a1) = some (vi (a1.getD x5.toNat 0)) from Qb4 ag3 vi a1 0 h4792 (by omega))
   have e4794 := (ti (ti (an h4790 (an e4791 (ti (ti (an h4792 (an e4793 (ti tt)))))))))
   rcases ifs h with ⟨h4795, h⟩ | ⟨h4795, h⟩
   ·have h2 := ih _ _ h
    obtain ⟨q, hv, hq⟩ := pkR (rd := none) (P := Try.prog) (fn := Try.f34) (k := 0) (s := (Qac a0 a1 x5)) (ans := [.reg (nN 4 []), .br true, .reg (nN 3 (.v (vi (a0.getD x5.toNat 0)) :: nN 3 (.v (vi (a1.getD x5.toNat 0)) :: .n :: []))), .br false, .reg (nN 3 [])]) (c := ⟨[(0, none), (1, none), (5, none)], [], []⟩) (e := .normal) (s1 := (Qac a0 a1 (w64 (x5 + 1)))) (an (an (an (ti (ti (ti (ti tt)))) (an (dt h4789) tt)) (an (an e4794 (an (Qs (dt h4795)) tt)) (ti (ti (ti tt))))) (ti tt)) (by kernel_rfl)
    cases r with
    | inl r => exact Qw pm pn hv hq h2
    | inr r =>
     exact Qw pm pn hv hq h2
   ·injection h with h; subst h
    exact Qv (c := ⟨[(4, none)], [], []⟩) (s1 := (Qbp a0 a1 ())) pm pn (ans := [.reg (nN 4 []), .br true, .reg (nN 3 (.v (vi (a0.getD x5.toNat 0)) :: nN 3 (.v (vi (a1.getD x5.toNat 0)) :: .n :: []))), .br true, .reg (.n :: [])]) (by kernel_rfl) (by intro e; cases e) (an (an (an (ti (ti (ti (ti tt)))) (an (dt h4789) tt)) (an e4794 (an (Zj (df h4795)) (an (ti tt) tt)))) (ti tt))
  ·injection h with h; subst h
   exact Qv (c := ⟨[], [], []⟩) (s1 := (Qbq a0 a1 ())) pm pn (ans := [.reg (nN 4 []), .br false]) (by kernel_rfl) (by intro e; cases e) (an (an (ti (ti (ti (ti tt)))) (an (df h4789) tt)) (ti tt))
def Qam (k : Nat) (a0 : (List Int)) (a1 : (List Int)) : Option Bool :=
 if (a0.length : Int) = (a1.length : Int) then ((Xp k a0 a1 k 0).bind fun r4797 => (match r4797 with | .inl r4798 => (some false) | .inr r4799 => (some true))) else (some false)
theorem Qem (k : Nat) (a0 : (List Int)) (a1 : (List Int)) (r : Bool) (h : Qam k a0 a1 = some r) : VC Try.prog 34 [VV.tr (List.map vi a0) a0.length, VV.tr (List.map vi a1) a1.length] (vb r) := by
 unfold Qam at h
 rcases ifs h with ⟨h4774, h⟩ | ⟨h4774, h⟩
 ·obtain ⟨r4797, h4796, h⟩ := bs h
  have hph4796 := Qfq k a0 a1 _ _ _ h4796
  cases r4797 with
  | inl r4798 =>
   dsimp only at h
   have e4800 := (an (ti tt) (VRun.loop hph4796))
   injection h with h; subst h
   exact Qq pm pn Try.func34 (r0 := vb false) (ans := [.reg (.n :: []), .reg (nN 5 []), .br false, .reg (.n :: []), .sub ⟨[(0, none), (1, none), (5, none)], [], []⟩ .ret (Qbp a0 a1 r4798)]) (fr := true) (by kernel_rfl) (an (an (ti tt) (an (an (ti (ti (ti (ti (ti tt))))) (an (Qs (dt h4774)) tt)) (an (ti tt) e4800))) (ti tt)) (Wv.refl _)
  | inr r4799 =>
   dsimp only at h
   have e4801 := (an (ti tt) (VRun.loop hph4796))
   injection h with h; subst h
   exact Qq pm pn Try.func34 (r0 := vb true) (ans := [.reg (.n :: []), .reg (nN 5 []), .br false, .reg (.n :: []), .sub ⟨[(0, none), (1, none), (5, none)], [], []⟩ (.exit 0) (Qbq a0 a1 r4799), .reg (.n :: [])]) (fr := true) (by kernel_rfl) (an (an (ti tt) (an (an (ti (ti (ti (ti (ti tt))))) (an (Qs (dt h4774)) tt)) (an (an (ti tt) e4801) (an (ti tt) tt)))) (ti tt)) (Wv.refl _)
 ·injection h with h; subst h
  exact Qq pm pn Try.func34 (r0 := vb false) (ans := [.reg (.n :: []), .reg (nN 5 []), .br true, .reg (.n :: [])]) (fr := true) (by kernel_rfl) (an (an (ti tt) (an (ti (ti (ti (ti (ti tt))))) (an (Zj (df h4774)) (an (ti tt) tt)))) (ti tt)) (Wv.refl _)
def Xe (k : Nat) (a0 : Qg) (a1 : Qg) : Option Bool :=
 (Qam k a0.Low a1.Low).bind fun r4811 => (if r4811 = true then ((Qam k a0.High a1.High).bind fun r4815 => (some r4815)) else (some false))
theorem J6 (k : Nat) (a0 : Qg) (a1 : Qg) (r : Bool) (h : Xe k a0 a1 = some r) : VC Try.prog 27 [VV.ag (Ze a0), VV.ag (Ze a1)] (vb r) := by
 unfold Xe at h
 obtain ⟨r4811, h4812, h⟩ := bs h
 have e4813 := (Qem k a0.Low a1.Low _ h4812)
 rcases ifs h with ⟨h4814, h⟩ | ⟨h4814, h⟩
 ·obtain ⟨r4815, h4816, h⟩ := bs h
  have e4817 := (an h4814 (Qem k a0.High a1.High _ h4816))
  have e4818 := (ti (ti (ti (ti (an e4813 (ti (an (an h4814 tt) (an (an h4814 tt) (an (an h4814 tt) (an (an h4814 tt) (an e4817 (an h4814 (ti tt)))))))))))))
  injection h with h; subst h
  exact Qq pm pn Try.func27 (r0 := vb r4815) (ans := [.reg (nN 3 []), .reg (nN 4 (.call (vb r4811) :: nN 5 (.call (vb r4815) :: .b true :: .n :: [])))]) (fr := true) (by kernel_rfl) (an (an (ti (ti (ti tt))) (an e4818 tt)) (ti tt)) (Wv.refl _)
 ·have e4819 := (ti (ti (ti (ti (an e4813 (ti (an (Zm h4814) (an (Zm h4814) (an (Zm h4814) (an (Zm h4814) (an (Zm h4814) (an (Zm h4814) (ti tt)))))))))))))
  injection h with h; subst h
  exact Qq pm pn Try.func27 (r0 := vb false) (ans := [.reg (nN 3 []), .reg (nN 4 (.call (vb r4811) :: .n :: nS 5 (.b false :: .n :: [])))]) (fr := true) (by kernel_rfl) (an (an (ti (ti (ti tt))) (an e4819 tt)) (ti tt)) (Wv.refl _)
def Yf (a0 : (List Qd)) (a1 : SDay) (r4883 : ((List Qb) × Int)) (r4887 : ((List Qb) × Int)) (x9 : Int) : VS := ⟨mkA [(0, VV.tr (flatMap Qc a0) a0.length), (3, VV.pt 0 0), (5, VV.tr (flatMap Qa r4883.1) r4883.1.length), (7, VV.fr (flatMap Qa r4887.1) r4887.1.length), (9, vi x9)], [some ⟨true, 1, Qow a1⟩], .nil⟩
def Y8 (a0 : (List Qd)) (a1 : SDay) (r4883 : ((List Qb) × Int)) (r4887 : ((List Qb) × Int)) (r : Unit) : VS := ⟨mkA [(4, vb false)], [], .nil⟩
def Za (a0 : (List Qd)) (a1 : SDay) (r4883 : ((List Qb) × Int)) (r4887 : ((List Qb) × Int)) (r : Unit) : VS := ⟨mkA [(0, VV.tr (flatMap Qc a0) a0.length), (3, VV.pt 0 0)], [some ⟨true, 1, Qow a1⟩], .nil⟩
def Zt (k : Nat) (a0 : (List Qd)) (a1 : SDay) (r4883 : ((List Qb) × Int)) (r4887 : ((List Qb) × Int)) : Nat -> Int -> Option (Sum Unit Unit)
 | 0, _ => none
 | fuel + 1, x9 => if x9 < (r4883.1.length : Int) then (if 0 <= x9 /\ x9 < (r4883.1.length : Int) then (if 0 <= x9 /\ x9 < (r4887.1.length : Int) then (if (decide ((r4883.1.getD x9.toNat default).Mirror = ((r4887.1.getD x9.toNat default).Mirror)) && (decide ((r4883.1.getD x9.toNat default).Stroke = ((r4887.1.getD x9.toNat default).Stroke)) && (((r4883.1.getD x9.toNat default).Minutes : Int) == ((r4887.1.getD x9.toNat default).Minutes) && true))) = true then (Zt k a0 a1 r4883 r4887 fuel (w64 (x9 + 1))) else (some (.inl ()))) else none) else none) else (some (.inr ()))
theorem Qdy (k : Nat) (a0 : (List Qd)) (a1 : SDay) (r4883 : ((List Qb) × Int)) (r4887 : ((List Qb) × Int)) : ∀ (fuel : Nat) (x9 : Int) (r : Sum Unit Unit), Zt k a0 a1 r4883 r4887 fuel x9 = some r -> (match r with | .inl r => Y0 none Try.prog (szF Try.f4) (J5 Try.f4 0) (Yf a0 a1 r4883 r4887 x9) .ret (Y8 a0 a1 r4883 r4887 r) | .inr r => Y0 none Try.prog (szF Try.f4) (J5 Try.f4 0) (Yf a0 a1 r4883 r4887 x9) (.exit 0) (Za a0 a1 r4883 r4887 r)) := by
 intro fuel
 induction fuel with
 | zero => intro x9 r h; rw [Zt.eq_1] at h; cases h
 | succ fuel ih =>
  intro x9 r h
  rw [Zt.eq_2] at h
  rcases ifs h with ⟨h4915, h⟩ | ⟨h4915, h⟩
  ·obtain ⟨h4916, h⟩ := ifn h
   have e4917 := (show Zg Try.prog 50 (x9.toNat * 3) (flatMap Qa r4883.1) = some (VV.ag (Qa (r4883.1.getD x9.toNat default))) from Qkg ag50 Qa 3 sz50 Qx r4883.1 default h4916 (by omega))
   obtain ⟨h4918, h⟩ := ifn h
   have e4919 := (show Zg Try.prog 50 (x9.toNat * 3) (flatMap Qa r4887.1) = some (VV.ag (Qa (r4887.1.getD x9.toNat default))) from Qkg ag50 Qa 3 sz50 Qx r4887.1 default h4918 (by omega))
   have e4920 := (show List.map kdV [Value.string ((r4883.1.getD x9.toNat default).Mirror), Value.string ((r4883.1.getD x9.toNat default).Stroke), Value.int .i64 ((r4883.1.getD x9.toNat default).Minutes)] = List.map kdV [Value.string ((r4887.1.getD x9.toNat default).Mirror), Value.string ((r4887.1.getD x9.toNat default).Stroke), Value.int .i64 ((r4887.1.getD x9.toNat default).Minutes)] /\ EqOK Try.prog 50 (List.map kdV [Value.string ((r4887.1.getD x9.toNat default).Mirror), Value.string ((r4887.1.getD x9.toNat default).Stroke), Value.int .i64 ((r4887.1.getD x9.toNat default).Minutes)]) from ⟨rfl, Q1n⟩)
   have e4921 := (ti (ti (an h4916 (an e4917 (ti (ti (an h4918 (an e4919 (an e4920 tt)))))))))
   rcases ifs h with ⟨h4922, h⟩ | ⟨h4922, h⟩
   ·have h2 := ih _ _ h
    obtain ⟨q, hv, hq⟩ := pkR (rd := none) (P := Try.prog) (fn := Try.f4) (k := 0) (s := (Yf a0 a1 r4883 r4887 x9)) (ans := [.reg (nN 4 []), .br true, .reg (Qyu r4883 x9 r4887), .br false, .reg (nN 3 [])]) (c := ⟨[(0, none), (3, none), (5, none), (7, none), (9, none)], [none], []⟩) (e := .normal) (s1 := (Yf a0 a1 r4883 r4887 (w64 (x9 + 1)))) (an (an (an (ti (ti (ti (ti tt)))) (an (dt h4915) tt)) (an (an e4921 (an (Qs h4922) tt)) (ti (ti (ti tt))))) (ti tt)) (by kernel_rfl)
    cases r with
    | inl r => exact Qw pm pn hv hq h2
    | inr r =>
     exact Qw pm pn hv hq h2
   ·injection h with h; subst h
    exact Qv (c := ⟨[(4, none)], [], []⟩) (s1 := (Y8 a0 a1 r4883 r4887 ())) pm pn (ans := [.reg (nN 4 []), .br true, .reg (Qyu r4883 x9 r4887), .br true, .reg (.n :: [])]) (by kernel_rfl) (by intro e; cases e) (an (an (an (ti (ti (ti (ti tt)))) (an (dt h4915) tt)) (an e4921 (an (Zj (Zm h4922)) (an (ti tt) tt)))) (ti tt))
  ·injection h with h; subst h
   exact Qv (c := ⟨[(0, none), (3, none)], [none], []⟩) (s1 := (Za a0 a1 r4883 r4887 ())) pm pn (ans := [.reg (nN 4 []), .br false]) (by kernel_rfl) (by intro e; cases e) (an (an (ti (ti (ti (ti tt)))) (an (df h4915) tt)) (ti tt))
def Qft (z0 : Bool) (z1 : Bool) (z2 : Bool) (z3 : Bool) : List Ans := (.n :: .call (vb z0) :: nN 4 (.call (vb z1) :: .n :: .b false :: nN 3 (.call (vb z2) :: .n :: .b false :: nN 3 (.v VV.any :: .call (vb z3) :: .n :: .b false :: []))))
def Qf7 (z0 : (List Qd)) (z1 : Qg) (z2 : (List Qb)) (z3 : ((List Qb) × Int)) : List Ans := (.n :: .call (VV.fr (flatMap Qc z0) z0.length) :: .n :: .n :: .call (VV.ag (Jy z1)) :: .n :: .n :: .call (VV.fr (flatMap Qa z2) z2.length) :: .n :: .n :: .call (VV.tu [VV.tr (flatMap Qa z3.1) z3.1.length, vi z3.2]) :: nN 5 [])
def Qf8 (z0 : ((List Qb) × Int)) : List Ans := (nN 7 (.call (VV.tu [VV.fr (flatMap Qa z0.1) z0.1.length, vi z0.2]) :: nN 5 []))
def Qhz (z0 : (List Qd)) (z1 : Qg) (z2 : (List Qb)) (z3 : (Qg × Int)) : List Ans := (.n :: .call (VV.fr (flatMap Qc z0) z0.length) :: .n :: .n :: .call (VV.ag (Jy z1)) :: .n :: .n :: .call (VV.fr (flatMap Qa z2) z2.length) :: nN 3 (.call (VV.tu [VV.ag (Jy z3.1), vi z3.2]) :: nN 6 []))
def Q1p (z0 : Bool) (z1 : Bool) (z2 : Bool) : List Ans := (.n :: .call (vb z0) :: nN 4 (.call (vb z1) :: .n :: .b false :: nN 3 (.call (vb z2) :: .n :: .b false :: .n :: nS 5 (.b true :: []))))
def Q1q (z0 : Bool) (z1 : Bool) : List Ans := (.n :: .call (vb z0) :: nN 4 (.call (vb z1) :: .n :: .b false :: .n :: nS 4 (.b true :: .n :: nS 5 (.b true :: []))))
def Q1r (z0 : Bool) : List Ans := (.n :: .call (vb z0) :: .n :: .n :: nS 4 (.b true :: .n :: nS 4 (.b true :: .n :: nS 5 (.b true :: []))))
def Qan (k : Nat) (a0 : (List Qd)) (a1 : SDay) : Option Bool :=
 (Qui k).bind fun r4855 => (if r4855 = true then ((Qax k a0).bind fun r4858 => (if r4858 = true then ((Qbc k a1.Demand).bind fun r4861 => (if r4861 = true then ((Qao k a1.Sessions).bind fun r4865 => (if r4865 = true then ((Qao k ([a1.More] : List Qb)).bind fun r4869 => (if r4869 = true then ((Qbd k a0).bind fun r4874 => ((Qah k a1.Demand).bind fun r4877 => ((Y2 k a1.Sessions).bind fun r4880 => ((Qb5 k r4874 r4877 r4880 a1.More).bind fun r4883 => ((Yp k a0 a1.Demand a1.Sessions a1.More).bind fun r4887 => (if r4883.2 = r4887.2 then (if (r4883.1.length : Int) = (r4887.1.length : Int) then ((Zt k a0 a1 r4883 r4887 k 0).bind fun r4924 => (match r4924 with | .inl r4925 => (some false) | .inr r4926 => ((Qbw k r4874 r4877 r4880 a1.More.Mirror).bind fun r4935 => ((Jq k a0 a1.Demand).bind fun r4939 => (if r4939 = 0 then ((Js k a0 a1.Sessions).bind fun r4943 => (if r4943 = 0 then ((Yh k a1.More.Mirror).bind fun r4947 => (if r4947 = true then ((Wn k a0 a1.Demand a1.Sessions a1.More.Mirror).bind fun r4952 => (if r4952.2 = true then (if r4935.2 = r4943 then ((Xe k r4935.1 r4952.1).bind fun r4958 => (some r4958)) else (some false)) else (if r4935.2 = 26 then ((Xe k r4935.1 r4952.1).bind fun r4964 => (some r4964)) else (some false)))) else (if r4935.2 = 4 then ((Xe k r4935.1 (⟨[], []⟩ : Qg)).bind fun r4970 => (some r4970)) else (some false)))) else (if r4935.2 = r4943 then ((Xe k r4935.1 (⟨[], []⟩ : Qg)).bind fun r4977 => (some r4977)) else (some false)))) else (if r4935.2 = r4939 then ((Xe k r4935.1 (⟨[], []⟩ : Qg)).bind fun r4984 => (some r4984)) else (some false))))))) else (some false)) else (some false))))))) else (some true))) else (some true))) else (some true))) else (some true))) else (some false))
theorem Qff (k : Nat) (a0 : (List Qd)) (a1 : SDay) (r : Bool) (h : Qan k a0 a1 = some r) : VC Try.prog 4 [VV.tr (flatMap Qc a0) a0.length, VV.ag (Qow a1)] (vb r) := by
 unfold Qan at h
 obtain ⟨r4855, h4856, h⟩ := bs h
 rcases ifs h with ⟨h4857, h⟩ | ⟨h4857, h⟩
 ·obtain ⟨r4858, h4859, h⟩ := bs h
  rcases ifs h with ⟨h4860, h⟩ | ⟨h4860, h⟩
  ·obtain ⟨r4861, h4862, h⟩ := bs h
   have e4863 := (an (Qs h4860) (Qgx k a1.Demand _ h4862))
   rcases ifs h with ⟨h4864, h⟩ | ⟨h4864, h⟩
   ·obtain ⟨r4865, h4866, h⟩ := bs h
    have e4867 := (an (Qs h4864) (Qen k a1.Sessions _ h4866))
    rcases ifs h with ⟨h4868, h⟩ | ⟨h4868, h⟩
    ·obtain ⟨r4869, h4870, h⟩ := bs h
     have e4871 := (an (Qs h4868) (VC.args (Qen k ([a1.More] : List Qb) _ h4870) (Q1o a1)))
     have e4872 := (ti (an (Qay k a0 _ h4859) (ti (ti (an (an (Qs h4860) tt) (an (an (Qs h4860) tt) (an e4863 (an (an (Qs h4860) tt) (an (Qs h4860) (ti (an (an (Qs h4864) tt) (an (an (Qs h4864) tt) (an e4867 (an (an (Qs h4864) tt) (an (Qs h4864) (ti (an (an (Qs h4868) tt) (an (an (Qs h4868) tt) (an (an (Qs h4868) tt) (an e4871 (an (an (Qs h4868) tt) (an (Qs h4868) tt))))))))))))))))))))))
     rcases ifs h with ⟨h4873, h⟩ | ⟨h4873, h⟩
     ·obtain ⟨r4874, h4875, h⟩ := bs h
      have e4876 := (show VC Try.prog 9 [VV.tr (flatMap Qc a0) a0.length] (VV.fr (flatMap Qc r4874) r4874.length) from (VC.weak (Qdz k a0 _ h4875) (Wv.fw rfl rfl)))
      obtain ⟨r4877, h4878, h⟩ := bs h
      have e4879 := (Qdl k a1.Demand _ h4878)
      obtain ⟨r4880, h4881, h⟩ := bs h
      have e4882 := (show VC Try.prog 21 [VV.tr (flatMap Qa a1.Sessions) a1.Sessions.length] (VV.fr (flatMap Qa r4880) r4880.length) from (VC.weak (Qc4 k a1.Sessions _ h4881) (Wv.fw rfl rfl)))
      obtain ⟨r4883, h4884, h⟩ := bs h
      have e4885 := (Qhx k r4874 r4877 r4880 a1.More _ h4884)
      have e4886 := (ti (an e4876 (ti (ti (an e4879 (ti (ti (an e4882 (ti (ti (an e4885 (ti (ti (ti (ti (ti tt))))))))))))))))
      obtain ⟨r4887, h4888, h⟩ := bs h
      have e4889 := (show VC Try.prog 22 [VV.tr (flatMap Qc a0) a0.length, VV.ag (Ze a1.Demand), VV.tr (flatMap Qa a1.Sessions) a1.Sessions.length, VV.ag (Qa a1.More)] (VV.tu [VV.fr (flatMap Qa r4887.1) r4887.1.length, vi r4887.2]) from (VC.weak (Qe3 k a0 a1.Demand a1.Sessions a1.More _ h4888) (Wv.tuL (.cons (Wv.fw rfl rfl) (.cons (Wv.refl _) .nil)))))
      have e4890 := (ti (ti (ti (ti (ti (ti (ti (an e4889 (ti (ti (ti (ti (ti tt)))))))))))))
      rcases ifs h with ⟨h4891, h⟩ | ⟨h4891, h⟩
      ·have e4892 := (an (Qs (dt h4891)) tt)
       have e4893 := (an (Qs (dt h4891)) tt)
       have e4894 := (an (Qs (dt h4891)) tt)
       have e4895 := (an (Qs (dt h4891)) tt)
       have e4896 := (an (Qs (dt h4891)) tt)
       have e4897 := (ti (ti (ti (ti (an e4892 (an e4893 (an e4894 (an e4895 (an e4896 (an (Qs (dt h4891)) tt))))))))))
       rcases ifs h with ⟨h4898, h⟩ | ⟨h4898, h⟩
       ·obtain ⟨r4924, h4923, h⟩ := bs h
        have hph4923 := Qdy k a0 a1 r4883 r4887 _ _ _ h4923
        cases r4924 with
        | inl r4925 =>
         dsimp only at h
         have e4927 := (an (ti tt) (VRun.loop hph4923))
         injection h with h; subst h
         exact Qq pm pn Try.func4 (r0 := vb false) (ans := [.reg (.n :: .n :: []), .reg (.call (vb r4855) :: .n :: []), .br false, .reg (Qft r4858 r4861 r4865 r4869), .br false, .reg (Qf7 r4874 r4877 r4880 r4883), .reg (Qf8 r4887), .reg (nN 9 (.b false :: [])), .br false, .reg (.n :: []), .sub ⟨[(0, none), (3, none), (5, none), (7, none), (9, none)], [none], []⟩ .ret (Y8 a0 a1 r4883 r4887 r4925)]) (fr := true) (by kernel_rfl) (an (an (ti (ti tt)) (an (an (an (Wl k _ h4856) (ti tt)) (an (Qs h4857) tt)) (an (an e4872 (an (Qs h4873) tt)) (an e4886 (an e4890 (an (an e4897 (an (Qs (dt h4898)) tt)) (an (ti tt) e4927))))))) (ti tt)) (Wv.refl _)
        | inr r4926 =>
         dsimp only at h
         have e4928 := (an (ti tt) (VRun.loop hph4923))
         have e4930 := (show VC Try.prog 9 [VV.tr (flatMap Qc a0) a0.length] (VV.fr (flatMap Qc r4874) r4874.length) from (VC.weak (Qdz k a0 _ h4875) (Wv.fw rfl rfl)))
         have e4932 := (Qdl k a1.Demand _ h4878)
         have e4934 := (show VC Try.prog 21 [VV.tr (flatMap Qa a1.Sessions) a1.Sessions.length] (VV.fr (flatMap Qa r4880) r4880.length) from (VC.weak (Qc4 k a1.Sessions _ h4881) (Wv.fw rfl rfl)))
         obtain ⟨r4935, h4936, h⟩ := bs h
         have e4937 := (show VC Try.prog 23 [VV.tr (flatMap Qc r4874) r4874.length, VV.ag (Ze r4877), VV.tr (flatMap Qa r4880) r4880.length, vs a1.More.Mirror] (VV.tu [VV.ag (Jy r4935.1), vi r4935.2]) from (VC.weak (Qjf k r4874 r4877 r4880 a1.More.Mirror _ h4936) (Wv.tuL (.cons (Wv.agL (.cons (Wv.fw rfl rfl) (.cons (Wv.fw rfl rfl) .nil))) (.cons (Wv.refl _) .nil)))))
         have e4938 := (ti (an e4930 (ti (ti (an e4932 (ti (ti (an e4934 (ti (ti (ti (an e4937 (ti (ti (ti (ti (ti (ti tt))))))))))))))))))
         obtain ⟨r4939, h4940, h⟩ := bs h
         have e4941 := (Qck k a0 a1.Demand _ h4940)
         rcases ifs h with ⟨h4942, h⟩ | ⟨h4942, h⟩
         ·obtain ⟨r4943, h4944, h⟩ := bs h
          have e4945 := (Qbr k a0 a1.Sessions _ h4944)
          rcases ifs h with ⟨h4946, h⟩ | ⟨h4946, h⟩
          ·obtain ⟨r4947, h4948, h⟩ := bs h
           have e4949 := (an (dt h4946) (Qcb k a1.More.Mirror _ h4948))
           have e4950 := (ti (ti (ti (an (an (dt h4946) tt) (an (an (dt h4946) tt) (an (an (dt h4946) tt) (an e4949 (an (an (dt h4946) tt) (an (dt h4946) tt)))))))))
           rcases ifs h with ⟨h4951, h⟩ | ⟨h4951, h⟩
           ·obtain ⟨r4952, h4953, h⟩ := bs h
            have e4954 := (show VC Try.prog 26 [VV.tr (flatMap Qc a0) a0.length, VV.ag (Ze a1.Demand), VV.tr (flatMap Qa a1.Sessions) a1.Sessions.length, vs a1.More.Mirror] (VV.tu [VV.ag (Jy r4952.1), vb r4952.2]) from (VC.weak (Qf0 k a0 a1.Demand a1.Sessions a1.More.Mirror _ h4953) (Wv.tuL (.cons (Wv.agL (.cons (Wv.fw rfl rfl) (.cons (Wv.fw rfl rfl) .nil))) (.cons (Wv.refl _) .nil)))))
            have e4955 := (ti (ti (ti (ti (ti (ti (ti (ti (an e4954 (ti (ti (ti (ti (ti (ti tt)))))))))))))))
            rcases ifs h with ⟨h4956, h⟩ | ⟨h4956, h⟩
            ·rcases ifs h with ⟨h4957, h⟩ | ⟨h4957, h⟩
             ·obtain ⟨r4958, h4959, h⟩ := bs h
              have e4960 := (an (dt h4957) (J6 k r4935.1 r4952.1 _ h4959))
              have e4961 := (ti (ti (ti (ti (an (an (dt h4957) tt) (an (an (dt h4957) tt) (an e4960 (an (dt h4957) (ti tt)))))))))
              injection h with h; subst h
              exact Qq pm pn Try.func4 (r0 := vb r4958) (ans := [.reg (.n :: .n :: []), .reg (.call (vb r4855) :: .n :: []), .br false, .reg (Qft r4858 r4861 r4865 r4869), .br false, .reg (Qf7 r4874 r4877 r4880 r4883), .reg (Qf8 r4887), .reg (nN 9 (.b false :: [])), .br false, .reg (.n :: []), .sub ⟨[(0, none), (3, none), (5, none), (7, none), (9, none)], [none], []⟩ (.exit 0) (Za a0 a1 r4883 r4887 r4926), .reg (Qhz r4874 r4877 r4880 r4935), .reg (nN 3 (.call (vi r4939) :: .n :: [])), .reg (.n :: .n :: []), .br true, .reg (nN 3 (.call (vi r4943) :: .n :: [])), .reg (nN 6 (.call (vb r4947) :: .n :: .b true :: [])), .br false, .reg (.n :: []), .reg (.n :: .n :: []), .br true, .reg (nN 8 (.call (VV.tu [VV.ag (Jy r4952.1), vb r4952.2]) :: nN 6 [])), .reg (.n :: .n :: []), .reg (.n :: .n :: []), .br false, .reg (nN 6 (.call (vb r4958) :: .b true :: .n :: []))]) (fr := true) (by kernel_rfl) (an (an (ti (ti tt)) (an (an (an (Wl k _ h4856) (ti tt)) (an (Qs h4857) tt)) (an (an e4872 (an (Qs h4873) tt)) (an e4886 (an e4890 (an (an e4897 (an (Qs (dt h4898)) tt)) (an (an (ti tt) e4928) (an e4938 (an (ti (ti (ti (an e4941 (ti tt))))) (an (an (ti (ti tt)) (an (dt h4942) (ti (ti (ti (an e4945 (ti tt))))))) (an (an e4950 (an (Qs h4951) tt)) (an (ti tt) (an (an (ti (ti tt)) (an (dt h4946) (an e4955 (an (ti (ti tt)) (an (ti (ti tt)) (an (Qs h4956) tt)))))) (an e4961 tt)))))))))))))) (ti tt)) (Wv.refl _)
             ·have e4962 := (ti (ti (ti (ti (an (df h4957) (an (df h4957) (an (df h4957) (an (df h4957) (ti tt)))))))))
              injection h with h; subst h
              exact Qq pm pn Try.func4 (r0 := vb false) (ans := [.reg (.n :: .n :: []), .reg (.call (vb r4855) :: .n :: []), .br false, .reg (Qft r4858 r4861 r4865 r4869), .br false, .reg (Qf7 r4874 r4877 r4880 r4883), .reg (Qf8 r4887), .reg (nN 9 (.b false :: [])), .br false, .reg (.n :: []), .sub ⟨[(0, none), (3, none), (5, none), (7, none), (9, none)], [none], []⟩ (.exit 0) (Za a0 a1 r4883 r4887 r4926), .reg (Qhz r4874 r4877 r4880 r4935), .reg (nN 3 (.call (vi r4939) :: .n :: [])), .reg (.n :: .n :: []), .br true, .reg (nN 3 (.call (vi r4943) :: .n :: [])), .reg (nN 6 (.call (vb r4947) :: .n :: .b true :: [])), .br false, .reg (.n :: []), .reg (.n :: .n :: []), .br true, .reg (nN 8 (.call (VV.tu [VV.ag (Jy r4952.1), vb r4952.2]) :: nN 6 [])), .reg (.n :: .n :: []), .reg (.n :: .n :: []), .br false, .reg (nN 4 (nS 3 (.b false :: .n :: [])))]) (fr := true) (by kernel_rfl) (an (an (ti (ti tt)) (an (an (an (Wl k _ h4856) (ti tt)) (an (Qs h4857) tt)) (an (an e4872 (an (Qs h4873) tt)) (an e4886 (an e4890 (an (an e4897 (an (Qs (dt h4898)) tt)) (an (an (ti tt) e4928) (an e4938 (an (ti (ti (ti (an e4941 (ti tt))))) (an (an (ti (ti tt)) (an (dt h4942) (ti (ti (ti (an e4945 (ti tt))))))) (an (an e4950 (an (Qs h4951) tt)) (an (ti tt) (an (an (ti (ti tt)) (an (dt h4946) (an e4955 (an (ti (ti tt)) (an (ti (ti tt)) (an (Qs h4956) tt)))))) (an e4962 tt)))))))))))))) (ti tt)) (Wv.refl _)
            ·rcases ifs h with ⟨h4963, h⟩ | ⟨h4963, h⟩
             ·obtain ⟨r4964, h4965, h⟩ := bs h
              have e4966 := (an (dt h4963) (J6 k r4935.1 r4952.1 _ h4965))
              have e4967 := (ti (ti (ti (ti (an (an (dt h4963) tt) (an (an (dt h4963) tt) (an e4966 (an (dt h4963) (ti tt)))))))))
              injection h with h; subst h
              exact Qq pm pn Try.func4 (r0 := vb r4964) (ans := [.reg (.n :: .n :: []), .reg (.call (vb r4855) :: .n :: []), .br false, .reg (Qft r4858 r4861 r4865 r4869), .br false, .reg (Qf7 r4874 r4877 r4880 r4883), .reg (Qf8 r4887), .reg (nN 9 (.b false :: [])), .br false, .reg (.n :: []), .sub ⟨[(0, none), (3, none), (5, none), (7, none), (9, none)], [none], []⟩ (.exit 0) (Za a0 a1 r4883 r4887 r4926), .reg (Qhz r4874 r4877 r4880 r4935), .reg (nN 3 (.call (vi r4939) :: .n :: [])), .reg (.n :: .n :: []), .br true, .reg (nN 3 (.call (vi r4943) :: .n :: [])), .reg (nN 6 (.call (vb r4947) :: .n :: .b true :: [])), .br false, .reg (.n :: []), .reg (.n :: .n :: []), .br true, .reg (nN 8 (.call (VV.tu [VV.ag (Jy r4952.1), vb r4952.2]) :: nN 6 [])), .reg (.n :: .n :: []), .reg (.n :: .n :: []), .br true, .reg (.n :: []), .reg (nN 6 (.call (vb r4964) :: .b true :: .n :: []))]) (fr := true) (by kernel_rfl) (an (an (ti (ti tt)) (an (an (an (Wl k _ h4856) (ti tt)) (an (Qs h4857) tt)) (an (an e4872 (an (Qs h4873) tt)) (an e4886 (an e4890 (an (an e4897 (an (Qs (dt h4898)) tt)) (an (an (ti tt) e4928) (an e4938 (an (ti (ti (ti (an e4941 (ti tt))))) (an (an (ti (ti tt)) (an (dt h4942) (ti (ti (ti (an e4945 (ti tt))))))) (an (an e4950 (an (Qs h4951) tt)) (an (ti tt) (an (an (ti (ti tt)) (an (dt h4946) (an e4955 (an (ti (ti tt)) (an (ti (ti tt)) (an (Zj (Zm h4956)) (ti tt))))))) (an e4967 tt)))))))))))))) (ti tt)) (Wv.refl _)
             ·have e4968 := (ti (ti (ti (ti (an (df h4963) (an (df h4963) (an (df h4963) (an (df h4963) (ti tt)))))))))
              injection h with h; subst h
              exact Qq pm pn Try.func4 (r0 := vb false) (ans := [.reg (.n :: .n :: []), .reg (.call (vb r4855) :: .n :: []), .br false, .reg (Qft r4858 r4861 r4865 r4869), .br false, .reg (Qf7 r4874 r4877 r4880 r4883), .reg (Qf8 r4887), .reg (nN 9 (.b false :: [])), .br false, .reg (.n :: []), .sub ⟨[(0, none), (3, none), (5, none), (7, none), (9, none)], [none], []⟩ (.exit 0) (Za a0 a1 r4883 r4887 r4926), .reg (Qhz r4874 r4877 r4880 r4935), .reg (nN 3 (.call (vi r4939) :: .n :: [])), .reg (.n :: .n :: []), .br true, .reg (nN 3 (.call (vi r4943) :: .n :: [])), .reg (nN 6 (.call (vb r4947) :: .n :: .b true :: [])), .br false, .reg (.n :: []), .reg (.n :: .n :: []), .br true, .reg (nN 8 (.call (VV.tu [VV.ag (Jy r4952.1), vb r4952.2]) :: nN 6 [])), .reg (.n :: .n :: []), .reg (.n :: .n :: []), .br true, .reg (.n :: []), .reg (nN 4 (nS 3 (.b false :: .n :: [])))]) (fr := true) (by kernel_rfl) (an (an (ti (ti tt)) (an (an (an (Wl k _ h4856) (ti tt)) (an (Qs h4857) tt)) (an (an e4872 (an (Qs h4873) tt)) (an e4886 (an e4890 (an (an e4897 (an (Qs (dt h4898)) tt)) (an (an (ti tt) e4928) (an e4938 (an (ti (ti (ti (an e4941 (ti tt))))) (an (an (ti (ti tt)) (an (dt h4942) (ti (ti (ti (an e4945 (ti tt))))))) (an (an e4950 (an (Qs h4951) tt)) (an (ti tt) (an (an (ti (ti tt)) (an (dt h4946) (an e4955 (an (ti (ti tt)) (an (ti (ti tt)) (an (Zj (Zm h4956)) (ti tt))))))) (an e4968 tt)))))))))))))) (ti tt)) (Wv.refl _)
           ·rcases ifs h with ⟨h4969, h⟩ | ⟨h4969, h⟩
            ·obtain ⟨r4970, h4971, h⟩ := bs h
             have e4972 := (an (dt h4969) (show VC Try.prog 27 [VV.ag (Ze r4935.1), VV.ag [VV.c (.slice none 0 0), VV.c (.slice none 0 0)]] (vb r4970) from (VC.Qzy (J6 k r4935.1 (⟨[], []⟩ : Qg) _ h4971) (fun h => WvL.rl (.cons (Wv.refl _) (.cons (Wv.agL (.cons (Wv.nil (k := 0)) (.cons (Wv.nil (k := 0)) .nil))) .nil)) h))))
             have e4973 := (ti (ti (ti (ti (an (an (dt h4969) tt) (an (an (dt h4969) tt) (an e4972 (an (dt h4969) (ti tt)))))))))
             injection h with h; subst h
             exact Qq pm pn Try.func4 (r0 := vb r4970) (ans := [.reg (.n :: .n :: []), .reg (.call (vb r4855) :: .n :: []), .br false, .reg (Qft r4858 r4861 r4865 r4869), .br false, .reg (Qf7 r4874 r4877 r4880 r4883), .reg (Qf8 r4887), .reg (nN 9 (.b false :: [])), .br false, .reg (.n :: []), .sub ⟨[(0, none), (3, none), (5, none), (7, none), (9, none)], [none], []⟩ (.exit 0) (Za a0 a1 r4883 r4887 r4926), .reg (Qhz r4874 r4877 r4880 r4935), .reg (nN 3 (.call (vi r4939) :: .n :: [])), .reg (.n :: .n :: []), .br true, .reg (nN 3 (.call (vi r4943) :: .n :: [])), .reg (nN 6 (.call (vb r4947) :: .n :: .b true :: [])), .br true, .reg (.n :: []), .reg (.n :: []), .reg (.n :: .n :: []), .br false, .reg (nN 6 (.call (vb r4970) :: .b true :: .n :: []))]) (fr := true) (by kernel_rfl) (an (an (ti (ti tt)) (an (an (an (Wl k _ h4856) (ti tt)) (an (Qs h4857) tt)) (an (an e4872 (an (Qs h4873) tt)) (an e4886 (an e4890 (an (an e4897 (an (Qs (dt h4898)) tt)) (an (an (ti tt) e4928) (an e4938 (an (ti (ti (ti (an e4941 (ti tt))))) (an (an (ti (ti tt)) (an (dt h4942) (ti (ti (ti (an e4945 (ti tt))))))) (an (an e4950 (an (Zj (Zm h4951)) (ti tt))) (an (ti tt) (an (an (ti (ti tt)) (an (show (decide ((4 : Int) = 0)) = false from (df (by decide))) tt)) (an e4973 tt)))))))))))))) (ti tt)) (Wv.refl _)
            ·have e4974 := (ti (ti (ti (ti (an (df h4969) (an (df h4969) (an (df h4969) (an (df h4969) (ti tt)))))))))
             injection h with h; subst h
             exact Qq pm pn Try.func4 (r0 := vb false) (ans := [.reg (.n :: .n :: []), .reg (.call (vb r4855) :: .n :: []), .br false, .reg (Qft r4858 r4861 r4865 r4869), .br false, .reg (Qf7 r4874 r4877 r4880 r4883), .reg (Qf8 r4887), .reg (nN 9 (.b false :: [])), .br false, .reg (.n :: []), .sub ⟨[(0, none), (3, none), (5, none), (7, none), (9, none)], [none], []⟩ (.exit 0) (Za a0 a1 r4883 r4887 r4926), .reg (Qhz r4874 r4877 r4880 r4935), .reg (nN 3 (.call (vi r4939) :: .n :: [])), .reg (.n :: .n :: []), .br true, .reg (nN 3 (.call (vi r4943) :: .n :: [])), .reg (nN 6 (.call (vb r4947) :: .n :: .b true :: [])), .br true, .reg (.n :: []), .reg (.n :: []), .reg (.n :: .n :: []), .br false, .reg (nN 4 (nS 3 (.b false :: .n :: [])))]) (fr := true) (by kernel_rfl) (an (an (ti (ti tt)) (an (an (an (Wl k _ h4856) (ti tt)) (an (Qs h4857) tt)) (an (an e4872 (an (Qs h4873) tt)) (an e4886 (an e4890 (an (an e4897 (an (Qs (dt h4898)) tt)) (an (an (ti tt) e4928) (an e4938 (an (ti (ti (ti (an e4941 (ti tt))))) (an (an (ti (ti tt)) (an (dt h4942) (ti (ti (ti (an e4945 (ti tt))))))) (an (an e4950 (an (Zj (Zm h4951)) (ti tt))) (an (ti tt) (an (an (ti (ti tt)) (an (show (decide ((4 : Int) = 0)) = false from (df (by decide))) tt)) (an e4974 tt)))))))))))))) (ti tt)) (Wv.refl _)
          ·have e4975 := (ti (ti (ti (an (df h4946) (an (df h4946) (an (df h4946) (an (df h4946) (an (df h4946) (an (df h4946) tt)))))))))
           rcases ifs h with ⟨h4976, h⟩ | ⟨h4976, h⟩
           ·obtain ⟨r4977, h4978, h⟩ := bs h
            have e4979 := (an (dt h4976) (show VC Try.prog 27 [VV.ag (Ze r4935.1), VV.ag [VV.c (.slice none 0 0), VV.c (.slice none 0 0)]] (vb r4977) from (VC.Qzy (J6 k r4935.1 (⟨[], []⟩ : Qg) _ h4978) (fun h => WvL.rl (.cons (Wv.refl _) (.cons (Wv.agL (.cons (Wv.nil (k := 0)) (.cons (Wv.nil (k := 0)) .nil))) .nil)) h))))
            have e4980 := (ti (ti (ti (ti (an (an (dt h4976) tt) (an (an (dt h4976) tt) (an e4979 (an (dt h4976) (ti tt)))))))))
            injection h with h; subst h
            exact Qq pm pn Try.func4 (r0 := vb r4977) (ans := [.reg (.n :: .n :: []), .reg (.call (vb r4855) :: .n :: []), .br false, .reg (Qft r4858 r4861 r4865 r4869), .br false, .reg (Qf7 r4874 r4877 r4880 r4883), .reg (Qf8 r4887), .reg (nN 9 (.b false :: [])), .br false, .reg (.n :: []), .sub ⟨[(0, none), (3, none), (5, none), (7, none), (9, none)], [none], []⟩ (.exit 0) (Za a0 a1 r4883 r4887 r4926), .reg (Qhz r4874 r4877 r4880 r4935), .reg (nN 3 (.call (vi r4939) :: .n :: [])), .reg (.n :: .n :: []), .br true, .reg (nN 3 (.call (vi r4943) :: .n :: [])), .reg (nN 3 (nS 5 (.b false :: []))), .br false, .reg (.n :: []), .reg (.n :: .n :: []), .br false, .reg (nN 6 (.call (vb r4977) :: .b true :: .n :: []))]) (fr := true) (by kernel_rfl) (an (an (ti (ti tt)) (an (an (an (Wl k _ h4856) (ti tt)) (an (Qs h4857) tt)) (an (an e4872 (an (Qs h4873) tt)) (an e4886 (an e4890 (an (an e4897 (an (Qs (dt h4898)) tt)) (an (an (ti tt) e4928) (an e4938 (an (ti (ti (ti (an e4941 (ti tt))))) (an (an (ti (ti tt)) (an (dt h4942) (ti (ti (ti (an e4945 (ti tt))))))) (an (an e4975 (an rf tt)) (an (ti tt) (an (an (ti (ti tt)) (an (df h4946) tt)) (an e4980 tt)))))))))))))) (ti tt)) (Wv.refl _)
           ·have e4981 := (ti (ti (ti (ti (an (df h4976) (an (df h4976) (an (df h4976) (an (df h4976) (ti tt)))))))))
            injection h with h; subst h
            exact Qq pm pn Try.func4 (r0 := vb false) (ans := [.reg (.n :: .n :: []), .reg (.call (vb r4855) :: .n :: []), .br false, .reg (Qft r4858 r4861 r4865 r4869), .br false, .reg (Qf7 r4874 r4877 r4880 r4883), .reg (Qf8 r4887), .reg (nN 9 (.b false :: [])), .br false, .reg (.n :: []), .sub ⟨[(0, none), (3, none), (5, none), (7, none), (9, none)], [none], []⟩ (.exit 0) (Za a0 a1 r4883 r4887 r4926), .reg (Qhz r4874 r4877 r4880 r4935), .reg (nN 3 (.call (vi r4939) :: .n :: [])), .reg (.n :: .n :: []), .br true, .reg (nN 3 (.call (vi r4943) :: .n :: [])), .reg (nN 3 (nS 5 (.b false :: []))), .br false, .reg (.n :: []), .reg (.n :: .n :: []), .br false, .reg (nN 4 (nS 3 (.b false :: .n :: [])))]) (fr := true) (by kernel_rfl) (an (an (ti (ti tt)) (an (an (an (Wl k _ h4856) (ti tt)) (an (Qs h4857) tt)) (an (an e4872 (an (Qs h4873) tt)) (an e4886 (an e4890 (an (an e4897 (an (Qs (dt h4898)) tt)) (an (an (ti tt) e4928) (an e4938 (an (ti (ti (ti (an e4941 (ti tt))))) (an (an (ti (ti tt)) (an (dt h4942) (ti (ti (ti (an e4945 (ti tt))))))) (an (an e4975 (an rf tt)) (an (ti tt) (an (an (ti (ti tt)) (an (df h4946) tt)) (an e4981 tt)))))))))))))) (ti tt)) (Wv.refl _)
         ·have e4982 := (ti (ti (ti (an (df h4942) (an (df h4942) (an (df h4942) (an (df h4942) (an (df h4942) (an (df h4942) tt)))))))))
          rcases ifs h with ⟨h4983, h⟩ | ⟨h4983, h⟩
          ·obtain ⟨r4984, h4985, h⟩ := bs h
           have e4986 := (an (dt h4983) (show VC Try.prog 27 [VV.ag (Ze r4935.1), VV.ag [VV.c (.slice none 0 0), VV.c (.slice none 0 0)]] (vb r4984) from (VC.Qzy (J6 k r4935.1 (⟨[], []⟩ : Qg) _ h4985) (fun h => WvL.rl (.cons (Wv.refl _) (.cons (Wv.agL (.cons (Wv.nil (k := 0)) (.cons (Wv.nil (k := 0)) .nil))) .nil)) h))))
           have e4987 := (ti (ti (ti (ti (an (an (dt h4983) tt) (an (an (dt h4983) tt) (an e4986 (an (dt h4983) (ti tt)))))))))
           injection h with h; subst h
           exact Qq pm pn Try.func4 (r0 := vb r4984) (ans := [.reg (.n :: .n :: []), .reg (.call (vb r4855) :: .n :: []), .br false, .reg (Qft r4858 r4861 r4865 r4869), .br false, .reg (Qf7 r4874 r4877 r4880 r4883), .reg (Qf8 r4887), .reg (nN 9 (.b false :: [])), .br false, .reg (.n :: []), .sub ⟨[(0, none), (3, none), (5, none), (7, none), (9, none)], [none], []⟩ (.exit 0) (Za a0 a1 r4883 r4887 r4926), .reg (Qhz r4874 r4877 r4880 r4935), .reg (nN 3 (.call (vi r4939) :: .n :: [])), .reg (.n :: .n :: []), .br false, .reg (nN 3 (nS 5 (.b false :: []))), .br false, .reg (.n :: []), .reg (.n :: .n :: []), .br false, .reg (nN 6 (.call (vb r4984) :: .b true :: .n :: []))]) (fr := true) (by kernel_rfl) (an (an (ti (ti tt)) (an (an (an (Wl k _ h4856) (ti tt)) (an (Qs h4857) tt)) (an (an e4872 (an (Qs h4873) tt)) (an e4886 (an e4890 (an (an e4897 (an (Qs (dt h4898)) tt)) (an (an (ti tt) e4928) (an e4938 (an (ti (ti (ti (an e4941 (ti tt))))) (an (an (ti (ti tt)) (an (df h4942) tt)) (an (an e4982 (an rf tt)) (an (ti tt) (an (an (ti (ti tt)) (an (df h4942) tt)) (an e4987 tt)))))))))))))) (ti tt)) (Wv.refl _)
          ·have e4988 := (ti (ti (ti (ti (an (df h4983) (an (df h4983) (an (df h4983) (an (df h4983) (ti tt)))))))))
           injection h with h; subst h
           exact Qq pm pn Try.func4 (r0 := vb false) (ans := [.reg (.n :: .n :: []), .reg (.call (vb r4855) :: .n :: []), .br false, .reg (Qft r4858 r4861 r4865 r4869), .br false, .reg (Qf7 r4874 r4877 r4880 r4883), .reg (Qf8 r4887), .reg (nN 9 (.b false :: [])), .br false, .reg (.n :: []), .sub ⟨[(0, none), (3, none), (5, none), (7, none), (9, none)], [none], []⟩ (.exit 0) (Za a0 a1 r4883 r4887 r4926), .reg (Qhz r4874 r4877 r4880 r4935), .reg (nN 3 (.call (vi r4939) :: .n :: [])), .reg (.n :: .n :: []), .br false, .reg (nN 3 (nS 5 (.b false :: []))), .br false, .reg (.n :: []), .reg (.n :: .n :: []), .br false, .reg (nN 4 (nS 3 (.b false :: .n :: [])))]) (fr := true) (by kernel_rfl) (an (an (ti (ti tt)) (an (an (an (Wl k _ h4856) (ti tt)) (an (Qs h4857) tt)) (an (an e4872 (an (Qs h4873) tt)) (an e4886 (an e4890 (an (an e4897 (an (Qs (dt h4898)) tt)) (an (an (ti tt) e4928) (an e4938 (an (ti (ti (ti (an e4941 (ti tt))))) (an (an (ti (ti tt)) (an (df h4942) tt)) (an (an e4982 (an rf tt)) (an (ti tt) (an (an (ti (ti tt)) (an (df h4942) tt)) (an e4988 tt)))))))))))))) (ti tt)) (Wv.refl _)
       ·injection h with h; subst h
        exact Qq pm pn Try.func4 (r0 := vb false) (ans := [.reg (.n :: .n :: []), .reg (.call (vb r4855) :: .n :: []), .br false, .reg (Qft r4858 r4861 r4865 r4869), .br false, .reg (Qf7 r4874 r4877 r4880 r4883), .reg (Qf8 r4887), .reg (nN 9 (.b false :: [])), .br true, .reg (.n :: [])]) (fr := true) (by kernel_rfl) (an (an (ti (ti tt)) (an (an (an (Wl k _ h4856) (ti tt)) (an (Qs h4857) tt)) (an (an e4872 (an (Qs h4873) tt)) (an e4886 (an e4890 (an e4897 (an (Zj (df h4898)) (an (ti tt) tt)))))))) (ti tt)) (Wv.refl _)
      ·have e4989 := (ti (ti (ti (ti (an (Zj (df h4891)) (an (Zj (df h4891)) (an (Zj (df h4891)) (an (Zj (df h4891)) (an (Zj (df h4891)) (an (Zj (df h4891)) tt))))))))))
       injection h with h; subst h
       exact Qq pm pn Try.func4 (r0 := vb false) (ans := [.reg (.n :: .n :: []), .reg (.call (vb r4855) :: .n :: []), .br false, .reg (Qft r4858 r4861 r4865 r4869), .br false, .reg (Qf7 r4874 r4877 r4880 r4883), .reg (Qf8 r4887), .reg (nN 4 (nS 5 (.b true :: []))), .br true, .reg (.n :: [])]) (fr := true) (by kernel_rfl) (an (an (ti (ti tt)) (an (an (an (Wl k _ h4856) (ti tt)) (an (Qs h4857) tt)) (an (an e4872 (an (Qs h4873) tt)) (an e4886 (an e4890 (an e4989 (an rt (an (ti tt) tt)))))))) (ti tt)) (Wv.refl _)
     ·injection h with h; subst h
      exact Qq pm pn Try.func4 (r0 := vb true) (ans := [.reg (.n :: .n :: []), .reg (.call (vb r4855) :: .n :: []), .br false, .reg (Qft r4858 r4861 r4865 r4869), .br true, .reg (.n :: [])]) (fr := true) (by kernel_rfl) (an (an (ti (ti tt)) (an (an (an (Wl k _ h4856) (ti tt)) (an (Qs h4857) tt)) (an e4872 (an (Zj (Zm h4873)) (an (ti tt) tt))))) (ti tt)) (Wv.refl _)
    ·have e4990 := (ti (an (Qay k a0 _ h4859) (ti (ti (an (an (Qs h4860) tt) (an (an (Qs h4860) tt) (an e4863 (an (an (Qs h4860) tt) (an (Qs h4860) (ti (an (an (Qs h4864) tt) (an (an (Qs h4864) tt) (an e4867 (an (an (Qs h4864) tt) (an (Qs h4864) (ti (an (Zj (Zm h4868)) (an (Zj (Zm h4868)) (an (Zj (Zm h4868)) (an (Zj (Zm h4868)) (an (Zj (Zm h4868)) (an (Zj (Zm h4868)) tt))))))))))))))))))))))
     injection h with h; subst h
     exact Qq pm pn Try.func4 (r0 := vb true) (ans := [.reg (.n :: .n :: []), .reg (.call (vb r4855) :: .n :: []), .br false, .reg (Q1p r4858 r4861 r4865), .br true, .reg (.n :: [])]) (fr := true) (by kernel_rfl) (an (an (ti (ti tt)) (an (an (an (Wl k _ h4856) (ti tt)) (an (Qs h4857) tt)) (an e4990 (an rt (an (ti tt) tt))))) (ti tt)) (Wv.refl _)
   ·have e4991 := (ti (an (Qay k a0 _ h4859) (ti (ti (an (an (Qs h4860) tt) (an (an (Qs h4860) tt) (an e4863 (an (an (Qs h4860) tt) (an (Qs h4860) (ti (an (Zj (Zm h4864)) (an (Zj (Zm h4864)) (an (Zj (Zm h4864)) (an (Zj (Zm h4864)) (an (Zj (Zm h4864)) (ti (an rt (an rt (an rt (an rt (an rt (an rt tt))))))))))))))))))))))
    injection h with h; subst h
    exact Qq pm pn Try.func4 (r0 := vb true) (ans := [.reg (.n :: .n :: []), .reg (.call (vb r4855) :: .n :: []), .br false, .reg (Q1q r4858 r4861), .br true, .reg (.n :: [])]) (fr := true) (by kernel_rfl) (an (an (ti (ti tt)) (an (an (an (Wl k _ h4856) (ti tt)) (an (Qs h4857) tt)) (an e4991 (an rt (an (ti tt) tt))))) (ti tt)) (Wv.refl _)
  ·have e4992 := (ti (an (Qay k a0 _ h4859) (ti (ti (an (Zj (Zm h4860)) (an (Zj (Zm h4860)) (an (Zj (Zm h4860)) (an (Zj (Zm h4860)) (an (Zj (Zm h4860)) (ti (an rt (an rt (an rt (an rt (an rt (ti (an rt (an rt (an rt (an rt (an rt (an rt tt))))))))))))))))))))))
   injection h with h; subst h
   exact Qq pm pn Try.func4 (r0 := vb true) (ans := [.reg (.n :: .n :: []), .reg (.call (vb r4855) :: .n :: []), .br false, .reg (Q1r r4858), .br true, .reg (.n :: [])]) (fr := true) (by kernel_rfl) (an (an (ti (ti tt)) (an (an (an (Wl k _ h4856) (ti tt)) (an (Qs h4857) tt)) (an e4992 (an rt (an (ti tt) tt))))) (ti tt)) (Wv.refl _)
 ·injection h with h; subst h
  exact Qq pm pn Try.func4 (r0 := vb false) (ans := [.reg (.n :: .n :: []), .reg (.call (vb r4855) :: .n :: []), .br true, .reg (.n :: [])]) (fr := true) (by kernel_rfl) (an (an (ti (ti tt)) (an (an (Wl k _ h4856) (ti tt)) (an (Zj (Zm h4857)) (an (ti tt) tt)))) (ti tt)) (Wv.refl _)
end Go.Proofs.Ytiekbdbedonnoaa.Vg

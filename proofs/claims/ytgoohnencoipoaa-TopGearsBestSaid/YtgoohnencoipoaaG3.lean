import Derived.Test.YtgoohnencoipoaaG2
namespace Go.Proofs.Ytgoohnencoipoaa.Vg
set_option maxRecDepth 100000
set_option maxHeartbeats 4000000
set_option linter.unusedVariables false
set_option linter.unusedSimpArgs false
open Go Go.Proofs.Ytgoohnencoipoaa.Ev Go.Proofs.Ytgoohnencoipoaa.Vv
open List (flatMap length_cons length_nil length_map length_append map_cons map_nil length_replicate)
theorem Qxh : EqOK Try.prog 23 [some (.i .i64), some (.i .i64)] := Qvz (by kernel_rfl) (by kernel_rfl) (Qqk Try.underlying23 (by kernel_rfl) (by kernel_rfl) (by kernel_rfl) (.cons (by decide +kernel) rfl (Qse Try.underlying3 (by kernel_rfl) (by kernel_rfl)) (.cons (by decide +kernel) rfl (Qse Try.underlying3 (by kernel_rfl) (by kernel_rfl)) .nil)))
def Qq7 (k : Nat) : Option Bool := some true
theorem Zf (k : Nat) (r : Bool) (h : Qq7 k = some r) : VC Try.prog 4 [] (vb r) := by
 injection h with h; subst h
 exact Qt9
theorem Qj8 (z0 : Qc) (z1 : Int) (z2 : Int) (z3 : ((List Qc) × Int)) (z4 : Int) : [VV.ag (Qa z0), VV.ag (Qd (⟨z1, z2⟩ : Qe)), VV.ag (Qd (⟨(z3.1.getD z4.toNat default).Num, (z3.1.getD z4.toNat default).Den⟩ : Qe))] = [VV.ag (Qa z0), VV.ag [vi z1, vi z2], VV.ag (Qa (z3.1.getD z4.toNat default))] := by first | rfl | (simp only [Zl, map_cons, map_nil, un_i, Qj, Ja]; done) | (simp only [Zl, map_cons, map_nil, un_i, Qj, Ja]; rfl) | (simp only [Zl, map_cons, map_nil, un_i, Qj, Ja, Qa, Qd, length_cons, length_nil, length_append]; done)
def Yl (z0 : Int) (z1 : Int) : List Ans := (nN 7 (.b false :: .n :: .n :: .call (vi z0) :: .n :: .b false :: .n :: .n :: .call (vi z1) :: .n :: .b false :: []))
def Xi (a0 : Qc) (r2689 : ((List Qc) × Int)) (x21 : Int) (x24 : Int) (x25 : Int) : VS := ⟨mkA [(3, VV.pt 0 0), (19, VV.fr (flatMap Qa r2689.1) r2689.1.length), (21, vi x21), (22, VV.pt 1 0), (23, VV.pt 2 0), (24, vi x24), (25, vi x25)], [some ⟨true, 1, Qa a0⟩, some ⟨true, 1, Qa (r2689.1.getD x21.toNat default)⟩, some ⟨true, 1, Qa (r2689.1.getD x21.toNat default)⟩], .nil⟩
def Jf (a0 : Qc) (r2689 : ((List Qc) × Int)) (x21 : Int) (x24 : Int) (r : Unit) : VS := ⟨mkA [(6, vb false)], [], .nil⟩
def Jg (a0 : Qc) (r2689 : ((List Qc) × Int)) (x21 : Int) (x24 : Int) (r : Unit) : VS := ⟨mkA [(3, VV.pt 0 0), (19, VV.fr (flatMap Qa r2689.1) r2689.1.length), (21, vi x21), (22, VV.pt 1 0), (23, VV.pt 2 0), (24, vi x24)], [some ⟨true, 1, Qa a0⟩, some ⟨true, 1, Qa (r2689.1.getD x21.toNat default)⟩, some ⟨true, 1, Qa (r2689.1.getD x21.toNat default)⟩], .nil⟩
def Qw (k : Nat) (a0 : Qc) (r2689 : ((List Qc) × Int)) (x21 : Int) (x24 : Int) : Nat -> Int -> Option (Sum Unit Unit)
 | 0, _ => none
 | fuel + 1, x25 => if x25 <= 60 then ((Zk k a0 (⟨x25, x24⟩ : Qe) (⟨(r2689.1.getD x21.toNat default).Num, (r2689.1.getD x21.toNat default).Den⟩ : Qe)).bind fun r2934 => (if r2934 = true then (some (.inl ())) else (Qw k a0 r2689 x21 x24 fuel (w64 (x25 + 1))))) else (some (.inr ()))
theorem Qbd (k : Nat) (a0 : Qc) (r2689 : ((List Qc) × Int)) (x21 : Int) (x24 : Int) : ∀ (fuel : Nat) (x25 : Int) (r : Sum Unit Unit), Qw k a0 r2689 x21 x24 fuel x25 = some r -> (match r with | .inl r => X7 none Try.prog (szF Try.f3) (Z9 Try.f3 2) (Xi a0 r2689 x21 x24 x25) .ret (Jf a0 r2689 x21 x24 r) | .inr r => X7 none Try.prog (szF Try.f3) (Z9 Try.f3 2) (Xi a0 r2689 x21 x24 x25) (.exit 4) (Jg a0 r2689 x21 x24 r)) := by
 intro fuel
 induction fuel with
 | zero => intro x25 r h; rw [Qw.eq_1] at h; cases h
 | succ fuel ih =>
  intro x25 r h
  rw [Qw.eq_2] at h
  rcases ifs h with ⟨h2933, h⟩ | ⟨h2933, h⟩
  ·obtain ⟨r2934, h2935, h⟩ := bs h
   have e2936 := (VC.args (Xg k a0 (⟨x25, x24⟩ : Qe) (⟨(r2689.1.getD x21.toNat default).Num, (r2689.1.getD x21.toNat default).Den⟩ : Qe) _ h2935) (Qj8 a0 x25 x24 r2689 x21))
   rcases ifs h with ⟨h2937, h⟩ | ⟨h2937, h⟩
   ·injection h with h; subst h
    exact Qh (c := ⟨[(6, none)], [], []⟩) (s1 := (Jf a0 r2689 x21 x24 ())) pm pn (ans := [.reg (.n :: .n :: []), .br true, .reg (nN 5 (.call (vb r2934) :: [])), .br true, .reg (.n :: [])]) (by kernel_rfl) (by intro e; cases e) (an (an (an (ti (ti tt)) (an (dt h2933) tt)) (an (ti (ti (ti (ti (ti (an e2936 tt)))))) (an h2937 (an (ti tt) tt)))) (ti tt))
   ·have h2 := ih _ _ h
    obtain ⟨q, hv, hq⟩ := pkR (rd := none) (P := Try.prog) (fn := Try.f3) (k := 2) (s := (Xi a0 r2689 x21 x24 x25)) (ans := [.reg (.n :: .n :: []), .br true, .reg (nN 5 (.call (vb r2934) :: [])), .br false, .reg (nN 3 [])]) (c := ⟨[(3, none), (19, none), (21, none), (22, none), (23, none), (24, none), (25, none)], [none, none, none], []⟩) (e := .normal) (s1 := (Xi a0 r2689 x21 x24 (w64 (x25 + 1)))) (an (an (an (ti (ti tt)) (an (dt h2933) tt)) (an (an (ti (ti (ti (ti (ti (an e2936 tt)))))) (an (Qby h2937) tt)) (ti (ti (ti tt))))) (ti tt)) (by kernel_rfl)
    cases r with
    | inl r => exact Ql pm pn hv hq h2
    | inr r =>
     exact Ql pm pn hv hq h2
  ·injection h with h; subst h
   exact Qh (c := ⟨[(3, none), (19, none), (21, none), (22, none), (23, none), (24, none)], [none, none, none], []⟩) (s1 := (Jg a0 r2689 x21 x24 ())) pm pn (ans := [.reg (.n :: .n :: []), .br false]) (by kernel_rfl) (by intro e; cases e) (an (an (ti (ti tt)) (an (df h2933) tt)) (ti tt))
def Xj (a0 : Qc) (r2689 : ((List Qc) × Int)) (x21 : Int) (x24 : Int) : VS := ⟨mkA [(3, VV.pt 0 0), (19, VV.fr (flatMap Qa r2689.1) r2689.1.length), (21, vi x21), (22, VV.pt 1 0), (23, VV.pt 2 0), (24, vi x24)], [some ⟨true, 1, Qa a0⟩, some ⟨true, 1, Qa (r2689.1.getD x21.toNat default)⟩, some ⟨true, 1, Qa (r2689.1.getD x21.toNat default)⟩], .nil⟩
def Jh (a0 : Qc) (r2689 : ((List Qc) × Int)) (x21 : Int) (r : Unit) : VS := ⟨mkA [(6, vb false)], [], .nil⟩
def Ji (a0 : Qc) (r2689 : ((List Qc) × Int)) (x21 : Int) (r : Unit) : VS := ⟨mkA [(3, VV.pt 0 0), (19, VV.fr (flatMap Qa r2689.1) r2689.1.length), (21, vi x21)], [some ⟨true, 1, Qa a0⟩], .nil⟩
def Qx (k : Nat) (a0 : Qc) (r2689 : ((List Qc) × Int)) (x21 : Int) : Nat -> Int -> Option (Sum Unit Unit)
 | 0, _ => none
 | fuel + 1, x24 => if x24 <= ((r2689.1.getD x21.toNat default).Den) then ((Qw k a0 r2689 x21 x24 k 1).bind fun r2939 => (match r2939 with | .inl r2940 => (some (.inl ())) | .inr r2941 => (Qx k a0 r2689 x21 fuel (w64 (x24 + 1))))) else (some (.inr ()))
theorem Qbe (k : Nat) (a0 : Qc) (r2689 : ((List Qc) × Int)) (x21 : Int) : ∀ (fuel : Nat) (x24 : Int) (r : Sum Unit Unit), Qx k a0 r2689 x21 fuel x24 = some r -> (match r with | .inl r => X7 none Try.prog (szF Try.f3) (Z9 Try.f3 1) (Xj a0 r2689 x21 x24) .ret (Jh a0 r2689 x21 r) | .inr r => X7 none Try.prog (szF Try.f3) (Z9 Try.f3 1) (Xj a0 r2689 x21 x24) (.exit 2) (Ji a0 r2689 x21 r)) := by
 intro fuel
 induction fuel with
 | zero => intro x24 r h; rw [Qx.eq_1] at h; cases h
 | succ fuel ih =>
  intro x24 r h
  rw [Qx.eq_2] at h
  rcases ifs h with ⟨h2923, h⟩ | ⟨h2923, h⟩
  ·obtain ⟨r2939, h2938, h⟩ := bs h
   have hph2938 := Qbd k a0 r2689 x21 x24 _ _ _ h2938
   cases r2939 with
   | inl r2940 =>
    dsimp only at h
    have e2942 := (an (ti tt) (VRun.loop hph2938))
    injection h with h; subst h
    exact Qh (c := ⟨[(6, none)], [], []⟩) (s1 := (Jh a0 r2689 x21 ())) pm pn (ans := [.reg (nN 4 []), .br true, .reg (.n :: []), .sub ⟨[(3, none), (19, none), (21, none), (22, none), (23, none), (24, none), (25, none)], [none, none, none], []⟩ .ret (Jf a0 r2689 x21 x24 r2940)]) (by kernel_rfl) (by intro e; cases e) (an (an (an (ti (ti (ti (ti tt)))) (an (dt h2923) tt)) (an (ti tt) e2942)) (ti tt))
   | inr r2941 =>
    dsimp only at h
    have e2943 := (an (ti tt) (VRun.loop hph2938))
    have h2 := ih _ _ h
    obtain ⟨q, hv, hq⟩ := pkR (rd := none) (P := Try.prog) (fn := Try.f3) (k := 1) (s := (Xj a0 r2689 x21 x24)) (ans := [.reg (nN 4 []), .br true, .reg (.n :: []), .sub ⟨[(3, none), (19, none), (21, none), (22, none), (23, none), (24, none), (25, none)], [none, none, none], []⟩ (.exit 4) (Jg a0 r2689 x21 x24 r2941), .reg (nN 3 [])]) (c := ⟨[(3, none), (19, none), (21, none), (22, none), (23, none), (24, none)], [none, none, none], []⟩) (e := .normal) (s1 := (Xj a0 r2689 x21 (w64 (x24 + 1)))) (an (an (an (ti (ti (ti (ti tt)))) (an (dt h2923) tt)) (an (an (ti tt) e2943) (ti (ti (ti tt))))) (ti tt)) (by kernel_rfl)
    cases r with
    | inl r => exact Ql pm pn hv hq h2
    | inr r =>
     exact Ql pm pn hv hq h2
  ·injection h with h; subst h
   exact Qh (c := ⟨[(3, none), (19, none), (21, none)], [none], []⟩) (s1 := (Ji a0 r2689 x21 ())) pm pn (ans := [.reg (nN 4 []), .br false]) (by kernel_rfl) (by intro e; cases e) (an (an (ti (ti (ti (ti tt)))) (an (df h2923) tt)) (ti tt))
def Xk (a0 : Qc) (r2689 : ((List Qc) × Int)) (x21 : Int) : VS := ⟨mkA [(3, VV.pt 0 0), (19, VV.fr (flatMap Qa r2689.1) r2689.1.length), (21, vi x21)], [some ⟨true, 1, Qa a0⟩], .nil⟩
def Zq (a0 : Qc) (r2689 : ((List Qc) × Int)) (r : Unit) : VS := ⟨mkA [(6, vb false)], [], .nil⟩
def Zr (a0 : Qc) (r2689 : ((List Qc) × Int)) (r : Unit) : VS := ⟨mkA [], [], .nil⟩
def Qn (k : Nat) (a0 : Qc) (r2689 : ((List Qc) × Int)) : Nat -> Int -> Option (Sum Unit Unit)
 | 0, _ => none
 | fuel + 1, x21 => if x21 < (r2689.1.length : Int) then (if 0 <= x21 /\ x21 < (r2689.1.length : Int) then ((Qi k (r2689.1.getD x21.toNat default)).bind fun r2868 => (if r2868 = 0 then (if ((r2689.1.getD x21.toNat default).Num) < 1 then (some (.inl ())) else (if 60 < ((r2689.1.getD x21.toNat default).Num) then (some (.inr ())) else (if 60 < ((r2689.1.getD x21.toNat default).Den) then (some (.inr ())) else ((Qx k a0 r2689 x21 k 1).bind fun r2945 => (match r2945 with | .inl r2946 => (some (.inl ())) | .inr r2947 => (Qn k a0 r2689 fuel (w64 (x21 + 1)))))))) else (some (.inl ())))) else none) else (some (.inr ()))
theorem Qbf (k : Nat) (a0 : Qc) (r2689 : ((List Qc) × Int)) : ∀ (fuel : Nat) (x21 : Int) (r : Sum Unit Unit), Qn k a0 r2689 fuel x21 = some r -> (match r with | .inl r => X7 none Try.prog (szF Try.f3) (Z9 Try.f3 0) (Xk a0 r2689 x21) .ret (Zq a0 r2689 r) | .inr r => X7 none Try.prog (szF Try.f3) (Z9 Try.f3 0) (Xk a0 r2689 x21) (.exit 0) (Zr a0 r2689 r)) := by
 intro fuel
 induction fuel with
 | zero => intro x21 r h; rw [Qn.eq_1] at h; cases h
 | succ fuel ih =>
  intro x21 r h
  rw [Qn.eq_2] at h
  rcases ifs h with ⟨h2865, h⟩ | ⟨h2865, h⟩
  ·obtain ⟨h2866, h⟩ := ifn h
   have e2867 := (show Qch Try.prog 23 (x21.toNat * 2) (flatMap Qa r2689.1) = some (VV.ag (Qa (r2689.1.getD x21.toNat default))) from Qa1 ag23 Qa 2 sz23 Jd r2689.1 default h2866 (by omega))
   obtain ⟨r2868, h2869, h⟩ := bs h
   have e2870 := (Qm k (r2689.1.getD x21.toNat default) _ h2869)
   rcases ifs h with ⟨h2871, h⟩ | ⟨h2871, h⟩
   ·have e2872 := (an (Qk (dt h2871)) tt)
    have e2873 := (an (Qk (dt h2871)) tt)
    have e2874 := (an (Qk (dt h2871)) tt)
    have e2875 := (ti (an e2870 (ti (ti (an e2872 (an e2873 (an e2874 (an (Qk (dt h2871)) tt))))))))
    rcases ifs h with ⟨h2876, h⟩ | ⟨h2876, h⟩
    ·injection h with h; subst h
     exact Qh (c := ⟨[(6, none)], [], []⟩) (s1 := (Zq a0 r2689 ())) pm pn (ans := [.reg (nN 4 []), .br true, .reg (nN 3 (.v (VV.ag (Qa (r2689.1.getD x21.toNat default))) :: .n :: .n :: [])), .reg (.n :: .call (vi r2868) :: nN 5 (.b false :: [])), .br true, .reg (.n :: [])]) (by kernel_rfl) (by intro e; cases e) (an (an (an (ti (ti (ti (ti tt)))) (an (dt h2865) tt)) (an (ti (ti (an h2866 (an e2867 (ti (ti tt)))))) (an e2875 (an (dt h2876) (an (ti tt) tt))))) (ti tt))
    ·rcases ifs h with ⟨h2877, h⟩ | ⟨h2877, h⟩
     ·have e2878 := (ti (ti (ti (ti (an (dt h2877) (an (dt h2877) (an (dt h2877) (an (dt h2877) tt))))))))
      injection h with h; subst h
      exact Qh (c := ⟨[], [], []⟩) (s1 := (Zr a0 r2689 ())) pm pn (ans := [.reg (nN 4 []), .br true, .reg (nN 3 (.v (VV.ag (Qa (r2689.1.getD x21.toNat default))) :: .n :: .n :: [])), .reg (.n :: .call (vi r2868) :: nN 5 (.b false :: [])), .br false, .reg (nN 4 (nS 3 (.b true :: []))), .br true]) (by kernel_rfl) (by intro e; cases e) (an (an (an (ti (ti (ti (ti tt)))) (an (dt h2865) tt)) (an (ti (ti (an h2866 (an e2867 (ti (ti tt)))))) (an (an e2875 (an (df h2876) tt)) (an e2878 (an rt tt))))) (ti tt))
     ·have e2879 := (ti (ti (ti (ti (an (an (df h2877) tt) (an (an (df h2877) tt) (an (an (df h2877) tt) (an (df h2877) tt))))))))
      rcases ifs h with ⟨h2880, h⟩ | ⟨h2880, h⟩
      ·injection h with h; subst h
       exact Qh (c := ⟨[], [], []⟩) (s1 := (Zr a0 r2689 ())) pm pn (ans := [.reg (nN 4 []), .br true, .reg (nN 3 (.v (VV.ag (Qa (r2689.1.getD x21.toNat default))) :: .n :: .n :: [])), .reg (.n :: .call (vi r2868) :: nN 5 (.b false :: [])), .br false, .reg (nN 7 (.b false :: [])), .br true]) (by kernel_rfl) (by intro e; cases e) (an (an (an (ti (ti (ti (ti tt)))) (an (dt h2865) tt)) (an (ti (ti (an h2866 (an e2867 (ti (ti tt)))))) (an (an e2875 (an (df h2876) tt)) (an e2879 (an (dt h2880) tt))))) (ti tt))
      ·obtain ⟨r2945, h2944, h⟩ := bs h
       have hph2944 := Qbe k a0 r2689 x21 _ _ _ h2944
       cases r2945 with
       | inl r2946 =>
        dsimp only at h
        have e2948 := (an (ti tt) (VRun.loop hph2944))
        injection h with h; subst h
        exact Qh (c := ⟨[(6, none)], [], []⟩) (s1 := (Zq a0 r2689 ())) pm pn (ans := [.reg (nN 4 []), .br true, .reg (nN 3 (.v (VV.ag (Qa (r2689.1.getD x21.toNat default))) :: .n :: .n :: [])), .reg (.n :: .call (vi r2868) :: nN 5 (.b false :: [])), .br false, .reg (nN 7 (.b false :: [])), .br false, .reg (nN 7 []), .reg (.n :: []), .sub ⟨[(3, none), (19, none), (21, none), (22, none), (23, none), (24, none)], [none, none, none], []⟩ .ret (Jh a0 r2689 x21 r2946)]) (by kernel_rfl) (by intro e; cases e) (an (an (an (ti (ti (ti (ti tt)))) (an (dt h2865) tt)) (an (ti (ti (an h2866 (an e2867 (ti (ti tt)))))) (an (an e2875 (an (df h2876) tt)) (an (an e2879 (an (df h2880) tt)) (an (ti (ti (ti (ti (ti (ti (ti tt))))))) (an (ti tt) e2948)))))) (ti tt))
       | inr r2947 =>
        dsimp only at h
        have e2949 := (an (ti tt) (VRun.loop hph2944))
        have h2 := ih _ _ h
        obtain ⟨q, hv, hq⟩ := pkR (rd := none) (P := Try.prog) (fn := Try.f3) (k := 0) (s := (Xk a0 r2689 x21)) (ans := [.reg (nN 4 []), .br true, .reg (nN 3 (.v (VV.ag (Qa (r2689.1.getD x21.toNat default))) :: .n :: .n :: [])), .reg (.n :: .call (vi r2868) :: nN 5 (.b false :: [])), .br false, .reg (nN 7 (.b false :: [])), .br false, .reg (nN 7 []), .reg (.n :: []), .sub ⟨[(3, none), (19, none), (21, none), (22, none), (23, none), (24, none)], [none, none, none], []⟩ (.exit 2) (Ji a0 r2689 x21 r2947), .reg (nN 3 [])]) (c := ⟨[(3, none), (19, none), (21, none)], [none], []⟩) (e := .normal) (s1 := (Xk a0 r2689 (w64 (x21 + 1)))) (an (an (an (ti (ti (ti (ti tt)))) (an (dt h2865) tt)) (an (an (ti (ti (an h2866 (an e2867 (ti (ti tt)))))) (an (an e2875 (an (df h2876) tt)) (an (an e2879 (an (df h2880) tt)) (an (ti (ti (ti (ti (ti (ti (ti tt))))))) (an (ti tt) e2949))))) (ti (ti (ti tt))))) (ti tt)) (by kernel_rfl)
        cases r with
        | inl r => exact Ql pm pn hv hq h2
        | inr r =>
         exact Ql pm pn hv hq h2
   ·have e2950 := (ti (an e2870 (ti (ti (an (Zo (df h2871)) (an (Zo (df h2871)) (an (Zo (df h2871)) (an (Zo (df h2871)) tt))))))))
    injection h with h; subst h
    exact Qh (c := ⟨[(6, none)], [], []⟩) (s1 := (Zq a0 r2689 ())) pm pn (ans := [.reg (nN 4 []), .br true, .reg (nN 3 (.v (VV.ag (Qa (r2689.1.getD x21.toNat default))) :: .n :: .n :: [])), .reg (.n :: .call (vi r2868) :: .n :: .n :: nS 3 (.b true :: [])), .br true, .reg (.n :: [])]) (by kernel_rfl) (by intro e; cases e) (an (an (an (ti (ti (ti (ti tt)))) (an (dt h2865) tt)) (an (ti (ti (an h2866 (an e2867 (ti (ti tt)))))) (an e2950 (an rt (an (ti tt) tt))))) (ti tt))
  ·injection h with h; subst h
   exact Qh (c := ⟨[], [], []⟩) (s1 := (Zr a0 r2689 ())) pm pn (ans := [.reg (nN 4 []), .br false]) (by kernel_rfl) (by intro e; cases e) (an (an (ti (ti (ti (ti tt)))) (an (df h2865) tt)) (ti tt))
def Qb0 (z0 : ((List Qc) × Int)) : List Ans := (.n :: .call (VV.tu [VV.fr (flatMap Qa z0.1) z0.1.length, vi z0.2]) :: nN 5 [])
def Xl (a0 : Qc) (r2968 : ((List Qc) × Int)) (x21 : Int) (x24 : Int) (x25 : Int) : VS := ⟨mkA [(3, VV.pt 0 0), (19, VV.fr (flatMap Qa r2968.1) r2968.1.length), (21, vi x21), (22, VV.pt 1 0), (23, VV.pt 2 0), (24, vi x24), (25, vi x25)], [some ⟨true, 1, Qa a0⟩, some ⟨true, 1, Qa (r2968.1.getD x21.toNat default)⟩, some ⟨true, 1, Qa (r2968.1.getD x21.toNat default)⟩], .nil⟩
def Jj (a0 : Qc) (r2968 : ((List Qc) × Int)) (x21 : Int) (x24 : Int) (r : Unit) : VS := ⟨mkA [(6, vb false)], [], .nil⟩
def Jk (a0 : Qc) (r2968 : ((List Qc) × Int)) (x21 : Int) (x24 : Int) (r : Unit) : VS := ⟨mkA [(3, VV.pt 0 0), (19, VV.fr (flatMap Qa r2968.1) r2968.1.length), (21, vi x21), (22, VV.pt 1 0), (23, VV.pt 2 0), (24, vi x24)], [some ⟨true, 1, Qa a0⟩, some ⟨true, 1, Qa (r2968.1.getD x21.toNat default)⟩, some ⟨true, 1, Qa (r2968.1.getD x21.toNat default)⟩], .nil⟩
def Qy (k : Nat) (a0 : Qc) (r2968 : ((List Qc) × Int)) (x21 : Int) (x24 : Int) : Nat -> Int -> Option (Sum Unit Unit)
 | 0, _ => none
 | fuel + 1, x25 => if x25 <= 60 then ((Zk k a0 (⟨x25, x24⟩ : Qe) (⟨(r2968.1.getD x21.toNat default).Num, (r2968.1.getD x21.toNat default).Den⟩ : Qe)).bind fun r3213 => (if r3213 = true then (some (.inl ())) else (Qy k a0 r2968 x21 x24 fuel (w64 (x25 + 1))))) else (some (.inr ()))
theorem Qbg (k : Nat) (a0 : Qc) (r2968 : ((List Qc) × Int)) (x21 : Int) (x24 : Int) : ∀ (fuel : Nat) (x25 : Int) (r : Sum Unit Unit), Qy k a0 r2968 x21 x24 fuel x25 = some r -> (match r with | .inl r => X7 none Try.prog (szF Try.f3) (Z9 Try.f3 2) (Xl a0 r2968 x21 x24 x25) .ret (Jj a0 r2968 x21 x24 r) | .inr r => X7 none Try.prog (szF Try.f3) (Z9 Try.f3 2) (Xl a0 r2968 x21 x24 x25) (.exit 4) (Jk a0 r2968 x21 x24 r)) := by
 intro fuel
 induction fuel with
 | zero => intro x25 r h; rw [Qy.eq_1] at h; cases h
 | succ fuel ih =>
  intro x25 r h
  rw [Qy.eq_2] at h
  rcases ifs h with ⟨h3212, h⟩ | ⟨h3212, h⟩
  ·obtain ⟨r3213, h3214, h⟩ := bs h
   have e3215 := (VC.args (Xg k a0 (⟨x25, x24⟩ : Qe) (⟨(r2968.1.getD x21.toNat default).Num, (r2968.1.getD x21.toNat default).Den⟩ : Qe) _ h3214) (Qj8 a0 x25 x24 r2968 x21))
   rcases ifs h with ⟨h3216, h⟩ | ⟨h3216, h⟩
   ·injection h with h; subst h
    exact Qh (c := ⟨[(6, none)], [], []⟩) (s1 := (Jj a0 r2968 x21 x24 ())) pm pn (ans := [.reg (.n :: .n :: []), .br true, .reg (nN 5 (.call (vb r3213) :: [])), .br true, .reg (.n :: [])]) (by kernel_rfl) (by intro e; cases e) (an (an (an (ti (ti tt)) (an (dt h3212) tt)) (an (ti (ti (ti (ti (ti (an e3215 tt)))))) (an h3216 (an (ti tt) tt)))) (ti tt))
   ·have h2 := ih _ _ h
    obtain ⟨q, hv, hq⟩ := pkR (rd := none) (P := Try.prog) (fn := Try.f3) (k := 2) (s := (Xl a0 r2968 x21 x24 x25)) (ans := [.reg (.n :: .n :: []), .br true, .reg (nN 5 (.call (vb r3213) :: [])), .br false, .reg (nN 3 [])]) (c := ⟨[(3, none), (19, none), (21, none), (22, none), (23, none), (24, none), (25, none)], [none, none, none], []⟩) (e := .normal) (s1 := (Xl a0 r2968 x21 x24 (w64 (x25 + 1)))) (an (an (an (ti (ti tt)) (an (dt h3212) tt)) (an (an (ti (ti (ti (ti (ti (an e3215 tt)))))) (an (Qby h3216) tt)) (ti (ti (ti tt))))) (ti tt)) (by kernel_rfl)
    cases r with
    | inl r => exact Ql pm pn hv hq h2
    | inr r =>
     exact Ql pm pn hv hq h2
  ·injection h with h; subst h
   exact Qh (c := ⟨[(3, none), (19, none), (21, none), (22, none), (23, none), (24, none)], [none, none, none], []⟩) (s1 := (Jk a0 r2968 x21 x24 ())) pm pn (ans := [.reg (.n :: .n :: []), .br false]) (by kernel_rfl) (by intro e; cases e) (an (an (ti (ti tt)) (an (df h3212) tt)) (ti tt))
def Xm (a0 : Qc) (r2968 : ((List Qc) × Int)) (x21 : Int) (x24 : Int) : VS := ⟨mkA [(3, VV.pt 0 0), (19, VV.fr (flatMap Qa r2968.1) r2968.1.length), (21, vi x21), (22, VV.pt 1 0), (23, VV.pt 2 0), (24, vi x24)], [some ⟨true, 1, Qa a0⟩, some ⟨true, 1, Qa (r2968.1.getD x21.toNat default)⟩, some ⟨true, 1, Qa (r2968.1.getD x21.toNat default)⟩], .nil⟩
def Jl (a0 : Qc) (r2968 : ((List Qc) × Int)) (x21 : Int) (r : Unit) : VS := ⟨mkA [(6, vb false)], [], .nil⟩
def Jm (a0 : Qc) (r2968 : ((List Qc) × Int)) (x21 : Int) (r : Unit) : VS := ⟨mkA [(3, VV.pt 0 0), (19, VV.fr (flatMap Qa r2968.1) r2968.1.length), (21, vi x21)], [some ⟨true, 1, Qa a0⟩], .nil⟩
def Qz (k : Nat) (a0 : Qc) (r2968 : ((List Qc) × Int)) (x21 : Int) : Nat -> Int -> Option (Sum Unit Unit)
 | 0, _ => none
 | fuel + 1, x24 => if x24 <= ((r2968.1.getD x21.toNat default).Den) then ((Qy k a0 r2968 x21 x24 k 1).bind fun r3218 => (match r3218 with | .inl r3219 => (some (.inl ())) | .inr r3220 => (Qz k a0 r2968 x21 fuel (w64 (x24 + 1))))) else (some (.inr ()))
theorem Qbh (k : Nat) (a0 : Qc) (r2968 : ((List Qc) × Int)) (x21 : Int) : ∀ (fuel : Nat) (x24 : Int) (r : Sum Unit Unit), Qz k a0 r2968 x21 fuel x24 = some r -> (match r with | .inl r => X7 none Try.prog (szF Try.f3) (Z9 Try.f3 1) (Xm a0 r2968 x21 x24) .ret (Jl a0 r2968 x21 r) | .inr r => X7 none Try.prog (szF Try.f3) (Z9 Try.f3 1) (Xm a0 r2968 x21 x24) (.exit 2) (Jm a0 r2968 x21 r)) := by
 intro fuel
 induction fuel with
 | zero => intro x24 r h; rw [Qz.eq_1] at h; cases h
 | succ fuel ih =>
  intro x24 r h
  rw [Qz.eq_2] at h
  rcases ifs h with ⟨h3202, h⟩ | ⟨h3202, h⟩
  ·obtain ⟨r3218, h3217, h⟩ := bs h
   have hph3217 := Qbg k a0 r2968 x21 x24 _ _ _ h3217
   cases r3218 with
   | inl r3219 =>
    dsimp only at h
    have e3221 := (an (ti tt) (VRun.loop hph3217))
    injection h with h; subst h
    exact Qh (c := ⟨[(6, none)], [], []⟩) (s1 := (Jl a0 r2968 x21 ())) pm pn (ans := [.reg (nN 4 []), .br true, .reg (.n :: []), .sub ⟨[(3, none), (19, none), (21, none), (22, none), (23, none), (24, none), (25, none)], [none, none, none], []⟩ .ret (Jj a0 r2968 x21 x24 r3219)]) (by kernel_rfl) (by intro e; cases e) (an (an (an (ti (ti (ti (ti tt)))) (an (dt h3202) tt)) (an (ti tt) e3221)) (ti tt))
   | inr r3220 =>
    dsimp only at h
    have e3222 := (an (ti tt) (VRun.loop hph3217))
    have h2 := ih _ _ h
    obtain ⟨q, hv, hq⟩ := pkR (rd := none) (P := Try.prog) (fn := Try.f3) (k := 1) (s := (Xm a0 r2968 x21 x24)) (ans := [.reg (nN 4 []), .br true, .reg (.n :: []), .sub ⟨[(3, none), (19, none), (21, none), (22, none), (23, none), (24, none), (25, none)], [none, none, none], []⟩ (.exit 4) (Jk a0 r2968 x21 x24 r3220), .reg (nN 3 [])]) (c := ⟨[(3, none), (19, none), (21, none), (22, none), (23, none), (24, none)], [none, none, none], []⟩) (e := .normal) (s1 := (Xm a0 r2968 x21 (w64 (x24 + 1)))) (an (an (an (ti (ti (ti (ti tt)))) (an (dt h3202) tt)) (an (an (ti tt) e3222) (ti (ti (ti tt))))) (ti tt)) (by kernel_rfl)
    cases r with
    | inl r => exact Ql pm pn hv hq h2
    | inr r =>
     exact Ql pm pn hv hq h2
  ·injection h with h; subst h
   exact Qh (c := ⟨[(3, none), (19, none), (21, none)], [none], []⟩) (s1 := (Jm a0 r2968 x21 ())) pm pn (ans := [.reg (nN 4 []), .br false]) (by kernel_rfl) (by intro e; cases e) (an (an (ti (ti (ti (ti tt)))) (an (df h3202) tt)) (ti tt))
def Xn (a0 : Qc) (r2968 : ((List Qc) × Int)) (x21 : Int) : VS := ⟨mkA [(3, VV.pt 0 0), (19, VV.fr (flatMap Qa r2968.1) r2968.1.length), (21, vi x21)], [some ⟨true, 1, Qa a0⟩], .nil⟩
def Zt (a0 : Qc) (r2968 : ((List Qc) × Int)) (r : Unit) : VS := ⟨mkA [(6, vb false)], [], .nil⟩
def Zu (a0 : Qc) (r2968 : ((List Qc) × Int)) (r : Unit) : VS := ⟨mkA [], [], .nil⟩
def Qo (k : Nat) (a0 : Qc) (r2968 : ((List Qc) × Int)) : Nat -> Int -> Option (Sum Unit Unit)
 | 0, _ => none
 | fuel + 1, x21 => if x21 < (r2968.1.length : Int) then (if 0 <= x21 /\ x21 < (r2968.1.length : Int) then ((Qi k (r2968.1.getD x21.toNat default)).bind fun r3147 => (if r3147 = 0 then (if ((r2968.1.getD x21.toNat default).Num) < 1 then (some (.inl ())) else (if 60 < ((r2968.1.getD x21.toNat default).Num) then (some (.inr ())) else (if 60 < ((r2968.1.getD x21.toNat default).Den) then (some (.inr ())) else ((Qz k a0 r2968 x21 k 1).bind fun r3224 => (match r3224 with | .inl r3225 => (some (.inl ())) | .inr r3226 => (Qo k a0 r2968 fuel (w64 (x21 + 1)))))))) else (some (.inl ())))) else none) else (some (.inr ()))
theorem Qbi (k : Nat) (a0 : Qc) (r2968 : ((List Qc) × Int)) : ∀ (fuel : Nat) (x21 : Int) (r : Sum Unit Unit), Qo k a0 r2968 fuel x21 = some r -> (match r with | .inl r => X7 none Try.prog (szF Try.f3) (Z9 Try.f3 0) (Xn a0 r2968 x21) .ret (Zt a0 r2968 r) | .inr r => X7 none Try.prog (szF Try.f3) (Z9 Try.f3 0) (Xn a0 r2968 x21) (.exit 0) (Zu a0 r2968 r)) := by
 intro fuel
 induction fuel with
 | zero => intro x21 r h; rw [Qo.eq_1] at h; cases h
 | succ fuel ih =>
  intro x21 r h
  rw [Qo.eq_2] at h
  rcases ifs h with ⟨h3144, h⟩ | ⟨h3144, h⟩
  ·obtain ⟨h3145, h⟩ := ifn h
   have e3146 := (show Qch Try.prog 23 (x21.toNat * 2) (flatMap Qa r2968.1) = some (VV.ag (Qa (r2968.1.getD x21.toNat default))) from Qa1 ag23 Qa 2 sz23 Jd r2968.1 default h3145 (by omega))
   obtain ⟨r3147, h3148, h⟩ := bs h
   have e3149 := (Qm k (r2968.1.getD x21.toNat default) _ h3148)
   rcases ifs h with ⟨h3150, h⟩ | ⟨h3150, h⟩
   ·have e3151 := (an (Qk (dt h3150)) tt)
    have e3152 := (an (Qk (dt h3150)) tt)
    have e3153 := (an (Qk (dt h3150)) tt)
    have e3154 := (ti (an e3149 (ti (ti (an e3151 (an e3152 (an e3153 (an (Qk (dt h3150)) tt))))))))
    rcases ifs h with ⟨h3155, h⟩ | ⟨h3155, h⟩
    ·injection h with h; subst h
     exact Qh (c := ⟨[(6, none)], [], []⟩) (s1 := (Zt a0 r2968 ())) pm pn (ans := [.reg (nN 4 []), .br true, .reg (nN 3 (.v (VV.ag (Qa (r2968.1.getD x21.toNat default))) :: .n :: .n :: [])), .reg (.n :: .call (vi r3147) :: nN 5 (.b false :: [])), .br true, .reg (.n :: [])]) (by kernel_rfl) (by intro e; cases e) (an (an (an (ti (ti (ti (ti tt)))) (an (dt h3144) tt)) (an (ti (ti (an h3145 (an e3146 (ti (ti tt)))))) (an e3154 (an (dt h3155) (an (ti tt) tt))))) (ti tt))
    ·rcases ifs h with ⟨h3156, h⟩ | ⟨h3156, h⟩
     ·have e3157 := (ti (ti (ti (ti (an (dt h3156) (an (dt h3156) (an (dt h3156) (an (dt h3156) tt))))))))
      injection h with h; subst h
      exact Qh (c := ⟨[], [], []⟩) (s1 := (Zu a0 r2968 ())) pm pn (ans := [.reg (nN 4 []), .br true, .reg (nN 3 (.v (VV.ag (Qa (r2968.1.getD x21.toNat default))) :: .n :: .n :: [])), .reg (.n :: .call (vi r3147) :: nN 5 (.b false :: [])), .br false, .reg (nN 4 (nS 3 (.b true :: []))), .br true]) (by kernel_rfl) (by intro e; cases e) (an (an (an (ti (ti (ti (ti tt)))) (an (dt h3144) tt)) (an (ti (ti (an h3145 (an e3146 (ti (ti tt)))))) (an (an e3154 (an (df h3155) tt)) (an e3157 (an rt tt))))) (ti tt))
     ·have e3158 := (ti (ti (ti (ti (an (an (df h3156) tt) (an (an (df h3156) tt) (an (an (df h3156) tt) (an (df h3156) tt))))))))
      rcases ifs h with ⟨h3159, h⟩ | ⟨h3159, h⟩
      ·injection h with h; subst h
       exact Qh (c := ⟨[], [], []⟩) (s1 := (Zu a0 r2968 ())) pm pn (ans := [.reg (nN 4 []), .br true, .reg (nN 3 (.v (VV.ag (Qa (r2968.1.getD x21.toNat default))) :: .n :: .n :: [])), .reg (.n :: .call (vi r3147) :: nN 5 (.b false :: [])), .br false, .reg (nN 7 (.b false :: [])), .br true]) (by kernel_rfl) (by intro e; cases e) (an (an (an (ti (ti (ti (ti tt)))) (an (dt h3144) tt)) (an (ti (ti (an h3145 (an e3146 (ti (ti tt)))))) (an (an e3154 (an (df h3155) tt)) (an e3158 (an (dt h3159) tt))))) (ti tt))
      ·obtain ⟨r3224, h3223, h⟩ := bs h
       have hph3223 := Qbh k a0 r2968 x21 _ _ _ h3223
       cases r3224 with
       | inl r3225 =>
        dsimp only at h
        have e3227 := (an (ti tt) (VRun.loop hph3223))
        injection h with h; subst h
        exact Qh (c := ⟨[(6, none)], [], []⟩) (s1 := (Zt a0 r2968 ())) pm pn (ans := [.reg (nN 4 []), .br true, .reg (nN 3 (.v (VV.ag (Qa (r2968.1.getD x21.toNat default))) :: .n :: .n :: [])), .reg (.n :: .call (vi r3147) :: nN 5 (.b false :: [])), .br false, .reg (nN 7 (.b false :: [])), .br false, .reg (nN 7 []), .reg (.n :: []), .sub ⟨[(3, none), (19, none), (21, none), (22, none), (23, none), (24, none)], [none, none, none], []⟩ .ret (Jl a0 r2968 x21 r3225)]) (by kernel_rfl) (by intro e; cases e) (an (an (an (ti (ti (ti (ti tt)))) (an (dt h3144) tt)) (an (ti (ti (an h3145 (an e3146 (ti (ti tt)))))) (an (an e3154 (an (df h3155) tt)) (an (an e3158 (an (df h3159) tt)) (an (ti (ti (ti (ti (ti (ti (ti tt))))))) (an (ti tt) e3227)))))) (ti tt))
       | inr r3226 =>
        dsimp only at h
        have e3228 := (an (ti tt) (VRun.loop hph3223))
        have h2 := ih _ _ h
        obtain ⟨q, hv, hq⟩ := pkR (rd := none) (P := Try.prog) (fn := Try.f3) (k := 0) (s := (Xn a0 r2968 x21)) (ans := [.reg (nN 4 []), .br true, .reg (nN 3 (.v (VV.ag (Qa (r2968.1.getD x21.toNat default))) :: .n :: .n :: [])), .reg (.n :: .call (vi r3147) :: nN 5 (.b false :: [])), .br false, .reg (nN 7 (.b false :: [])), .br false, .reg (nN 7 []), .reg (.n :: []), .sub ⟨[(3, none), (19, none), (21, none), (22, none), (23, none), (24, none)], [none, none, none], []⟩ (.exit 2) (Jm a0 r2968 x21 r3226), .reg (nN 3 [])]) (c := ⟨[(3, none), (19, none), (21, none)], [none], []⟩) (e := .normal) (s1 := (Xn a0 r2968 (w64 (x21 + 1)))) (an (an (an (ti (ti (ti (ti tt)))) (an (dt h3144) tt)) (an (an (ti (ti (an h3145 (an e3146 (ti (ti tt)))))) (an (an e3154 (an (df h3155) tt)) (an (an e3158 (an (df h3159) tt)) (an (ti (ti (ti (ti (ti (ti (ti tt))))))) (an (ti tt) e3228))))) (ti (ti (ti tt))))) (ti tt)) (by kernel_rfl)
        cases r with
        | inl r => exact Ql pm pn hv hq h2
        | inr r =>
         exact Ql pm pn hv hq h2
   ·have e3229 := (ti (an e3149 (ti (ti (an (Zo (df h3150)) (an (Zo (df h3150)) (an (Zo (df h3150)) (an (Zo (df h3150)) tt))))))))
    injection h with h; subst h
    exact Qh (c := ⟨[(6, none)], [], []⟩) (s1 := (Zt a0 r2968 ())) pm pn (ans := [.reg (nN 4 []), .br true, .reg (nN 3 (.v (VV.ag (Qa (r2968.1.getD x21.toNat default))) :: .n :: .n :: [])), .reg (.n :: .call (vi r3147) :: .n :: .n :: nS 3 (.b true :: [])), .br true, .reg (.n :: [])]) (by kernel_rfl) (by intro e; cases e) (an (an (an (ti (ti (ti (ti tt)))) (an (dt h3144) tt)) (an (ti (ti (an h3145 (an e3146 (ti (ti tt)))))) (an e3229 (an rt (an (ti tt) tt))))) (ti tt))
  ·injection h with h; subst h
   exact Qh (c := ⟨[], [], []⟩) (s1 := (Zu a0 r2968 ())) pm pn (ans := [.reg (nN 4 []), .br false]) (by kernel_rfl) (by intro e; cases e) (an (an (ti (ti (ti (ti tt)))) (an (df h3144) tt)) (ti tt))
def Xo (a0 : Qc) (r3247 : ((List Qc) × Int)) (x21 : Int) (x24 : Int) (x25 : Int) : VS := ⟨mkA [(3, VV.pt 0 0), (19, VV.fr (flatMap Qa r3247.1) r3247.1.length), (21, vi x21), (22, VV.pt 1 0), (23, VV.pt 2 0), (24, vi x24), (25, vi x25)], [some ⟨true, 1, Qa a0⟩, some ⟨true, 1, Qa (r3247.1.getD x21.toNat default)⟩, some ⟨true, 1, Qa (r3247.1.getD x21.toNat default)⟩], .nil⟩
def Jo (a0 : Qc) (r3247 : ((List Qc) × Int)) (x21 : Int) (x24 : Int) (r : Unit) : VS := ⟨mkA [(6, vb false)], [], .nil⟩
def Jp (a0 : Qc) (r3247 : ((List Qc) × Int)) (x21 : Int) (x24 : Int) (r : Unit) : VS := ⟨mkA [(3, VV.pt 0 0), (19, VV.fr (flatMap Qa r3247.1) r3247.1.length), (21, vi x21), (22, VV.pt 1 0), (23, VV.pt 2 0), (24, vi x24)], [some ⟨true, 1, Qa a0⟩, some ⟨true, 1, Qa (r3247.1.getD x21.toNat default)⟩, some ⟨true, 1, Qa (r3247.1.getD x21.toNat default)⟩], .nil⟩
def Q5 (k : Nat) (a0 : Qc) (r3247 : ((List Qc) × Int)) (x21 : Int) (x24 : Int) : Nat -> Int -> Option (Sum Unit Unit)
 | 0, _ => none
 | fuel + 1, x25 => if x25 <= 60 then ((Zk k a0 (⟨x25, x24⟩ : Qe) (⟨(r3247.1.getD x21.toNat default).Num, (r3247.1.getD x21.toNat default).Den⟩ : Qe)).bind fun r3492 => (if r3492 = true then (some (.inl ())) else (Q5 k a0 r3247 x21 x24 fuel (w64 (x25 + 1))))) else (some (.inr ()))
theorem Qbj (k : Nat) (a0 : Qc) (r3247 : ((List Qc) × Int)) (x21 : Int) (x24 : Int) : ∀ (fuel : Nat) (x25 : Int) (r : Sum Unit Unit), Q5 k a0 r3247 x21 x24 fuel x25 = some r -> (match r with | .inl r => X7 none Try.prog (szF Try.f3) (Z9 Try.f3 2) (Xo a0 r3247 x21 x24 x25) .ret (Jo a0 r3247 x21 x24 r) | .inr r => X7 none Try.prog (szF Try.f3) (Z9 Try.f3 2) (Xo a0 r3247 x21 x24 x25) (.exit 4) (Jp a0 r3247 x21 x24 r)) := by
 intro fuel
 induction fuel with
 | zero => intro x25 r h; rw [Q5.eq_1] at h; cases h
 | succ fuel ih =>
  intro x25 r h
  rw [Q5.eq_2] at h
  rcases ifs h with ⟨h3491, h⟩ | ⟨h3491, h⟩
  ·obtain ⟨r3492, h3493, h⟩ := bs h
   have e3494 := (VC.args (Xg k a0 (⟨x25, x24⟩ : Qe) (⟨(r3247.1.getD x21.toNat default).Num, (r3247.1.getD x21.toNat default).Den⟩ : Qe) _ h3493) (Qj8 a0 x25 x24 r3247 x21))
   rcases ifs h with ⟨h3495, h⟩ | ⟨h3495, h⟩
   ·injection h with h; subst h
    exact Qh (c := ⟨[(6, none)], [], []⟩) (s1 := (Jo a0 r3247 x21 x24 ())) pm pn (ans := [.reg (.n :: .n :: []), .br true, .reg (nN 5 (.call (vb r3492) :: [])), .br true, .reg (.n :: [])]) (by kernel_rfl) (by intro e; cases e) (an (an (an (ti (ti tt)) (an (dt h3491) tt)) (an (ti (ti (ti (ti (ti (an e3494 tt)))))) (an h3495 (an (ti tt) tt)))) (ti tt))
   ·have h2 := ih _ _ h
    obtain ⟨q, hv, hq⟩ := pkR (rd := none) (P := Try.prog) (fn := Try.f3) (k := 2) (s := (Xo a0 r3247 x21 x24 x25)) (ans := [.reg (.n :: .n :: []), .br true, .reg (nN 5 (.call (vb r3492) :: [])), .br false, .reg (nN 3 [])]) (c := ⟨[(3, none), (19, none), (21, none), (22, none), (23, none), (24, none), (25, none)], [none, none, none], []⟩) (e := .normal) (s1 := (Xo a0 r3247 x21 x24 (w64 (x25 + 1)))) (an (an (an (ti (ti tt)) (an (dt h3491) tt)) (an (an (ti (ti (ti (ti (ti (an e3494 tt)))))) (an (Qby h3495) tt)) (ti (ti (ti tt))))) (ti tt)) (by kernel_rfl)
    cases r with
    | inl r => exact Ql pm pn hv hq h2
    | inr r =>
     exact Ql pm pn hv hq h2
  ·injection h with h; subst h
   exact Qh (c := ⟨[(3, none), (19, none), (21, none), (22, none), (23, none), (24, none)], [none, none, none], []⟩) (s1 := (Jp a0 r3247 x21 x24 ())) pm pn (ans := [.reg (.n :: .n :: []), .br false]) (by kernel_rfl) (by intro e; cases e) (an (an (ti (ti tt)) (an (df h3491) tt)) (ti tt))
def Xp (a0 : Qc) (r3247 : ((List Qc) × Int)) (x21 : Int) (x24 : Int) : VS := ⟨mkA [(3, VV.pt 0 0), (19, VV.fr (flatMap Qa r3247.1) r3247.1.length), (21, vi x21), (22, VV.pt 1 0), (23, VV.pt 2 0), (24, vi x24)], [some ⟨true, 1, Qa a0⟩, some ⟨true, 1, Qa (r3247.1.getD x21.toNat default)⟩, some ⟨true, 1, Qa (r3247.1.getD x21.toNat default)⟩], .nil⟩
def Jq (a0 : Qc) (r3247 : ((List Qc) × Int)) (x21 : Int) (r : Unit) : VS := ⟨mkA [(6, vb false)], [], .nil⟩
def Jr (a0 : Qc) (r3247 : ((List Qc) × Int)) (x21 : Int) (r : Unit) : VS := ⟨mkA [(3, VV.pt 0 0), (19, VV.fr (flatMap Qa r3247.1) r3247.1.length), (21, vi x21)], [some ⟨true, 1, Qa a0⟩], .nil⟩
def Q7 (k : Nat) (a0 : Qc) (r3247 : ((List Qc) × Int)) (x21 : Int) : Nat -> Int -> Option (Sum Unit Unit)
 | 0, _ => none
 | fuel + 1, x24 => if x24 <= ((r3247.1.getD x21.toNat default).Den) then ((Q5 k a0 r3247 x21 x24 k 1).bind fun r3497 => (match r3497 with | .inl r3498 => (some (.inl ())) | .inr r3499 => (Q7 k a0 r3247 x21 fuel (w64 (x24 + 1))))) else (some (.inr ()))
theorem Qbk (k : Nat) (a0 : Qc) (r3247 : ((List Qc) × Int)) (x21 : Int) : ∀ (fuel : Nat) (x24 : Int) (r : Sum Unit Unit), Q7 k a0 r3247 x21 fuel x24 = some r -> (match r with | .inl r => X7 none Try.prog (szF Try.f3) (Z9 Try.f3 1) (Xp a0 r3247 x21 x24) .ret (Jq a0 r3247 x21 r) | .inr r => X7 none Try.prog (szF Try.f3) (Z9 Try.f3 1) (Xp a0 r3247 x21 x24) (.exit 2) (Jr a0 r3247 x21 r)) := by
 intro fuel
 induction fuel with
 | zero => intro x24 r h; rw [Q7.eq_1] at h; cases h
 | succ fuel ih =>
  intro x24 r h
  rw [Q7.eq_2] at h
  rcases ifs h with ⟨h3481, h⟩ | ⟨h3481, h⟩
  ·obtain ⟨r3497, h3496, h⟩ := bs h
   have hph3496 := Qbj k a0 r3247 x21 x24 _ _ _ h3496
   cases r3497 with
   | inl r3498 =>
    dsimp only at h
    have e3500 := (an (ti tt) (VRun.loop hph3496))
    injection h with h; subst h
    exact Qh (c := ⟨[(6, none)], [], []⟩) (s1 := (Jq a0 r3247 x21 ())) pm pn (ans := [.reg (nN 4 []), .br true, .reg (.n :: []), .sub ⟨[(3, none), (19, none), (21, none), (22, none), (23, none), (24, none), (25, none)], [none, none, none], []⟩ .ret (Jo a0 r3247 x21 x24 r3498)]) (by kernel_rfl) (by intro e; cases e) (an (an (an (ti (ti (ti (ti tt)))) (an (dt h3481) tt)) (an (ti tt) e3500)) (ti tt))
   | inr r3499 =>
    dsimp only at h
    have e3501 := (an (ti tt) (VRun.loop hph3496))
    have h2 := ih _ _ h
    obtain ⟨q, hv, hq⟩ := pkR (rd := none) (P := Try.prog) (fn := Try.f3) (k := 1) (s := (Xp a0 r3247 x21 x24)) (ans := [.reg (nN 4 []), .br true, .reg (.n :: []), .sub ⟨[(3, none), (19, none), (21, none), (22, none), (23, none), (24, none), (25, none)], [none, none, none], []⟩ (.exit 4) (Jp a0 r3247 x21 x24 r3499), .reg (nN 3 [])]) (c := ⟨[(3, none), (19, none), (21, none), (22, none), (23, none), (24, none)], [none, none, none], []⟩) (e := .normal) (s1 := (Xp a0 r3247 x21 (w64 (x24 + 1)))) (an (an (an (ti (ti (ti (ti tt)))) (an (dt h3481) tt)) (an (an (ti tt) e3501) (ti (ti (ti tt))))) (ti tt)) (by kernel_rfl)
    cases r with
    | inl r => exact Ql pm pn hv hq h2
    | inr r =>
     exact Ql pm pn hv hq h2
  ·injection h with h; subst h
   exact Qh (c := ⟨[(3, none), (19, none), (21, none)], [none], []⟩) (s1 := (Jr a0 r3247 x21 ())) pm pn (ans := [.reg (nN 4 []), .br false]) (by kernel_rfl) (by intro e; cases e) (an (an (ti (ti (ti (ti tt)))) (an (df h3481) tt)) (ti tt))
def Xq (a0 : Qc) (r3247 : ((List Qc) × Int)) (x21 : Int) : VS := ⟨mkA [(3, VV.pt 0 0), (19, VV.fr (flatMap Qa r3247.1) r3247.1.length), (21, vi x21)], [some ⟨true, 1, Qa a0⟩], .nil⟩
def Zv (a0 : Qc) (r3247 : ((List Qc) × Int)) (r : Unit) : VS := ⟨mkA [(6, vb false)], [], .nil⟩
def Zw (a0 : Qc) (r3247 : ((List Qc) × Int)) (r : Unit) : VS := ⟨mkA [], [], .nil⟩
def Qp (k : Nat) (a0 : Qc) (r3247 : ((List Qc) × Int)) : Nat -> Int -> Option (Sum Unit Unit)
 | 0, _ => none
 | fuel + 1, x21 => if x21 < (r3247.1.length : Int) then (if 0 <= x21 /\ x21 < (r3247.1.length : Int) then ((Qi k (r3247.1.getD x21.toNat default)).bind fun r3426 => (if r3426 = 0 then (if ((r3247.1.getD x21.toNat default).Num) < 1 then (some (.inl ())) else (if 60 < ((r3247.1.getD x21.toNat default).Num) then (some (.inr ())) else (if 60 < ((r3247.1.getD x21.toNat default).Den) then (some (.inr ())) else ((Q7 k a0 r3247 x21 k 1).bind fun r3503 => (match r3503 with | .inl r3504 => (some (.inl ())) | .inr r3505 => (Qp k a0 r3247 fuel (w64 (x21 + 1)))))))) else (some (.inl ())))) else none) else (some (.inr ()))
theorem Qbl (k : Nat) (a0 : Qc) (r3247 : ((List Qc) × Int)) : ∀ (fuel : Nat) (x21 : Int) (r : Sum Unit Unit), Qp k a0 r3247 fuel x21 = some r -> (match r with | .inl r => X7 none Try.prog (szF Try.f3) (Z9 Try.f3 0) (Xq a0 r3247 x21) .ret (Zv a0 r3247 r) | .inr r => X7 none Try.prog (szF Try.f3) (Z9 Try.f3 0) (Xq a0 r3247 x21) (.exit 0) (Zw a0 r3247 r)) := by
 intro fuel
 induction fuel with
 | zero => intro x21 r h; rw [Qp.eq_1] at h; cases h
 | succ fuel ih =>
  intro x21 r h
  rw [Qp.eq_2] at h
  rcases ifs h with ⟨h3423, h⟩ | ⟨h3423, h⟩
  ·obtain ⟨h3424, h⟩ := ifn h
   have e3425 := (show Qch Try.prog 23 (x21.toNat * 2) (flatMap Qa r3247.1) = some (VV.ag (Qa (r3247.1.getD x21.toNat default))) from Qa1 ag23 Qa 2 sz23 Jd r3247.1 default h3424 (by omega))
   obtain ⟨r3426, h3427, h⟩ := bs h
   have e3428 := (Qm k (r3247.1.getD x21.toNat default) _ h3427)
   rcases ifs h with ⟨h3429, h⟩ | ⟨h3429, h⟩
   ·have e3430 := (an (Qk (dt h3429)) tt)
    have e3431 := (an (Qk (dt h3429)) tt)
    have e3432 := (an (Qk (dt h3429)) tt)
    have e3433 := (ti (an e3428 (ti (ti (an e3430 (an e3431 (an e3432 (an (Qk (dt h3429)) tt))))))))
    rcases ifs h with ⟨h3434, h⟩ | ⟨h3434, h⟩
    ·injection h with h; subst h
     exact Qh (c := ⟨[(6, none)], [], []⟩) (s1 := (Zv a0 r3247 ())) pm pn (ans := [.reg (nN 4 []), .br true, .reg (nN 3 (.v (VV.ag (Qa (r3247.1.getD x21.toNat default))) :: .n :: .n :: [])), .reg (.n :: .call (vi r3426) :: nN 5 (.b false :: [])), .br true, .reg (.n :: [])]) (by kernel_rfl) (by intro e; cases e) (an (an (an (ti (ti (ti (ti tt)))) (an (dt h3423) tt)) (an (ti (ti (an h3424 (an e3425 (ti (ti tt)))))) (an e3433 (an (dt h3434) (an (ti tt) tt))))) (ti tt))
    ·rcases ifs h with ⟨h3435, h⟩ | ⟨h3435, h⟩
     ·have e3436 := (ti (ti (ti (ti (an (dt h3435) (an (dt h3435) (an (dt h3435) (an (dt h3435) tt))))))))
      injection h with h; subst h
      exact Qh (c := ⟨[], [], []⟩) (s1 := (Zw a0 r3247 ())) pm pn (ans := [.reg (nN 4 []), .br true, .reg (nN 3 (.v (VV.ag (Qa (r3247.1.getD x21.toNat default))) :: .n :: .n :: [])), .reg (.n :: .call (vi r3426) :: nN 5 (.b false :: [])), .br false, .reg (nN 4 (nS 3 (.b true :: []))), .br true]) (by kernel_rfl) (by intro e; cases e) (an (an (an (ti (ti (ti (ti tt)))) (an (dt h3423) tt)) (an (ti (ti (an h3424 (an e3425 (ti (ti tt)))))) (an (an e3433 (an (df h3434) tt)) (an e3436 (an rt tt))))) (ti tt))
     ·have e3437 := (ti (ti (ti (ti (an (an (df h3435) tt) (an (an (df h3435) tt) (an (an (df h3435) tt) (an (df h3435) tt))))))))
      rcases ifs h with ⟨h3438, h⟩ | ⟨h3438, h⟩
      ·injection h with h; subst h
       exact Qh (c := ⟨[], [], []⟩) (s1 := (Zw a0 r3247 ())) pm pn (ans := [.reg (nN 4 []), .br true, .reg (nN 3 (.v (VV.ag (Qa (r3247.1.getD x21.toNat default))) :: .n :: .n :: [])), .reg (.n :: .call (vi r3426) :: nN 5 (.b false :: [])), .br false, .reg (nN 7 (.b false :: [])), .br true]) (by kernel_rfl) (by intro e; cases e) (an (an (an (ti (ti (ti (ti tt)))) (an (dt h3423) tt)) (an (ti (ti (an h3424 (an e3425 (ti (ti tt)))))) (an (an e3433 (an (df h3434) tt)) (an e3437 (an (dt h3438) tt))))) (ti tt))
      ·obtain ⟨r3503, h3502, h⟩ := bs h
       have hph3502 := Qbk k a0 r3247 x21 _ _ _ h3502
       cases r3503 with
       | inl r3504 =>
        dsimp only at h
        have e3506 := (an (ti tt) (VRun.loop hph3502))
        injection h with h; subst h
        exact Qh (c := ⟨[(6, none)], [], []⟩) (s1 := (Zv a0 r3247 ())) pm pn (ans := [.reg (nN 4 []), .br true, .reg (nN 3 (.v (VV.ag (Qa (r3247.1.getD x21.toNat default))) :: .n :: .n :: [])), .reg (.n :: .call (vi r3426) :: nN 5 (.b false :: [])), .br false, .reg (nN 7 (.b false :: [])), .br false, .reg (nN 7 []), .reg (.n :: []), .sub ⟨[(3, none), (19, none), (21, none), (22, none), (23, none), (24, none)], [none, none, none], []⟩ .ret (Jq a0 r3247 x21 r3504)]) (by kernel_rfl) (by intro e; cases e) (an (an (an (ti (ti (ti (ti tt)))) (an (dt h3423) tt)) (an (ti (ti (an h3424 (an e3425 (ti (ti tt)))))) (an (an e3433 (an (df h3434) tt)) (an (an e3437 (an (df h3438) tt)) (an (ti (ti (ti (ti (ti (ti (ti tt))))))) (an (ti tt) e3506)))))) (ti tt))
       | inr r3505 =>
        dsimp only at h
        have e3507 := (an (ti tt) (VRun.loop hph3502))
        have h2 := ih _ _ h
        obtain ⟨q, hv, hq⟩ := pkR (rd := none) (P := Try.prog) (fn := Try.f3) (k := 0) (s := (Xq a0 r3247 x21)) (ans := [.reg (nN 4 []), .br true, .reg (nN 3 (.v (VV.ag (Qa (r3247.1.getD x21.toNat default))) :: .n :: .n :: [])), .reg (.n :: .call (vi r3426) :: nN 5 (.b false :: [])), .br false, .reg (nN 7 (.b false :: [])), .br false, .reg (nN 7 []), .reg (.n :: []), .sub ⟨[(3, none), (19, none), (21, none), (22, none), (23, none), (24, none)], [none, none, none], []⟩ (.exit 2) (Jr a0 r3247 x21 r3505), .reg (nN 3 [])]) (c := ⟨[(3, none), (19, none), (21, none)], [none], []⟩) (e := .normal) (s1 := (Xq a0 r3247 (w64 (x21 + 1)))) (an (an (an (ti (ti (ti (ti tt)))) (an (dt h3423) tt)) (an (an (ti (ti (an h3424 (an e3425 (ti (ti tt)))))) (an (an e3433 (an (df h3434) tt)) (an (an e3437 (an (df h3438) tt)) (an (ti (ti (ti (ti (ti (ti (ti tt))))))) (an (ti tt) e3507))))) (ti (ti (ti tt))))) (ti tt)) (by kernel_rfl)
        cases r with
        | inl r => exact Ql pm pn hv hq h2
        | inr r =>
         exact Ql pm pn hv hq h2
   ·have e3508 := (ti (an e3428 (ti (ti (an (Zo (df h3429)) (an (Zo (df h3429)) (an (Zo (df h3429)) (an (Zo (df h3429)) tt))))))))
    injection h with h; subst h
    exact Qh (c := ⟨[(6, none)], [], []⟩) (s1 := (Zv a0 r3247 ())) pm pn (ans := [.reg (nN 4 []), .br true, .reg (nN 3 (.v (VV.ag (Qa (r3247.1.getD x21.toNat default))) :: .n :: .n :: [])), .reg (.n :: .call (vi r3426) :: .n :: .n :: nS 3 (.b true :: [])), .br true, .reg (.n :: [])]) (by kernel_rfl) (by intro e; cases e) (an (an (an (ti (ti (ti (ti tt)))) (an (dt h3423) tt)) (an (ti (ti (an h3424 (an e3425 (ti (ti tt)))))) (an e3508 (an rt (an (ti tt) tt))))) (ti tt))
  ·injection h with h; subst h
   exact Qh (c := ⟨[], [], []⟩) (s1 := (Zw a0 r3247 ())) pm pn (ans := [.reg (nN 4 []), .br false]) (by kernel_rfl) (by intro e; cases e) (an (an (ti (ti (ti (ti tt)))) (an (df h3423) tt)) (ti tt))
def Xr (a0 : Qc) (r3526 : ((List Qc) × Int)) (x21 : Int) (x24 : Int) (x25 : Int) : VS := ⟨mkA [(3, VV.pt 0 0), (19, VV.fr (flatMap Qa r3526.1) r3526.1.length), (21, vi x21), (22, VV.pt 1 0), (23, VV.pt 2 0), (24, vi x24), (25, vi x25)], [some ⟨true, 1, Qa a0⟩, some ⟨true, 1, Qa (r3526.1.getD x21.toNat default)⟩, some ⟨true, 1, Qa (r3526.1.getD x21.toNat default)⟩], .nil⟩
def Js (a0 : Qc) (r3526 : ((List Qc) × Int)) (x21 : Int) (x24 : Int) (r : Unit) : VS := ⟨mkA [(6, vb false)], [], .nil⟩
def Jt (a0 : Qc) (r3526 : ((List Qc) × Int)) (x21 : Int) (x24 : Int) (r : Unit) : VS := ⟨mkA [(3, VV.pt 0 0), (19, VV.fr (flatMap Qa r3526.1) r3526.1.length), (21, vi x21), (22, VV.pt 1 0), (23, VV.pt 2 0), (24, vi x24)], [some ⟨true, 1, Qa a0⟩, some ⟨true, 1, Qa (r3526.1.getD x21.toNat default)⟩, some ⟨true, 1, Qa (r3526.1.getD x21.toNat default)⟩], .nil⟩
def Q8 (k : Nat) (a0 : Qc) (r3526 : ((List Qc) × Int)) (x21 : Int) (x24 : Int) : Nat -> Int -> Option (Sum Unit Unit)
 | 0, _ => none
 | fuel + 1, x25 => if x25 <= 60 then ((Zk k a0 (⟨x25, x24⟩ : Qe) (⟨(r3526.1.getD x21.toNat default).Num, (r3526.1.getD x21.toNat default).Den⟩ : Qe)).bind fun r3771 => (if r3771 = true then (some (.inl ())) else (Q8 k a0 r3526 x21 x24 fuel (w64 (x25 + 1))))) else (some (.inr ()))
theorem Qbm (k : Nat) (a0 : Qc) (r3526 : ((List Qc) × Int)) (x21 : Int) (x24 : Int) : ∀ (fuel : Nat) (x25 : Int) (r : Sum Unit Unit), Q8 k a0 r3526 x21 x24 fuel x25 = some r -> (match r with | .inl r => X7 none Try.prog (szF Try.f3) (Z9 Try.f3 2) (Xr a0 r3526 x21 x24 x25) .ret (Js a0 r3526 x21 x24 r) | .inr r => X7 none Try.prog (szF Try.f3) (Z9 Try.f3 2) (Xr a0 r3526 x21 x24 x25) (.exit 4) (Jt a0 r3526 x21 x24 r)) := by
 intro fuel
 induction fuel with
 | zero => intro x25 r h; rw [Q8.eq_1] at h; cases h
 | succ fuel ih =>
  intro x25 r h
  rw [Q8.eq_2] at h
  rcases ifs h with ⟨h3770, h⟩ | ⟨h3770, h⟩
  ·obtain ⟨r3771, h3772, h⟩ := bs h
   have e3773 := (VC.args (Xg k a0 (⟨x25, x24⟩ : Qe) (⟨(r3526.1.getD x21.toNat default).Num, (r3526.1.getD x21.toNat default).Den⟩ : Qe) _ h3772) (Qj8 a0 x25 x24 r3526 x21))
   rcases ifs h with ⟨h3774, h⟩ | ⟨h3774, h⟩
   ·injection h with h; subst h
    exact Qh (c := ⟨[(6, none)], [], []⟩) (s1 := (Js a0 r3526 x21 x24 ())) pm pn (ans := [.reg (.n :: .n :: []), .br true, .reg (nN 5 (.call (vb r3771) :: [])), .br true, .reg (.n :: [])]) (by kernel_rfl) (by intro e; cases e) (an (an (an (ti (ti tt)) (an (dt h3770) tt)) (an (ti (ti (ti (ti (ti (an e3773 tt)))))) (an h3774 (an (ti tt) tt)))) (ti tt))
   ·have h2 := ih _ _ h
    obtain ⟨q, hv, hq⟩ := pkR (rd := none) (P := Try.prog) (fn := Try.f3) (k := 2) (s := (Xr a0 r3526 x21 x24 x25)) (ans := [.reg (.n :: .n :: []), .br true, .reg (nN 5 (.call (vb r3771) :: [])), .br false, .reg (nN 3 [])]) (c := ⟨[(3, none), (19, none), (21, none), (22, none), (23, none), (24, none), (25, none)], [none, none, none], []⟩) (e := .normal) (s1 := (Xr a0 r3526 x21 x24 (w64 (x25 + 1)))) (an (an (an (ti (ti tt)) (an (dt h3770) tt)) (an (an (ti (ti (ti (ti (ti (an e3773 tt)))))) (an (Qby h3774) tt)) (ti (ti (ti tt))))) (ti tt)) (by kernel_rfl)
    cases r with
    | inl r => exact Ql pm pn hv hq h2
    | inr r =>
     exact Ql pm pn hv hq h2
  ·injection h with h; subst h
   exact Qh (c := ⟨[(3, none), (19, none), (21, none), (22, none), (23, none), (24, none)], [none, none, none], []⟩) (s1 := (Jt a0 r3526 x21 x24 ())) pm pn (ans := [.reg (.n :: .n :: []), .br false]) (by kernel_rfl) (by intro e; cases e) (an (an (ti (ti tt)) (an (df h3770) tt)) (ti tt))
def Xt (a0 : Qc) (r3526 : ((List Qc) × Int)) (x21 : Int) (x24 : Int) : VS := ⟨mkA [(3, VV.pt 0 0), (19, VV.fr (flatMap Qa r3526.1) r3526.1.length), (21, vi x21), (22, VV.pt 1 0), (23, VV.pt 2 0), (24, vi x24)], [some ⟨true, 1, Qa a0⟩, some ⟨true, 1, Qa (r3526.1.getD x21.toNat default)⟩, some ⟨true, 1, Qa (r3526.1.getD x21.toNat default)⟩], .nil⟩
def Ju (a0 : Qc) (r3526 : ((List Qc) × Int)) (x21 : Int) (r : Unit) : VS := ⟨mkA [(6, vb false)], [], .nil⟩
def Jv (a0 : Qc) (r3526 : ((List Qc) × Int)) (x21 : Int) (r : Unit) : VS := ⟨mkA [(3, VV.pt 0 0), (19, VV.fr (flatMap Qa r3526.1) r3526.1.length), (21, vi x21)], [some ⟨true, 1, Qa a0⟩], .nil⟩
def Q9 (k : Nat) (a0 : Qc) (r3526 : ((List Qc) × Int)) (x21 : Int) : Nat -> Int -> Option (Sum Unit Unit)
 | 0, _ => none
 | fuel + 1, x24 => if x24 <= ((r3526.1.getD x21.toNat default).Den) then ((Q8 k a0 r3526 x21 x24 k 1).bind fun r3776 => (match r3776 with | .inl r3777 => (some (.inl ())) | .inr r3778 => (Q9 k a0 r3526 x21 fuel (w64 (x24 + 1))))) else (some (.inr ()))
theorem Qbn (k : Nat) (a0 : Qc) (r3526 : ((List Qc) × Int)) (x21 : Int) : ∀ (fuel : Nat) (x24 : Int) (r : Sum Unit Unit), Q9 k a0 r3526 x21 fuel x24 = some r -> (match r with | .inl r => X7 none Try.prog (szF Try.f3) (Z9 Try.f3 1) (Xt a0 r3526 x21 x24) .ret (Ju a0 r3526 x21 r) | .inr r => X7 none Try.prog (szF Try.f3) (Z9 Try.f3 1) (Xt a0 r3526 x21 x24) (.exit 2) (Jv a0 r3526 x21 r)) := by
 intro fuel
 induction fuel with
 | zero => intro x24 r h; rw [Q9.eq_1] at h; cases h
 | succ fuel ih =>
  intro x24 r h
  rw [Q9.eq_2] at h
  rcases ifs h with ⟨h3760, h⟩ | ⟨h3760, h⟩
  ·obtain ⟨r3776, h3775, h⟩ := bs h
   have hph3775 := Qbm k a0 r3526 x21 x24 _ _ _ h3775
   cases r3776 with
   | inl r3777 =>
    dsimp only at h
    have e3779 := (an (ti tt) (VRun.loop hph3775))
    injection h with h; subst h
    exact Qh (c := ⟨[(6, none)], [], []⟩) (s1 := (Ju a0 r3526 x21 ())) pm pn (ans := [.reg (nN 4 []), .br true, .reg (.n :: []), .sub ⟨[(3, none), (19, none), (21, none), (22, none), (23, none), (24, none), (25, none)], [none, none, none], []⟩ .ret (Js a0 r3526 x21 x24 r3777)]) (by kernel_rfl) (by intro e; cases e) (an (an (an (ti (ti (ti (ti tt)))) (an (dt h3760) tt)) (an (ti tt) e3779)) (ti tt))
   | inr r3778 =>
    dsimp only at h
    have e3780 := (an (ti tt) (VRun.loop hph3775))
    have h2 := ih _ _ h
    obtain ⟨q, hv, hq⟩ := pkR (rd := none) (P := Try.prog) (fn := Try.f3) (k := 1) (s := (Xt a0 r3526 x21 x24)) (ans := [.reg (nN 4 []), .br true, .reg (.n :: []), .sub ⟨[(3, none), (19, none), (21, none), (22, none), (23, none), (24, none), (25, none)], [none, none, none], []⟩ (.exit 4) (Jt a0 r3526 x21 x24 r3778), .reg (nN 3 [])]) (c := ⟨[(3, none), (19, none), (21, none), (22, none), (23, none), (24, none)], [none, none, none], []⟩) (e := .normal) (s1 := (Xt a0 r3526 x21 (w64 (x24 + 1)))) (an (an (an (ti (ti (ti (ti tt)))) (an (dt h3760) tt)) (an (an (ti tt) e3780) (ti (ti (ti tt))))) (ti tt)) (by kernel_rfl)
    cases r with
    | inl r => exact Ql pm pn hv hq h2
    | inr r =>
     exact Ql pm pn hv hq h2
  ·injection h with h; subst h
   exact Qh (c := ⟨[(3, none), (19, none), (21, none)], [none], []⟩) (s1 := (Jv a0 r3526 x21 ())) pm pn (ans := [.reg (nN 4 []), .br false]) (by kernel_rfl) (by intro e; cases e) (an (an (ti (ti (ti (ti tt)))) (an (df h3760) tt)) (ti tt))
def Xu (a0 : Qc) (r3526 : ((List Qc) × Int)) (x21 : Int) : VS := ⟨mkA [(3, VV.pt 0 0), (19, VV.fr (flatMap Qa r3526.1) r3526.1.length), (21, vi x21)], [some ⟨true, 1, Qa a0⟩], .nil⟩
def Zx (a0 : Qc) (r3526 : ((List Qc) × Int)) (r : Unit) : VS := ⟨mkA [(6, vb false)], [], .nil⟩
def Zy (a0 : Qc) (r3526 : ((List Qc) × Int)) (r : Unit) : VS := ⟨mkA [], [], .nil⟩
def Qq (k : Nat) (a0 : Qc) (r3526 : ((List Qc) × Int)) : Nat -> Int -> Option (Sum Unit Unit)
 | 0, _ => none
 | fuel + 1, x21 => if x21 < (r3526.1.length : Int) then (if 0 <= x21 /\ x21 < (r3526.1.length : Int) then ((Qi k (r3526.1.getD x21.toNat default)).bind fun r3705 => (if r3705 = 0 then (if ((r3526.1.getD x21.toNat default).Num) < 1 then (some (.inl ())) else (if 60 < ((r3526.1.getD x21.toNat default).Num) then (some (.inr ())) else (if 60 < ((r3526.1.getD x21.toNat default).Den) then (some (.inr ())) else ((Q9 k a0 r3526 x21 k 1).bind fun r3782 => (match r3782 with | .inl r3783 => (some (.inl ())) | .inr r3784 => (Qq k a0 r3526 fuel (w64 (x21 + 1)))))))) else (some (.inl ())))) else none) else (some (.inr ()))
theorem Qbo (k : Nat) (a0 : Qc) (r3526 : ((List Qc) × Int)) : ∀ (fuel : Nat) (x21 : Int) (r : Sum Unit Unit), Qq k a0 r3526 fuel x21 = some r -> (match r with | .inl r => X7 none Try.prog (szF Try.f3) (Z9 Try.f3 0) (Xu a0 r3526 x21) .ret (Zx a0 r3526 r) | .inr r => X7 none Try.prog (szF Try.f3) (Z9 Try.f3 0) (Xu a0 r3526 x21) (.exit 0) (Zy a0 r3526 r)) := by
 intro fuel
 induction fuel with
 | zero => intro x21 r h; rw [Qq.eq_1] at h; cases h
 | succ fuel ih =>
  intro x21 r h
  rw [Qq.eq_2] at h
  rcases ifs h with ⟨h3702, h⟩ | ⟨h3702, h⟩
  ·obtain ⟨h3703, h⟩ := ifn h
   have e3704 := (show Qch Try.prog 23 (x21.toNat * 2) (flatMap Qa r3526.1) = some (VV.ag (Qa (r3526.1.getD x21.toNat default))) from Qa1 ag23 Qa 2 sz23 Jd r3526.1 default h3703 (by omega))
   obtain ⟨r3705, h3706, h⟩ := bs h
   have e3707 := (Qm k (r3526.1.getD x21.toNat default) _ h3706)
   rcases ifs h with ⟨h3708, h⟩ | ⟨h3708, h⟩
   ·have e3709 := (an (Qk (dt h3708)) tt)
    have e3710 := (an (Qk (dt h3708)) tt)
    have e3711 := (an (Qk (dt h3708)) tt)
    have e3712 := (ti (an e3707 (ti (ti (an e3709 (an e3710 (an e3711 (an (Qk (dt h3708)) tt))))))))
    rcases ifs h with ⟨h3713, h⟩ | ⟨h3713, h⟩
    ·injection h with h; subst h
     exact Qh (c := ⟨[(6, none)], [], []⟩) (s1 := (Zx a0 r3526 ())) pm pn (ans := [.reg (nN 4 []), .br true, .reg (nN 3 (.v (VV.ag (Qa (r3526.1.getD x21.toNat default))) :: .n :: .n :: [])), .reg (.n :: .call (vi r3705) :: nN 5 (.b false :: [])), .br true, .reg (.n :: [])]) (by kernel_rfl) (by intro e; cases e) (an (an (an (ti (ti (ti (ti tt)))) (an (dt h3702) tt)) (an (ti (ti (an h3703 (an e3704 (ti (ti tt)))))) (an e3712 (an (dt h3713) (an (ti tt) tt))))) (ti tt))
    ·rcases ifs h with ⟨h3714, h⟩ | ⟨h3714, h⟩
     ·have e3715 := (ti (ti (ti (ti (an (dt h3714) (an (dt h3714) (an (dt h3714) (an (dt h3714) tt))))))))
      injection h with h; subst h
      exact Qh (c := ⟨[], [], []⟩) (s1 := (Zy a0 r3526 ())) pm pn (ans := [.reg (nN 4 []), .br true, .reg (nN 3 (.v (VV.ag (Qa (r3526.1.getD x21.toNat default))) :: .n :: .n :: [])), .reg (.n :: .call (vi r3705) :: nN 5 (.b false :: [])), .br false, .reg (nN 4 (nS 3 (.b true :: []))), .br true]) (by kernel_rfl) (by intro e; cases e) (an (an (an (ti (ti (ti (ti tt)))) (an (dt h3702) tt)) (an (ti (ti (an h3703 (an e3704 (ti (ti tt)))))) (an (an e3712 (an (df h3713) tt)) (an e3715 (an rt tt))))) (ti tt))
     ·have e3716 := (ti (ti (ti (ti (an (an (df h3714) tt) (an (an (df h3714) tt) (an (an (df h3714) tt) (an (df h3714) tt))))))))
      rcases ifs h with ⟨h3717, h⟩ | ⟨h3717, h⟩
      ·injection h with h; subst h
       exact Qh (c := ⟨[], [], []⟩) (s1 := (Zy a0 r3526 ())) pm pn (ans := [.reg (nN 4 []), .br true, .reg (nN 3 (.v (VV.ag (Qa (r3526.1.getD x21.toNat default))) :: .n :: .n :: [])), .reg (.n :: .call (vi r3705) :: nN 5 (.b false :: [])), .br false, .reg (nN 7 (.b false :: [])), .br true]) (by kernel_rfl) (by intro e; cases e) (an (an (an (ti (ti (ti (ti tt)))) (an (dt h3702) tt)) (an (ti (ti (an h3703 (an e3704 (ti (ti tt)))))) (an (an e3712 (an (df h3713) tt)) (an e3716 (an (dt h3717) tt))))) (ti tt))
      ·obtain ⟨r3782, h3781, h⟩ := bs h
       have hph3781 := Qbn k a0 r3526 x21 _ _ _ h3781
       cases r3782 with
       | inl r3783 =>
        dsimp only at h
        have e3785 := (an (ti tt) (VRun.loop hph3781))
        injection h with h; subst h
        exact Qh (c := ⟨[(6, none)], [], []⟩) (s1 := (Zx a0 r3526 ())) pm pn (ans := [.reg (nN 4 []), .br true, .reg (nN 3 (.v (VV.ag (Qa (r3526.1.getD x21.toNat default))) :: .n :: .n :: [])), .reg (.n :: .call (vi r3705) :: nN 5 (.b false :: [])), .br false, .reg (nN 7 (.b false :: [])), .br false, .reg (nN 7 []), .reg (.n :: []), .sub ⟨[(3, none), (19, none), (21, none), (22, none), (23, none), (24, none)], [none, none, none], []⟩ .ret (Ju a0 r3526 x21 r3783)]) (by kernel_rfl) (by intro e; cases e) (an (an (an (ti (ti (ti (ti tt)))) (an (dt h3702) tt)) (an (ti (ti (an h3703 (an e3704 (ti (ti tt)))))) (an (an e3712 (an (df h3713) tt)) (an (an e3716 (an (df h3717) tt)) (an (ti (ti (ti (ti (ti (ti (ti tt))))))) (an (ti tt) e3785)))))) (ti tt))
       | inr r3784 =>
        dsimp only at h
        have e3786 := (an (ti tt) (VRun.loop hph3781))
        have h2 := ih _ _ h
        obtain ⟨q, hv, hq⟩ := pkR (rd := none) (P := Try.prog) (fn := Try.f3) (k := 0) (s := (Xu a0 r3526 x21)) (ans := [.reg (nN 4 []), .br true, .reg (nN 3 (.v (VV.ag (Qa (r3526.1.getD x21.toNat default))) :: .n :: .n :: [])), .reg (.n :: .call (vi r3705) :: nN 5 (.b false :: [])), .br false, .reg (nN 7 (.b false :: [])), .br false, .reg (nN 7 []), .reg (.n :: []), .sub ⟨[(3, none), (19, none), (21, none), (22, none), (23, none), (24, none)], [none, none, none], []⟩ (.exit 2) (Jv a0 r3526 x21 r3784), .reg (nN 3 [])]) (c := ⟨[(3, none), (19, none), (21, none)], [none], []⟩) (e := .normal) (s1 := (Xu a0 r3526 (w64 (x21 + 1)))) (an (an (an (ti (ti (ti (ti tt)))) (an (dt h3702) tt)) (an (an (ti (ti (an h3703 (an e3704 (ti (ti tt)))))) (an (an e3712 (an (df h3713) tt)) (an (an e3716 (an (df h3717) tt)) (an (ti (ti (ti (ti (ti (ti (ti tt))))))) (an (ti tt) e3786))))) (ti (ti (ti tt))))) (ti tt)) (by kernel_rfl)
        cases r with
        | inl r => exact Ql pm pn hv hq h2
        | inr r =>
         exact Ql pm pn hv hq h2
   ·have e3787 := (ti (an e3707 (ti (ti (an (Zo (df h3708)) (an (Zo (df h3708)) (an (Zo (df h3708)) (an (Zo (df h3708)) tt))))))))
    injection h with h; subst h
    exact Qh (c := ⟨[(6, none)], [], []⟩) (s1 := (Zx a0 r3526 ())) pm pn (ans := [.reg (nN 4 []), .br true, .reg (nN 3 (.v (VV.ag (Qa (r3526.1.getD x21.toNat default))) :: .n :: .n :: [])), .reg (.n :: .call (vi r3705) :: .n :: .n :: nS 3 (.b true :: [])), .br true, .reg (.n :: [])]) (by kernel_rfl) (by intro e; cases e) (an (an (an (ti (ti (ti (ti tt)))) (an (dt h3702) tt)) (an (ti (ti (an h3703 (an e3704 (ti (ti tt)))))) (an e3787 (an rt (an (ti tt) tt))))) (ti tt))
  ·injection h with h; subst h
   exact Qh (c := ⟨[], [], []⟩) (s1 := (Zy a0 r3526 ())) pm pn (ans := [.reg (nN 4 []), .br false]) (by kernel_rfl) (by intro e; cases e) (an (an (ti (ti (ti (ti tt)))) (an (df h3702) tt)) (ti tt))
def Xv (a0 : Qc) (r3805 : ((List Qc) × Int)) (x21 : Int) (x24 : Int) (x25 : Int) : VS := ⟨mkA [(3, VV.pt 0 0), (19, VV.fr (flatMap Qa r3805.1) r3805.1.length), (21, vi x21), (22, VV.pt 1 0), (23, VV.pt 2 0), (24, vi x24), (25, vi x25)], [some ⟨true, 1, Qa a0⟩, some ⟨true, 1, Qa (r3805.1.getD x21.toNat default)⟩, some ⟨true, 1, Qa (r3805.1.getD x21.toNat default)⟩], .nil⟩
def Jw (a0 : Qc) (r3805 : ((List Qc) × Int)) (x21 : Int) (x24 : Int) (r : Unit) : VS := ⟨mkA [(6, vb false)], [], .nil⟩
def Jy (a0 : Qc) (r3805 : ((List Qc) × Int)) (x21 : Int) (x24 : Int) (r : Unit) : VS := ⟨mkA [(3, VV.pt 0 0), (19, VV.fr (flatMap Qa r3805.1) r3805.1.length), (21, vi x21), (22, VV.pt 1 0), (23, VV.pt 2 0), (24, vi x24)], [some ⟨true, 1, Qa a0⟩, some ⟨true, 1, Qa (r3805.1.getD x21.toNat default)⟩, some ⟨true, 1, Qa (r3805.1.getD x21.toNat default)⟩], .nil⟩
def Za (k : Nat) (a0 : Qc) (r3805 : ((List Qc) × Int)) (x21 : Int) (x24 : Int) : Nat -> Int -> Option (Sum Unit Unit)
 | 0, _ => none
 | fuel + 1, x25 => if x25 <= 60 then ((Zk k a0 (⟨x25, x24⟩ : Qe) (⟨(r3805.1.getD x21.toNat default).Num, (r3805.1.getD x21.toNat default).Den⟩ : Qe)).bind fun r4050 => (if r4050 = true then (some (.inl ())) else (Za k a0 r3805 x21 x24 fuel (w64 (x25 + 1))))) else (some (.inr ()))
theorem Qbp (k : Nat) (a0 : Qc) (r3805 : ((List Qc) × Int)) (x21 : Int) (x24 : Int) : ∀ (fuel : Nat) (x25 : Int) (r : Sum Unit Unit), Za k a0 r3805 x21 x24 fuel x25 = some r -> (match r with | .inl r => X7 none Try.prog (szF Try.f3) (Z9 Try.f3 2) (Xv a0 r3805 x21 x24 x25) .ret (Jw a0 r3805 x21 x24 r) | .inr r => X7 none Try.prog (szF Try.f3) (Z9 Try.f3 2) (Xv a0 r3805 x21 x24 x25) (.exit 4) (Jy a0 r3805 x21 x24 r)) := by
 intro fuel
 induction fuel with
 | zero => intro x25 r h; rw [Za.eq_1] at h; cases h
 | succ fuel ih =>
  intro x25 r h
  rw [Za.eq_2] at h
  rcases ifs h with ⟨h4049, h⟩ | ⟨h4049, h⟩
  ·obtain ⟨r4050, h4051, h⟩ := bs h
   have e4052 := (VC.args (Xg k a0 (⟨x25, x24⟩ : Qe) (⟨(r3805.1.getD x21.toNat default).Num, (r3805.1.getD x21.toNat default).Den⟩ : Qe) _ h4051) (Qj8 a0 x25 x24 r3805 x21))
   rcases ifs h with ⟨h4053, h⟩ | ⟨h4053, h⟩
   ·injection h with h; subst h
    exact Qh (c := ⟨[(6, none)], [], []⟩) (s1 := (Jw a0 r3805 x21 x24 ())) pm pn (ans := [.reg (.n :: .n :: []), .br true, .reg (nN 5 (.call (vb r4050) :: [])), .br true, .reg (.n :: [])]) (by kernel_rfl) (by intro e; cases e) (an (an (an (ti (ti tt)) (an (dt h4049) tt)) (an (ti (ti (ti (ti (ti (an e4052 tt)))))) (an h4053 (an (ti tt) tt)))) (ti tt))
   ·have h2 := ih _ _ h
    obtain ⟨q, hv, hq⟩ := pkR (rd := none) (P := Try.prog) (fn := Try.f3) (k := 2) (s := (Xv a0 r3805 x21 x24 x25)) (ans := [.reg (.n :: .n :: []), .br true, .reg (nN 5 (.call (vb r4050) :: [])), .br false, .reg (nN 3 [])]) (c := ⟨[(3, none), (19, none), (21, none), (22, none), (23, none), (24, none), (25, none)], [none, none, none], []⟩) (e := .normal) (s1 := (Xv a0 r3805 x21 x24 (w64 (x25 + 1)))) (an (an (an (ti (ti tt)) (an (dt h4049) tt)) (an (an (ti (ti (ti (ti (ti (an e4052 tt)))))) (an (Qby h4053) tt)) (ti (ti (ti tt))))) (ti tt)) (by kernel_rfl)
    cases r with
    | inl r => exact Ql pm pn hv hq h2
    | inr r =>
     exact Ql pm pn hv hq h2
  ·injection h with h; subst h
   exact Qh (c := ⟨[(3, none), (19, none), (21, none), (22, none), (23, none), (24, none)], [none, none, none], []⟩) (s1 := (Jy a0 r3805 x21 x24 ())) pm pn (ans := [.reg (.n :: .n :: []), .br false]) (by kernel_rfl) (by intro e; cases e) (an (an (ti (ti tt)) (an (df h4049) tt)) (ti tt))
def Xw (a0 : Qc) (r3805 : ((List Qc) × Int)) (x21 : Int) (x24 : Int) : VS := ⟨mkA [(3, VV.pt 0 0), (19, VV.fr (flatMap Qa r3805.1) r3805.1.length), (21, vi x21), (22, VV.pt 1 0), (23, VV.pt 2 0), (24, vi x24)], [some ⟨true, 1, Qa a0⟩, some ⟨true, 1, Qa (r3805.1.getD x21.toNat default)⟩, some ⟨true, 1, Qa (r3805.1.getD x21.toNat default)⟩], .nil⟩
def Jz (a0 : Qc) (r3805 : ((List Qc) × Int)) (x21 : Int) (r : Unit) : VS := ⟨mkA [(6, vb false)], [], .nil⟩
def J3 (a0 : Qc) (r3805 : ((List Qc) × Int)) (x21 : Int) (r : Unit) : VS := ⟨mkA [(3, VV.pt 0 0), (19, VV.fr (flatMap Qa r3805.1) r3805.1.length), (21, vi x21)], [some ⟨true, 1, Qa a0⟩], .nil⟩
def Zb (k : Nat) (a0 : Qc) (r3805 : ((List Qc) × Int)) (x21 : Int) : Nat -> Int -> Option (Sum Unit Unit)
 | 0, _ => none
 | fuel + 1, x24 => if x24 <= ((r3805.1.getD x21.toNat default).Den) then ((Za k a0 r3805 x21 x24 k 1).bind fun r4055 => (match r4055 with | .inl r4056 => (some (.inl ())) | .inr r4057 => (Zb k a0 r3805 x21 fuel (w64 (x24 + 1))))) else (some (.inr ()))
theorem Qbq (k : Nat) (a0 : Qc) (r3805 : ((List Qc) × Int)) (x21 : Int) : ∀ (fuel : Nat) (x24 : Int) (r : Sum Unit Unit), Zb k a0 r3805 x21 fuel x24 = some r -> (match r with | .inl r => X7 none Try.prog (szF Try.f3) (Z9 Try.f3 1) (Xw a0 r3805 x21 x24) .ret (Jz a0 r3805 x21 r) | .inr r => X7 none Try.prog (szF Try.f3) (Z9 Try.f3 1) (Xw a0 r3805 x21 x24) (.exit 2) (J3 a0 r3805 x21 r)) := by
 intro fuel
 induction fuel with
 | zero => intro x24 r h; rw [Zb.eq_1] at h; cases h
 | succ fuel ih =>
  intro x24 r h
  rw [Zb.eq_2] at h
  rcases ifs h with ⟨h4039, h⟩ | ⟨h4039, h⟩
  ·obtain ⟨r4055, h4054, h⟩ := bs h
   have hph4054 := Qbp k a0 r3805 x21 x24 _ _ _ h4054
   cases r4055 with
   | inl r4056 =>
    dsimp only at h
    have e4058 := (an (ti tt) (VRun.loop hph4054))
    injection h with h; subst h
    exact Qh (c := ⟨[(6, none)], [], []⟩) (s1 := (Jz a0 r3805 x21 ())) pm pn (ans := [.reg (nN 4 []), .br true, .reg (.n :: []), .sub ⟨[(3, none), (19, none), (21, none), (22, none), (23, none), (24, none), (25, none)], [none, none, none], []⟩ .ret (Jw a0 r3805 x21 x24 r4056)]) (by kernel_rfl) (by intro e; cases e) (an (an (an (ti (ti (ti (ti tt)))) (an (dt h4039) tt)) (an (ti tt) e4058)) (ti tt))
   | inr r4057 =>
    dsimp only at h
    have e4059 := (an (ti tt) (VRun.loop hph4054))
    have h2 := ih _ _ h
    obtain ⟨q, hv, hq⟩ := pkR (rd := none) (P := Try.prog) (fn := Try.f3) (k := 1) (s := (Xw a0 r3805 x21 x24)) (ans := [.reg (nN 4 []), .br true, .reg (.n :: []), .sub ⟨[(3, none), (19, none), (21, none), (22, none), (23, none), (24, none), (25, none)], [none, none, none], []⟩ (.exit 4) (Jy a0 r3805 x21 x24 r4057), .reg (nN 3 [])]) (c := ⟨[(3, none), (19, none), (21, none), (22, none), (23, none), (24, none)], [none, none, none], []⟩) (e := .normal) (s1 := (Xw a0 r3805 x21 (w64 (x24 + 1)))) (an (an (an (ti (ti (ti (ti tt)))) (an (dt h4039) tt)) (an (an (ti tt) e4059) (ti (ti (ti tt))))) (ti tt)) (by kernel_rfl)
    cases r with
    | inl r => exact Ql pm pn hv hq h2
    | inr r =>
     exact Ql pm pn hv hq h2
  ·injection h with h; subst h
   exact Qh (c := ⟨[(3, none), (19, none), (21, none)], [none], []⟩) (s1 := (J3 a0 r3805 x21 ())) pm pn (ans := [.reg (nN 4 []), .br false]) (by kernel_rfl) (by intro e; cases e) (an (an (ti (ti (ti (ti tt)))) (an (df h4039) tt)) (ti tt))
def Xx (a0 : Qc) (r3805 : ((List Qc) × Int)) (x21 : Int) : VS := ⟨mkA [(3, VV.pt 0 0), (19, VV.fr (flatMap Qa r3805.1) r3805.1.length), (21, vi x21)], [some ⟨true, 1, Qa a0⟩], .nil⟩
def Zz (a0 : Qc) (r3805 : ((List Qc) × Int)) (r : Unit) : VS := ⟨mkA [(6, vb false)], [], .nil⟩
def Z4 (a0 : Qc) (r3805 : ((List Qc) × Int)) (r : Unit) : VS := ⟨mkA [], [], .nil⟩
def Qr (k : Nat) (a0 : Qc) (r3805 : ((List Qc) × Int)) : Nat -> Int -> Option (Sum Unit Unit)
 | 0, _ => none
 | fuel + 1, x21 => if x21 < (r3805.1.length : Int) then (if 0 <= x21 /\ x21 < (r3805.1.length : Int) then ((Qi k (r3805.1.getD x21.toNat default)).bind fun r3984 => (if r3984 = 0 then (if ((r3805.1.getD x21.toNat default).Num) < 1 then (some (.inl ())) else (if 60 < ((r3805.1.getD x21.toNat default).Num) then (some (.inr ())) else (if 60 < ((r3805.1.getD x21.toNat default).Den) then (some (.inr ())) else ((Zb k a0 r3805 x21 k 1).bind fun r4061 => (match r4061 with | .inl r4062 => (some (.inl ())) | .inr r4063 => (Qr k a0 r3805 fuel (w64 (x21 + 1)))))))) else (some (.inl ())))) else none) else (some (.inr ()))
theorem Qbr (k : Nat) (a0 : Qc) (r3805 : ((List Qc) × Int)) : ∀ (fuel : Nat) (x21 : Int) (r : Sum Unit Unit), Qr k a0 r3805 fuel x21 = some r -> (match r with | .inl r => X7 none Try.prog (szF Try.f3) (Z9 Try.f3 0) (Xx a0 r3805 x21) .ret (Zz a0 r3805 r) | .inr r => X7 none Try.prog (szF Try.f3) (Z9 Try.f3 0) (Xx a0 r3805 x21) (.exit 0) (Z4 a0 r3805 r)) := by
 intro fuel
 induction fuel with
 | zero => intro x21 r h; rw [Qr.eq_1] at h; cases h
 | succ fuel ih =>
  intro x21 r h
  rw [Qr.eq_2] at h
  rcases ifs h with ⟨h3981, h⟩ | ⟨h3981, h⟩
  ·obtain ⟨h3982, h⟩ := ifn h
   have e3983 := (show Qch Try.prog 23 (x21.toNat * 2) (flatMap Qa r3805.1) = some (VV.ag (Qa (r3805.1.getD x21.toNat default))) from Qa1 ag23 Qa 2 sz23 Jd r3805.1 default h3982 (by omega))
   obtain ⟨r3984, h3985, h⟩ := bs h
   have e3986 := (Qm k (r3805.1.getD x21.toNat default) _ h3985)
   rcases ifs h with ⟨h3987, h⟩ | ⟨h3987, h⟩
   ·have e3988 := (an (Qk (dt h3987)) tt)
    have e3989 := (an (Qk (dt h3987)) tt)
    have e3990 := (an (Qk (dt h3987)) tt)
    have e3991 := (ti (an e3986 (ti (ti (an e3988 (an e3989 (an e3990 (an (Qk (dt h3987)) tt))))))))
    rcases ifs h with ⟨h3992, h⟩ | ⟨h3992, h⟩
    ·injection h with h; subst h
     exact Qh (c := ⟨[(6, none)], [], []⟩) (s1 := (Zz a0 r3805 ())) pm pn (ans := [.reg (nN 4 []), .br true, .reg (nN 3 (.v (VV.ag (Qa (r3805.1.getD x21.toNat default))) :: .n :: .n :: [])), .reg (.n :: .call (vi r3984) :: nN 5 (.b false :: [])), .br true, .reg (.n :: [])]) (by kernel_rfl) (by intro e; cases e) (an (an (an (ti (ti (ti (ti tt)))) (an (dt h3981) tt)) (an (ti (ti (an h3982 (an e3983 (ti (ti tt)))))) (an e3991 (an (dt h3992) (an (ti tt) tt))))) (ti tt))
    ·rcases ifs h with ⟨h3993, h⟩ | ⟨h3993, h⟩
     ·have e3994 := (ti (ti (ti (ti (an (dt h3993) (an (dt h3993) (an (dt h3993) (an (dt h3993) tt))))))))
      injection h with h; subst h
      exact Qh (c := ⟨[], [], []⟩) (s1 := (Z4 a0 r3805 ())) pm pn (ans := [.reg (nN 4 []), .br true, .reg (nN 3 (.v (VV.ag (Qa (r3805.1.getD x21.toNat default))) :: .n :: .n :: [])), .reg (.n :: .call (vi r3984) :: nN 5 (.b false :: [])), .br false, .reg (nN 4 (nS 3 (.b true :: []))), .br true]) (by kernel_rfl) (by intro e; cases e) (an (an (an (ti (ti (ti (ti tt)))) (an (dt h3981) tt)) (an (ti (ti (an h3982 (an e3983 (ti (ti tt)))))) (an (an e3991 (an (df h3992) tt)) (an e3994 (an rt tt))))) (ti tt))
     ·have e3995 := (ti (ti (ti (ti (an (an (df h3993) tt) (an (an (df h3993) tt) (an (an (df h3993) tt) (an (df h3993) tt))))))))
      rcases ifs h with ⟨h3996, h⟩ | ⟨h3996, h⟩
      ·injection h with h; subst h
       exact Qh (c := ⟨[], [], []⟩) (s1 := (Z4 a0 r3805 ())) pm pn (ans := [.reg (nN 4 []), .br true, .reg (nN 3 (.v (VV.ag (Qa (r3805.1.getD x21.toNat default))) :: .n :: .n :: [])), .reg (.n :: .call (vi r3984) :: nN 5 (.b false :: [])), .br false, .reg (nN 7 (.b false :: [])), .br true]) (by kernel_rfl) (by intro e; cases e) (an (an (an (ti (ti (ti (ti tt)))) (an (dt h3981) tt)) (an (ti (ti (an h3982 (an e3983 (ti (ti tt)))))) (an (an e3991 (an (df h3992) tt)) (an e3995 (an (dt h3996) tt))))) (ti tt))
      ·obtain ⟨r4061, h4060, h⟩ := bs h
       have hph4060 := Qbq k a0 r3805 x21 _ _ _ h4060
       cases r4061 with
       | inl r4062 =>
        dsimp only at h
        have e4064 := (an (ti tt) (VRun.loop hph4060))
        injection h with h; subst h
        exact Qh (c := ⟨[(6, none)], [], []⟩) (s1 := (Zz a0 r3805 ())) pm pn (ans := [.reg (nN 4 []), .br true, .reg (nN 3 (.v (VV.ag (Qa (r3805.1.getD x21.toNat default))) :: .n :: .n :: [])), .reg (.n :: .call (vi r3984) :: nN 5 (.b false :: [])), .br false, .reg (nN 7 (.b false :: [])), .br false, .reg (nN 7 []), .reg (.n :: []), .sub ⟨[(3, none), (19, none), (21, none), (22, none), (23, none), (24, none)], [none, none, none], []⟩ .ret (Jz a0 r3805 x21 r4062)]) (by kernel_rfl) (by intro e; cases e) (an (an (an (ti (ti (ti (ti tt)))) (an (dt h3981) tt)) (an (ti (ti (an h3982 (an e3983 (ti (ti tt)))))) (an (an e3991 (an (df h3992) tt)) (an (an e3995 (an (df h3996) tt)) (an (ti (ti (ti (ti (ti (ti (ti tt))))))) (an (ti tt) e4064)))))) (ti tt))
       | inr r4063 =>
        dsimp only at h
        have e4065 := (an (ti tt) (VRun.loop hph4060))
        have h2 := ih _ _ h
        obtain ⟨q, hv, hq⟩ := pkR (rd := none) (P := Try.prog) (fn := Try.f3) (k := 0) (s := (Xx a0 r3805 x21)) (ans := [.reg (nN 4 []), .br true, .reg (nN 3 (.v (VV.ag (Qa (r3805.1.getD x21.toNat default))) :: .n :: .n :: [])), .reg (.n :: .call (vi r3984) :: nN 5 (.b false :: [])), .br false, .reg (nN 7 (.b false :: [])), .br false, .reg (nN 7 []), .reg (.n :: []), .sub ⟨[(3, none), (19, none), (21, none), (22, none), (23, none), (24, none)], [none, none, none], []⟩ (.exit 2) (J3 a0 r3805 x21 r4063), .reg (nN 3 [])]) (c := ⟨[(3, none), (19, none), (21, none)], [none], []⟩) (e := .normal) (s1 := (Xx a0 r3805 (w64 (x21 + 1)))) (an (an (an (ti (ti (ti (ti tt)))) (an (dt h3981) tt)) (an (an (ti (ti (an h3982 (an e3983 (ti (ti tt)))))) (an (an e3991 (an (df h3992) tt)) (an (an e3995 (an (df h3996) tt)) (an (ti (ti (ti (ti (ti (ti (ti tt))))))) (an (ti tt) e4065))))) (ti (ti (ti tt))))) (ti tt)) (by kernel_rfl)
        cases r with
        | inl r => exact Ql pm pn hv hq h2
        | inr r =>
         exact Ql pm pn hv hq h2
   ·have e4066 := (ti (an e3986 (ti (ti (an (Zo (df h3987)) (an (Zo (df h3987)) (an (Zo (df h3987)) (an (Zo (df h3987)) tt))))))))
    injection h with h; subst h
    exact Qh (c := ⟨[(6, none)], [], []⟩) (s1 := (Zz a0 r3805 ())) pm pn (ans := [.reg (nN 4 []), .br true, .reg (nN 3 (.v (VV.ag (Qa (r3805.1.getD x21.toNat default))) :: .n :: .n :: [])), .reg (.n :: .call (vi r3984) :: .n :: .n :: nS 3 (.b true :: [])), .br true, .reg (.n :: [])]) (by kernel_rfl) (by intro e; cases e) (an (an (an (ti (ti (ti (ti tt)))) (an (dt h3981) tt)) (an (ti (ti (an h3982 (an e3983 (ti (ti tt)))))) (an e4066 (an rt (an (ti tt) tt))))) (ti tt))
  ·injection h with h; subst h
   exact Qh (c := ⟨[], [], []⟩) (s1 := (Z4 a0 r3805 ())) pm pn (ans := [.reg (nN 4 []), .br false]) (by kernel_rfl) (by intro e; cases e) (an (an (ti (ti (ti (ti tt)))) (an (df h3981) tt)) (ti tt))
def Xy (a0 : Qc) (r4084 : ((List Qc) × Int)) (x21 : Int) (x24 : Int) (x25 : Int) : VS := ⟨mkA [(3, VV.pt 0 0), (19, VV.fr (flatMap Qa r4084.1) r4084.1.length), (21, vi x21), (22, VV.pt 1 0), (23, VV.pt 2 0), (24, vi x24), (25, vi x25)], [some ⟨true, 1, Qa a0⟩, some ⟨true, 1, Qa (r4084.1.getD x21.toNat default)⟩, some ⟨true, 1, Qa (r4084.1.getD x21.toNat default)⟩], .nil⟩
def J4 (a0 : Qc) (r4084 : ((List Qc) × Int)) (x21 : Int) (x24 : Int) (r : Unit) : VS := ⟨mkA [(6, vb false)], [], .nil⟩
def J5 (a0 : Qc) (r4084 : ((List Qc) × Int)) (x21 : Int) (x24 : Int) (r : Unit) : VS := ⟨mkA [(3, VV.pt 0 0), (19, VV.fr (flatMap Qa r4084.1) r4084.1.length), (21, vi x21), (22, VV.pt 1 0), (23, VV.pt 2 0), (24, vi x24)], [some ⟨true, 1, Qa a0⟩, some ⟨true, 1, Qa (r4084.1.getD x21.toNat default)⟩, some ⟨true, 1, Qa (r4084.1.getD x21.toNat default)⟩], .nil⟩
def Zc (k : Nat) (a0 : Qc) (r4084 : ((List Qc) × Int)) (x21 : Int) (x24 : Int) : Nat -> Int -> Option (Sum Unit Unit)
 | 0, _ => none
 | fuel + 1, x25 => if x25 <= 60 then ((Zk k a0 (⟨x25, x24⟩ : Qe) (⟨(r4084.1.getD x21.toNat default).Num, (r4084.1.getD x21.toNat default).Den⟩ : Qe)).bind fun r4329 => (if r4329 = true then (some (.inl ())) else (Zc k a0 r4084 x21 x24 fuel (w64 (x25 + 1))))) else (some (.inr ()))
theorem Qbs (k : Nat) (a0 : Qc) (r4084 : ((List Qc) × Int)) (x21 : Int) (x24 : Int) : ∀ (fuel : Nat) (x25 : Int) (r : Sum Unit Unit), Zc k a0 r4084 x21 x24 fuel x25 = some r -> (match r with | .inl r => X7 none Try.prog (szF Try.f3) (Z9 Try.f3 2) (Xy a0 r4084 x21 x24 x25) .ret (J4 a0 r4084 x21 x24 r) | .inr r => X7 none Try.prog (szF Try.f3) (Z9 Try.f3 2) (Xy a0 r4084 x21 x24 x25) (.exit 4) (J5 a0 r4084 x21 x24 r)) := by
 intro fuel
 induction fuel with
 | zero => intro x25 r h; rw [Zc.eq_1] at h; cases h
 | succ fuel ih =>
  intro x25 r h
  rw [Zc.eq_2] at h
  rcases ifs h with ⟨h4328, h⟩ | ⟨h4328, h⟩
  ·obtain ⟨r4329, h4330, h⟩ := bs h
   have e4331 := (VC.args (Xg k a0 (⟨x25, x24⟩ : Qe) (⟨(r4084.1.getD x21.toNat default).Num, (r4084.1.getD x21.toNat default).Den⟩ : Qe) _ h4330) (Qj8 a0 x25 x24 r4084 x21))
   rcases ifs h with ⟨h4332, h⟩ | ⟨h4332, h⟩
   ·injection h with h; subst h
    exact Qh (c := ⟨[(6, none)], [], []⟩) (s1 := (J4 a0 r4084 x21 x24 ())) pm pn (ans := [.reg (.n :: .n :: []), .br true, .reg (nN 5 (.call (vb r4329) :: [])), .br true, .reg (.n :: [])]) (by kernel_rfl) (by intro e; cases e) (an (an (an (ti (ti tt)) (an (dt h4328) tt)) (an (ti (ti (ti (ti (ti (an e4331 tt)))))) (an h4332 (an (ti tt) tt)))) (ti tt))
   ·have h2 := ih _ _ h
    obtain ⟨q, hv, hq⟩ := pkR (rd := none) (P := Try.prog) (fn := Try.f3) (k := 2) (s := (Xy a0 r4084 x21 x24 x25)) (ans := [.reg (.n :: .n :: []), .br true, .reg (nN 5 (.call (vb r4329) :: [])), .br false, .reg (nN 3 [])]) (c := ⟨[(3, none), (19, none), (21, none), (22, none), (23, none), (24, none), (25, none)], [none, none, none], []⟩) (e := .normal) (s1 := (Xy a0 r4084 x21 x24 (w64 (x25 + 1)))) (an (an (an (ti (ti tt)) (an (dt h4328) tt)) (an (an (ti (ti (ti (ti (ti (an e4331 tt)))))) (an (Qby h4332) tt)) (ti (ti (ti tt))))) (ti tt)) (by kernel_rfl)
    cases r with
    | inl r => exact Ql pm pn hv hq h2
    | inr r =>
     exact Ql pm pn hv hq h2
  ·injection h with h; subst h
   exact Qh (c := ⟨[(3, none), (19, none), (21, none), (22, none), (23, none), (24, none)], [none, none, none], []⟩) (s1 := (J5 a0 r4084 x21 x24 ())) pm pn (ans := [.reg (.n :: .n :: []), .br false]) (by kernel_rfl) (by intro e; cases e) (an (an (ti (ti tt)) (an (df h4328) tt)) (ti tt))
def Xz (a0 : Qc) (r4084 : ((List Qc) × Int)) (x21 : Int) (x24 : Int) : VS := ⟨mkA [(3, VV.pt 0 0), (19, VV.fr (flatMap Qa r4084.1) r4084.1.length), (21, vi x21), (22, VV.pt 1 0), (23, VV.pt 2 0), (24, vi x24)], [some ⟨true, 1, Qa a0⟩, some ⟨true, 1, Qa (r4084.1.getD x21.toNat default)⟩, some ⟨true, 1, Qa (r4084.1.getD x21.toNat default)⟩], .nil⟩
def J6 (a0 : Qc) (r4084 : ((List Qc) × Int)) (x21 : Int) (r : Unit) : VS := ⟨mkA [(6, vb false)], [], .nil⟩
def J7 (a0 : Qc) (r4084 : ((List Qc) × Int)) (x21 : Int) (r : Unit) : VS := ⟨mkA [(3, VV.pt 0 0), (19, VV.fr (flatMap Qa r4084.1) r4084.1.length), (21, vi x21)], [some ⟨true, 1, Qa a0⟩], .nil⟩
def Zd (k : Nat) (a0 : Qc) (r4084 : ((List Qc) × Int)) (x21 : Int) : Nat -> Int -> Option (Sum Unit Unit)
 | 0, _ => none
 | fuel + 1, x24 => if x24 <= ((r4084.1.getD x21.toNat default).Den) then ((Zc k a0 r4084 x21 x24 k 1).bind fun r4334 => (match r4334 with | .inl r4335 => (some (.inl ())) | .inr r4336 => (Zd k a0 r4084 x21 fuel (w64 (x24 + 1))))) else (some (.inr ()))
theorem Qbt (k : Nat) (a0 : Qc) (r4084 : ((List Qc) × Int)) (x21 : Int) : ∀ (fuel : Nat) (x24 : Int) (r : Sum Unit Unit), Zd k a0 r4084 x21 fuel x24 = some r -> (match r with | .inl r => X7 none Try.prog (szF Try.f3) (Z9 Try.f3 1) (Xz a0 r4084 x21 x24) .ret (J6 a0 r4084 x21 r) | .inr r => X7 none Try.prog (szF Try.f3) (Z9 Try.f3 1) (Xz a0 r4084 x21 x24) (.exit 2) (J7 a0 r4084 x21 r)) := by
 intro fuel
 induction fuel with
 | zero => intro x24 r h; rw [Zd.eq_1] at h; cases h
 | succ fuel ih =>
  intro x24 r h
  rw [Zd.eq_2] at h
  rcases ifs h with ⟨h4318, h⟩ | ⟨h4318, h⟩
  ·obtain ⟨r4334, h4333, h⟩ := bs h
   have hph4333 := Qbs k a0 r4084 x21 x24 _ _ _ h4333
   cases r4334 with
   | inl r4335 =>
    dsimp only at h
    have e4337 := (an (ti tt) (VRun.loop hph4333))
    injection h with h; subst h
    exact Qh (c := ⟨[(6, none)], [], []⟩) (s1 := (J6 a0 r4084 x21 ())) pm pn (ans := [.reg (nN 4 []), .br true, .reg (.n :: []), .sub ⟨[(3, none), (19, none), (21, none), (22, none), (23, none), (24, none), (25, none)], [none, none, none], []⟩ .ret (J4 a0 r4084 x21 x24 r4335)]) (by kernel_rfl) (by intro e; cases e) (an (an (an (ti (ti (ti (ti tt)))) (an (dt h4318) tt)) (an (ti tt) e4337)) (ti tt))
   | inr r4336 =>
    dsimp only at h
    have e4338 := (an (ti tt) (VRun.loop hph4333))
    have h2 := ih _ _ h
    obtain ⟨q, hv, hq⟩ := pkR (rd := none) (P := Try.prog) (fn := Try.f3) (k := 1) (s := (Xz a0 r4084 x21 x24)) (ans := [.reg (nN 4 []), .br true, .reg (.n :: []), .sub ⟨[(3, none), (19, none), (21, none), (22, none), (23, none), (24, none), (25, none)], [none, none, none], []⟩ (.exit 4) (J5 a0 r4084 x21 x24 r4336), .reg (nN 3 [])]) (c := ⟨[(3, none), (19, none), (21, none), (22, none), (23, none), (24, none)], [none, none, none], []⟩) (e := .normal) (s1 := (Xz a0 r4084 x21 (w64 (x24 + 1)))) (an (an (an (ti (ti (ti (ti tt)))) (an (dt h4318) tt)) (an (an (ti tt) e4338) (ti (ti (ti tt))))) (ti tt)) (by kernel_rfl)
    cases r with
    | inl r => exact Ql pm pn hv hq h2
    | inr r =>
     exact Ql pm pn hv hq h2
  ·injection h with h; subst h
   exact Qh (c := ⟨[(3, none), (19, none), (21, none)], [none], []⟩) (s1 := (J7 a0 r4084 x21 ())) pm pn (ans := [.reg (nN 4 []), .br false]) (by kernel_rfl) (by intro e; cases e) (an (an (ti (ti (ti (ti tt)))) (an (df h4318) tt)) (ti tt))
def X0 (a0 : Qc) (r4084 : ((List Qc) × Int)) (x21 : Int) : VS := ⟨mkA [(3, VV.pt 0 0), (19, VV.fr (flatMap Qa r4084.1) r4084.1.length), (21, vi x21)], [some ⟨true, 1, Qa a0⟩], .nil⟩
def Z5 (a0 : Qc) (r4084 : ((List Qc) × Int)) (r : Unit) : VS := ⟨mkA [(6, vb false)], [], .nil⟩
def Z7 (a0 : Qc) (r4084 : ((List Qc) × Int)) (r : Unit) : VS := ⟨mkA [], [], .nil⟩
def Qs (k : Nat) (a0 : Qc) (r4084 : ((List Qc) × Int)) : Nat -> Int -> Option (Sum Unit Unit)
 | 0, _ => none
 | fuel + 1, x21 => if x21 < (r4084.1.length : Int) then (if 0 <= x21 /\ x21 < (r4084.1.length : Int) then ((Qi k (r4084.1.getD x21.toNat default)).bind fun r4263 => (if r4263 = 0 then (if ((r4084.1.getD x21.toNat default).Num) < 1 then (some (.inl ())) else (if 60 < ((r4084.1.getD x21.toNat default).Num) then (some (.inr ())) else (if 60 < ((r4084.1.getD x21.toNat default).Den) then (some (.inr ())) else ((Zd k a0 r4084 x21 k 1).bind fun r4340 => (match r4340 with | .inl r4341 => (some (.inl ())) | .inr r4342 => (Qs k a0 r4084 fuel (w64 (x21 + 1)))))))) else (some (.inl ())))) else none) else (some (.inr ()))
theorem Qbu (k : Nat) (a0 : Qc) (r4084 : ((List Qc) × Int)) : ∀ (fuel : Nat) (x21 : Int) (r : Sum Unit Unit), Qs k a0 r4084 fuel x21 = some r -> (match r with | .inl r => X7 none Try.prog (szF Try.f3) (Z9 Try.f3 0) (X0 a0 r4084 x21) .ret (Z5 a0 r4084 r) | .inr r => X7 none Try.prog (szF Try.f3) (Z9 Try.f3 0) (X0 a0 r4084 x21) (.exit 0) (Z7 a0 r4084 r)) := by
 intro fuel
 induction fuel with
 | zero => intro x21 r h; rw [Qs.eq_1] at h; cases h
 | succ fuel ih =>
  intro x21 r h
  rw [Qs.eq_2] at h
  rcases ifs h with ⟨h4260, h⟩ | ⟨h4260, h⟩
  ·obtain ⟨h4261, h⟩ := ifn h
   have e4262 := (show Qch Try.prog 23 (x21.toNat * 2) (flatMap Qa r4084.1) = some (VV.ag (Qa (r4084.1.getD x21.toNat default))) from Qa1 ag23 Qa 2 sz23 Jd r4084.1 default h4261 (by omega))
   obtain ⟨r4263, h4264, h⟩ := bs h
   have e4265 := (Qm k (r4084.1.getD x21.toNat default) _ h4264)
   rcases ifs h with ⟨h4266, h⟩ | ⟨h4266, h⟩
   ·have e4267 := (an (Qk (dt h4266)) tt)
    have e4268 := (an (Qk (dt h4266)) tt)
    have e4269 := (an (Qk (dt h4266)) tt)
    have e4270 := (ti (an e4265 (ti (ti (an e4267 (an e4268 (an e4269 (an (Qk (dt h4266)) tt))))))))
    rcases ifs h with ⟨h4271, h⟩ | ⟨h4271, h⟩
    ·injection h with h; subst h
     exact Qh (c := ⟨[(6, none)], [], []⟩) (s1 := (Z5 a0 r4084 ())) pm pn (ans := [.reg (nN 4 []), .br true, .reg (nN 3 (.v (VV.ag (Qa (r4084.1.getD x21.toNat default))) :: .n :: .n :: [])), .reg (.n :: .call (vi r4263) :: nN 5 (.b false :: [])), .br true, .reg (.n :: [])]) (by kernel_rfl) (by intro e; cases e) (an (an (an (ti (ti (ti (ti tt)))) (an (dt h4260) tt)) (an (ti (ti (an h4261 (an e4262 (ti (ti tt)))))) (an e4270 (an (dt h4271) (an (ti tt) tt))))) (ti tt))
    ·rcases ifs h with ⟨h4272, h⟩ | ⟨h4272, h⟩
     ·have e4273 := (ti (ti (ti (ti (an (dt h4272) (an (dt h4272) (an (dt h4272) (an (dt h4272) tt))))))))
      injection h with h; subst h
      exact Qh (c := ⟨[], [], []⟩) (s1 := (Z7 a0 r4084 ())) pm pn (ans := [.reg (nN 4 []), .br true, .reg (nN 3 (.v (VV.ag (Qa (r4084.1.getD x21.toNat default))) :: .n :: .n :: [])), .reg (.n :: .call (vi r4263) :: nN 5 (.b false :: [])), .br false, .reg (nN 4 (nS 3 (.b true :: []))), .br true]) (by kernel_rfl) (by intro e; cases e) (an (an (an (ti (ti (ti (ti tt)))) (an (dt h4260) tt)) (an (ti (ti (an h4261 (an e4262 (ti (ti tt)))))) (an (an e4270 (an (df h4271) tt)) (an e4273 (an rt tt))))) (ti tt))
     ·have e4274 := (ti (ti (ti (ti (an (an (df h4272) tt) (an (an (df h4272) tt) (an (an (df h4272) tt) (an (df h4272) tt))))))))
      rcases ifs h with ⟨h4275, h⟩ | ⟨h4275, h⟩
      ·injection h with h; subst h
       exact Qh (c := ⟨[], [], []⟩) (s1 := (Z7 a0 r4084 ())) pm pn (ans := [.reg (nN 4 []), .br true, .reg (nN 3 (.v (VV.ag (Qa (r4084.1.getD x21.toNat default))) :: .n :: .n :: [])), .reg (.n :: .call (vi r4263) :: nN 5 (.b false :: [])), .br false, .reg (nN 7 (.b false :: [])), .br true]) (by kernel_rfl) (by intro e; cases e) (an (an (an (ti (ti (ti (ti tt)))) (an (dt h4260) tt)) (an (ti (ti (an h4261 (an e4262 (ti (ti tt)))))) (an (an e4270 (an (df h4271) tt)) (an e4274 (an (dt h4275) tt))))) (ti tt))
      ·obtain ⟨r4340, h4339, h⟩ := bs h
       have hph4339 := Qbt k a0 r4084 x21 _ _ _ h4339
       cases r4340 with
       | inl r4341 =>
        dsimp only at h
        have e4343 := (an (ti tt) (VRun.loop hph4339))
        injection h with h; subst h
        exact Qh (c := ⟨[(6, none)], [], []⟩) (s1 := (Z5 a0 r4084 ())) pm pn (ans := [.reg (nN 4 []), .br true, .reg (nN 3 (.v (VV.ag (Qa (r4084.1.getD x21.toNat default))) :: .n :: .n :: [])), .reg (.n :: .call (vi r4263) :: nN 5 (.b false :: [])), .br false, .reg (nN 7 (.b false :: [])), .br false, .reg (nN 7 []), .reg (.n :: []), .sub ⟨[(3, none), (19, none), (21, none), (22, none), (23, none), (24, none)], [none, none, none], []⟩ .ret (J6 a0 r4084 x21 r4341)]) (by kernel_rfl) (by intro e; cases e) (an (an (an (ti (ti (ti (ti tt)))) (an (dt h4260) tt)) (an (ti (ti (an h4261 (an e4262 (ti (ti tt)))))) (an (an e4270 (an (df h4271) tt)) (an (an e4274 (an (df h4275) tt)) (an (ti (ti (ti (ti (ti (ti (ti tt))))))) (an (ti tt) e4343)))))) (ti tt))
       | inr r4342 =>
        dsimp only at h
        have e4344 := (an (ti tt) (VRun.loop hph4339))
        have h2 := ih _ _ h
        obtain ⟨q, hv, hq⟩ := pkR (rd := none) (P := Try.prog) (fn := Try.f3) (k := 0) (s := (X0 a0 r4084 x21)) (ans := [.reg (nN 4 []), .br true, .reg (nN 3 (.v (VV.ag (Qa (r4084.1.getD x21.toNat default))) :: .n :: .n :: [])), .reg (.n :: .call (vi r4263) :: nN 5 (.b false :: [])), .br false, .reg (nN 7 (.b false :: [])), .br false, .reg (nN 7 []), .reg (.n :: []), .sub ⟨[(3, none), (19, none), (21, none), (22, none), (23, none), (24, none)], [none, none, none], []⟩ (.exit 2) (J7 a0 r4084 x21 r4342), .reg (nN 3 [])]) (c := ⟨[(3, none), (19, none), (21, none)], [none], []⟩) (e := .normal) (s1 := (X0 a0 r4084 (w64 (x21 + 1)))) (an (an (an (ti (ti (ti (ti tt)))) (an (dt h4260) tt)) (an (an (ti (ti (an h4261 (an e4262 (ti (ti tt)))))) (an (an e4270 (an (df h4271) tt)) (an (an e4274 (an (df h4275) tt)) (an (ti (ti (ti (ti (ti (ti (ti tt))))))) (an (ti tt) e4344))))) (ti (ti (ti tt))))) (ti tt)) (by kernel_rfl)
        cases r with
        | inl r => exact Ql pm pn hv hq h2
        | inr r =>
         exact Ql pm pn hv hq h2
   ·have e4345 := (ti (an e4265 (ti (ti (an (Zo (df h4266)) (an (Zo (df h4266)) (an (Zo (df h4266)) (an (Zo (df h4266)) tt))))))))
    injection h with h; subst h
    exact Qh (c := ⟨[(6, none)], [], []⟩) (s1 := (Z5 a0 r4084 ())) pm pn (ans := [.reg (nN 4 []), .br true, .reg (nN 3 (.v (VV.ag (Qa (r4084.1.getD x21.toNat default))) :: .n :: .n :: [])), .reg (.n :: .call (vi r4263) :: .n :: .n :: nS 3 (.b true :: [])), .br true, .reg (.n :: [])]) (by kernel_rfl) (by intro e; cases e) (an (an (an (ti (ti (ti (ti tt)))) (an (dt h4260) tt)) (an (ti (ti (an h4261 (an e4262 (ti (ti tt)))))) (an e4345 (an rt (an (ti tt) tt))))) (ti tt))
  ·injection h with h; subst h
   exact Qh (c := ⟨[], [], []⟩) (s1 := (Z7 a0 r4084 ())) pm pn (ans := [.reg (nN 4 []), .br false]) (by kernel_rfl) (by intro e; cases e) (an (an (ti (ti (ti (ti tt)))) (an (df h4260) tt)) (ti tt))
def Qxi (z0 : Int) : List Ans := (nN 7 (.b false :: .n :: .n :: .call (vi z0) :: .n :: .b false :: .n :: nS 3 (.b true :: [])))
def Yf (k : Nat) (a0 : Qc) (a1 : (List Qe)) (a2 : (List Qe)) : Option Bool :=
 (Qq7 k).bind fun r2616 => (if r2616 = true then (if 4 < (a1.length : Int) then (some true) else (if 4 < (a2.length : Int) then (some true) else ((Xc k a1).bind fun r2623 => (if r2623 = 0 then ((Xc k a2).bind fun r2628 => (if r2628 = 0 then ((Wl k a1).bind fun r2634 => ((Wl k a2).bind fun r2637 => (if ([] : List Qe).length + a1.length <= 1000000000 then (if (([] : List Qe) ++ a1).length + a2.length <= 1000000000 then ((Wl k ((([] : List Qe) ++ a1) ++ a2)).bind fun r2644 => (if r2634.2 = 0 then (if r2637.2 = 0 then (if r2644.2 = 0 then ((Qb3 k r2634.1 r2637.1).bind fun r2652 => (if r2652.2 = 0 then (if ((r2652.1.Num : Int) == r2644.1.Num && ((r2652.1.Den : Int) == r2644.1.Den && true)) = true then ((Y9 k a1).bind fun r2662 => ((Y9 k ((([] : List Qe) ++ a1) ++ a2)).bind fun r2667 => (if r2662.2 = 0 then (if r2667.2 = 0 then (if r2662.1 < 1 then (some false) else (if r2662.1 ≠ 0 then (if (r2667.1.tmod r2662.1) = 0 then ((Qi k a0).bind fun r2680 => (if r2680 = 0 then (if a0.Num <= 0 then (some true) else ((Qu k a0).bind fun r2689 => (if r2689.2 = 0 then ((Qn k a0 r2689 k 1).bind fun r2952 => (match r2952 with | .inl r2953 => (some false) | .inr r2954 => (some true))) else (some false)))) else (some true))) else (some false)) else none)) else ((Qi k a0).bind fun r2959 => (if r2959 = 0 then (if a0.Num <= 0 then (some true) else ((Qu k a0).bind fun r2968 => (if r2968.2 = 0 then ((Qo k a0 r2968 k 1).bind fun r3231 => (match r3231 with | .inl r3232 => (some false) | .inr r3233 => (some true))) else (some false)))) else (some true)))) else ((Qi k a0).bind fun r3238 => (if r3238 = 0 then (if a0.Num <= 0 then (some true) else ((Qu k a0).bind fun r3247 => (if r3247.2 = 0 then ((Qp k a0 r3247 k 1).bind fun r3510 => (match r3510 with | .inl r3511 => (some false) | .inr r3512 => (some true))) else (some false)))) else (some true)))))) else (some false)) else (some false))) else ((Qi k a0).bind fun r3517 => (if r3517 = 0 then (if a0.Num <= 0 then (some true) else ((Qu k a0).bind fun r3526 => (if r3526.2 = 0 then ((Qq k a0 r3526 k 1).bind fun r3789 => (match r3789 with | .inl r3790 => (some false) | .inr r3791 => (some true))) else (some false)))) else (some true)))) else ((Qi k a0).bind fun r3796 => (if r3796 = 0 then (if a0.Num <= 0 then (some true) else ((Qu k a0).bind fun r3805 => (if r3805.2 = 0 then ((Qr k a0 r3805 k 1).bind fun r4068 => (match r4068 with | .inl r4069 => (some false) | .inr r4070 => (some true))) else (some false)))) else (some true)))) else ((Qi k a0).bind fun r4075 => (if r4075 = 0 then (if a0.Num <= 0 then (some true) else ((Qu k a0).bind fun r4084 => (if r4084.2 = 0 then ((Qs k a0 r4084 k 1).bind fun r4347 => (match r4347 with | .inl r4348 => (some false) | .inr r4349 => (some true))) else (some false)))) else (some true))))) else none) else none))) else (some true))) else (some true))))) else (some false))
theorem Qct (k : Nat) (a0 : Qc) (a1 : (List Qe)) (a2 : (List Qe)) (r : Bool) (h : Yf k a0 a1 a2 = some r) : VC Try.prog 3 [VV.ag (Qa a0), VV.tr (flatMap Qd a1) a1.length, VV.tr (flatMap Qd a2) a2.length] (vb r) := by
 unfold Yf at h
 obtain ⟨r2616, h2617, h⟩ := bs h
 rcases ifs h with ⟨h2618, h⟩ | ⟨h2618, h⟩
 ·rcases ifs h with ⟨h2619, h⟩ | ⟨h2619, h⟩
  ·have e2620 := (ti (ti (ti (ti (an (dt h2619) (an (dt h2619) (an (dt h2619) (an (dt h2619) (ti (an rt (an rt (an rt (an rt (ti (an rt (an rt (an rt (an rt tt))))))))))))))))))
   injection h with h; subst h
   exact Qv pm pn Try.func3 (r0 := vb true) (ans := [.reg (.n :: .n :: []), .reg (.call (vb r2616) :: .n :: []), .br false, .reg (nN 4 (nS 3 (.b true :: .n :: nS 3 (.b true :: .n :: nS 3 (.b true :: []))))), .br true, .reg (.n :: [])]) (fr := true) (by kernel_rfl) (an (an (ti (ti tt)) (an (an (an (Zf k _ h2617) (ti tt)) (an (Qk h2618) tt)) (an e2620 (an rt (an (ti tt) tt))))) (ti tt)) (Wv.refl _)
  ·rcases ifs h with ⟨h2621, h⟩ | ⟨h2621, h⟩
   ·have e2622 := (ti (ti (ti (ti (an (an (df h2619) tt) (an (an (df h2619) tt) (an (an (df h2619) tt) (an (df h2619) (ti (an (dt h2621) (an (dt h2621) (an (dt h2621) (an (dt h2621) (ti (an rt (an rt (an rt (an rt tt))))))))))))))))))
    injection h with h; subst h
    exact Qv pm pn Try.func3 (r0 := vb true) (ans := [.reg (.n :: .n :: []), .reg (.call (vb r2616) :: .n :: []), .br false, .reg (nN 7 (.b false :: .n :: nS 3 (.b true :: .n :: nS 3 (.b true :: [])))), .br true, .reg (.n :: [])]) (fr := true) (by kernel_rfl) (an (an (ti (ti tt)) (an (an (an (Zf k _ h2617) (ti tt)) (an (Qk h2618) tt)) (an e2622 (an rt (an (ti tt) tt))))) (ti tt)) (Wv.refl _)
   ·obtain ⟨r2623, h2624, h⟩ := bs h
    have e2625 := (an (df h2621) (Qan k a1 _ h2624))
    rcases ifs h with ⟨h2626, h⟩ | ⟨h2626, h⟩
    ·have e2627 := (an (Qk (dt h2626)) tt)
     obtain ⟨r2628, h2629, h⟩ := bs h
     have e2630 := (an (Qk (dt h2626)) (Qan k a2 _ h2629))
     have e2631 := (an (Qk (dt h2626)) tt)
     have e2632 := (ti (ti (ti (ti (an (an (df h2619) tt) (an (an (df h2619) tt) (an (an (df h2619) tt) (an (df h2619) (ti (an (an (df h2621) tt) (an e2625 (an (an (df h2621) tt) (an (df h2621) (ti (an e2627 (an e2630 (an e2631 (an (Qk (dt h2626)) tt))))))))))))))))))
     rcases ifs h with ⟨h2633, h⟩ | ⟨h2633, h⟩
     ·obtain ⟨r2634, h2635, h⟩ := bs h
      have e2636 := (ti (an (Qb8 k a1 _ h2635) (ti (ti (ti (ti (ti (ti tt))))))))
      obtain ⟨r2637, h2638, h⟩ := bs h
      have e2639 := (ti (an (Qb8 k a2 _ h2638) (ti (ti (ti (ti (ti (ti tt))))))))
      obtain ⟨h2640, h⟩ := ifn h
      have e2641 := (show List.length [] = 0 * 2 /\ List.length (flatMap Qd a1) = a1.length * 2 /\ (0 + a1.length) * 16 <= 140737488355328 /\ 0 + a1.length < 1099511627776 /\ List.all (flatMap Qd a1) VV.still = true from ⟨(by rw [show [] = flatMap Qd ([] : List Qe) from rfl]; rw [Ye Xb] <;> simp), (by rw [Ye Xb] <;> simp), (by first | omega | (simp at h2640 ⊢; omega)), (by first | omega | (simp at h2640 ⊢; omega)), (by exact Qat _)⟩)
      obtain ⟨h2642, h⟩ := ifn h
      have e2643 := (show List.length ([] ++ (flatMap Qd a1)) = (0 + a1.length) * 2 /\ List.length (flatMap Qd a2) = a2.length * 2 /\ (0 + a1.length + a2.length) * 16 <= 140737488355328 /\ 0 + a1.length + a2.length < 1099511627776 /\ List.all (flatMap Qd a2) VV.still = true from ⟨(by rw [show [] ++ (flatMap Qd a1) = flatMap Qd (([] : List Qe) ++ a1) from (by rw [show [] = flatMap Qd ([] : List Qe) from rfl]; exact List.flatMap_append.symm)]; rw [Ye Xb] <;> simp), (by rw [Ye Xb] <;> simp), (by first | omega | (simp at h2642 ⊢; omega)), (by first | omega | (simp at h2642 ⊢; omega)), (by exact Qat _)⟩)
      obtain ⟨r2644, h2645, h⟩ := bs h
      have e2646 := (show VC Try.prog 6 [VV.tr (List.drop 0 (List.map unfr (([] ++ (flatMap Qd a1)) ++ (flatMap Qd a2)))) (0 + a1.length + a2.length)] (VV.tu [VV.ag (Qa r2644.1), vi r2644.2]) from (VC.args (Qb8 k ((([] : List Qe) ++ a1) ++ a2) _ h2645) (by simp only [show ([] ++ (flatMap Qd a1)) ++ (flatMap Qd a2) = flatMap Qd ((([] : List Qe) ++ a1) ++ a2) from (by rw [show [] ++ (flatMap Qd a1) = flatMap Qd (([] : List Qe) ++ a1) from (by rw [show [] = flatMap Qd ([] : List Qe) from rfl]; exact List.flatMap_append.symm)]; exact List.flatMap_append.symm), Qhr, Zl, Qgz, Qg0, map_cons, map_nil, un_i, un_k, un_b, un_s, Qhp, Qqf, length_map, length_replicate, length_append, List.length_set, length_cons, length_nil, Nat.zero_add, Qj, Ja]; done)))
      have e2647 := (ti (ti (an e2641 (ti (an e2643 (an e2646 (ti (ti (ti (ti (ti (ti tt))))))))))))
      rcases ifs h with ⟨h2648, h⟩ | ⟨h2648, h⟩
      ·rcases ifs h with ⟨h2649, h⟩ | ⟨h2649, h⟩
       ·have e2650 := (ti (ti (ti (an (an (dt h2648) tt) (an (an (dt h2648) tt) (an (dt h2648) (ti (an (an (dt h2649) tt) (an (an (dt h2649) tt) (an (dt h2649) tt))))))))))
        rcases ifs h with ⟨h2651, h⟩ | ⟨h2651, h⟩
        ·obtain ⟨r2652, h2653, h⟩ := bs h
         have e2654 := (Qfa k r2634.1 r2637.1 _ h2653)
         have e2655 := (ti (ti (an e2654 (ti (ti (ti (ti (ti (ti tt)))))))))
         rcases ifs h with ⟨h2656, h⟩ | ⟨h2656, h⟩
         ·have e2657 := (an (Qk (dt h2656)) tt)
          have e2658 := (an (Qk (dt h2656)) tt)
          have e2659 := (an (Qk (dt h2656)) (show List.map kdV [Value.int .i64 r2652.1.Num, Value.int .i64 r2652.1.Den] = List.map kdV [Value.int .i64 r2644.1.Num, Value.int .i64 r2644.1.Den] /\ EqOK Try.prog 23 (List.map kdV [Value.int .i64 r2644.1.Num, Value.int .i64 r2644.1.Den]) from ⟨rfl, Qxh⟩))
          have e2660 := (ti (ti (ti (an e2657 (an e2658 (an e2659 (an (Qk (dt h2656)) tt)))))))
          rcases ifs h with ⟨h2661, h⟩ | ⟨h2661, h⟩
          ·obtain ⟨r2662, h2663, h⟩ := bs h
           have e2664 := (ti (an (Qc7 k a1 _ h2663) (ti (ti (ti (ti (ti tt)))))))
           have e2665 := (show List.length [] = 0 * 2 /\ List.length (flatMap Qd a1) = a1.length * 2 /\ (0 + a1.length) * 16 <= 140737488355328 /\ 0 + a1.length < 1099511627776 /\ List.all (flatMap Qd a1) VV.still = true from ⟨(by rw [show [] = flatMap Qd ([] : List Qe) from rfl]; rw [Ye Xb] <;> simp), (by rw [Ye Xb] <;> simp), (by first | omega | (simp at h2640 ⊢; omega)), (by first | omega | (simp at h2640 ⊢; omega)), (by exact Qat _)⟩)
           have e2666 := (show List.length ([] ++ (flatMap Qd a1)) = (0 + a1.length) * 2 /\ List.length (flatMap Qd a2) = a2.length * 2 /\ (0 + a1.length + a2.length) * 16 <= 140737488355328 /\ 0 + a1.length + a2.length < 1099511627776 /\ List.all (flatMap Qd a2) VV.still = true from ⟨(by rw [show [] ++ (flatMap Qd a1) = flatMap Qd (([] : List Qe) ++ a1) from (by rw [show [] = flatMap Qd ([] : List Qe) from rfl]; exact List.flatMap_append.symm)]; rw [Ye Xb] <;> simp), (by rw [Ye Xb] <;> simp), (by first | omega | (simp at h2642 ⊢; omega)), (by first | omega | (simp at h2642 ⊢; omega)), (by exact Qat _)⟩)
           obtain ⟨r2667, h2668, h⟩ := bs h
           have e2669 := (show VC Try.prog 8 [VV.tr (List.drop 0 (List.map unfr (([] ++ (flatMap Qd a1)) ++ (flatMap Qd a2)))) (0 + a1.length + a2.length)] (VV.tu [vi r2667.1, vi r2667.2]) from (VC.args (Qc7 k ((([] : List Qe) ++ a1) ++ a2) _ h2668) (by simp only [show ([] ++ (flatMap Qd a1)) ++ (flatMap Qd a2) = flatMap Qd ((([] : List Qe) ++ a1) ++ a2) from (by rw [show [] ++ (flatMap Qd a1) = flatMap Qd (([] : List Qe) ++ a1) from (by rw [show [] = flatMap Qd ([] : List Qe) from rfl]; exact List.flatMap_append.symm)]; exact List.flatMap_append.symm), Qhr, Zl, Qgz, Qg0, map_cons, map_nil, un_i, un_k, un_b, un_s, Qhp, Qqf, length_map, length_replicate, length_append, List.length_set, length_cons, length_nil, Nat.zero_add, Qj, Ja]; done)))
           have e2670 := (ti (ti (an e2665 (ti (an e2666 (an e2669 (ti (ti (ti (ti (ti tt)))))))))))
           rcases ifs h with ⟨h2671, h⟩ | ⟨h2671, h⟩
           ·rcases ifs h with ⟨h2672, h⟩ | ⟨h2672, h⟩
            ·rcases ifs h with ⟨h2673, h⟩ | ⟨h2673, h⟩
             ·have e2674 := (an (dt h2672) (dt h2673))
              have e2675 := (ti (ti (ti (an (an (dt h2671) tt) (an (an (dt h2671) tt) (an (dt h2671) (ti (an (an (dt h2672) tt) (an (an (dt h2672) tt) (an (an (dt h2672) tt) (an (dt h2673) (an (dt h2673) (an (dt h2673) (an (dt h2673) (an e2674 (an (dt h2672) tt))))))))))))))))
              injection h with h; subst h
              exact Qv pm pn Try.func3 (r0 := vb false) (ans := [.reg (.n :: .n :: []), .reg (.call (vb r2616) :: .n :: []), .br false, .reg (Yl r2623 r2628), .br false, .reg (.n :: .call (VV.tu [VV.ag (Qa r2634.1), vi r2634.2]) :: nN 6 []), .reg (.n :: .call (VV.tu [VV.ag (Qa r2637.1), vi r2637.2]) :: nN 6 []), .reg (nN 5 (.call (VV.tu [VV.ag (Qa r2644.1), vi r2644.2]) :: nN 6 [])), .reg (nN 5 (.b true :: nN 3 (.b true :: []))), .br true, .reg (.n :: .n :: .call (VV.tu [VV.ag (Qa r2652.1), vi r2652.2]) :: nN 6 []), .reg (nN 6 (.b false :: [])), .br false, .reg (.n :: .call (VV.tu [vi r2662.1, vi r2662.2]) :: nN 5 []), .reg (nN 5 (.call (VV.tu [vi r2667.1, vi r2667.2]) :: nN 5 [])), .reg (nN 5 (.b true :: nN 4 (nS 4 (.b true :: .b true :: [])))), .br true, .reg (.n :: [])]) (fr := true) (by kernel_rfl) (an (an (ti (ti tt)) (an (an (an (Zf k _ h2617) (ti tt)) (an (Qk h2618) tt)) (an (an e2632 (an (Qk (dt h2633)) tt)) (an e2636 (an e2639 (an e2647 (an e2650 (an (dt h2651) (an e2655 (an (an e2660 (an (Qk h2661) tt)) (an e2664 (an e2670 (an e2675 (an rt (an (ti tt) tt))))))))))))))) (ti tt)) (Wv.refl _)
             ·obtain ⟨h2676, h⟩ := ifn h
              have e2677 := (an (dt h2672) (df h2673))
              have e2678 := (ti (ti (ti (an (an (dt h2671) tt) (an (an (dt h2671) tt) (an (dt h2671) (ti (an (an (dt h2672) tt) (an (an (dt h2672) tt) (an (an (dt h2672) tt) (an (an (df h2673) tt) (an (an (df h2673) tt) (an (an (df h2673) h2676) (an (an (df h2673) tt) (an e2677 (an (dt h2672) tt))))))))))))))))
              rcases ifs h with ⟨h2679, h⟩ | ⟨h2679, h⟩
              ·obtain ⟨r2680, h2681, h⟩ := bs h
               have e2682 := (Qm k a0 _ h2681)
               rcases ifs h with ⟨h2683, h⟩ | ⟨h2683, h⟩
               ·have e2684 := (an (Qk (dt h2683)) tt)
                have e2685 := (an (Qk (dt h2683)) tt)
                have e2686 := (an (Qk (dt h2683)) tt)
                have e2687 := (ti (an e2682 (ti (ti (an e2684 (an e2685 (an e2686 (an (Qk (dt h2683)) tt))))))))
                rcases ifs h with ⟨h2688, h⟩ | ⟨h2688, h⟩
                ·injection h with h; subst h
                 exact Qv pm pn Try.func3 (r0 := vb true) (ans := [.reg (.n :: .n :: []), .reg (.call (vb r2616) :: .n :: []), .br false, .reg (Yl r2623 r2628), .br false, .reg (.n :: .call (VV.tu [VV.ag (Qa r2634.1), vi r2634.2]) :: nN 6 []), .reg (.n :: .call (VV.tu [VV.ag (Qa r2637.1), vi r2637.2]) :: nN 6 []), .reg (nN 5 (.call (VV.tu [VV.ag (Qa r2644.1), vi r2644.2]) :: nN 6 [])), .reg (nN 5 (.b true :: nN 3 (.b true :: []))), .br true, .reg (.n :: .n :: .call (VV.tu [VV.ag (Qa r2652.1), vi r2652.2]) :: nN 6 []), .reg (nN 6 (.b false :: [])), .br false, .reg (.n :: .call (VV.tu [vi r2662.1, vi r2662.2]) :: nN 5 []), .reg (nN 5 (.call (VV.tu [vi r2667.1, vi r2667.2]) :: nN 5 [])), .reg (nN 5 (.b true :: nN 8 (.b false :: .b true :: []))), .br false, .reg (.n :: .call (vi r2680) :: nN 5 (.b false :: [])), .br true, .reg (.n :: [])]) (fr := true) (by kernel_rfl) (an (an (ti (ti tt)) (an (an (an (Zf k _ h2617) (ti tt)) (an (Qk h2618) tt)) (an (an e2632 (an (Qk (dt h2633)) tt)) (an e2636 (an e2639 (an e2647 (an (an e2650 (an (dt h2651) (an e2655 (an (an e2660 (an (Qk h2661) tt)) (an e2664 (an e2670 (an e2678 (an (Qk (dt h2679)) tt)))))))) (an e2687 (an (dt h2688) (an (ti tt) tt)))))))))) (ti tt)) (Wv.refl _)
                ·obtain ⟨r2689, h2690, h⟩ := bs h
                 have e2691 := (show VC Try.prog 10 [VV.ag (Qa a0)] (VV.tu [VV.fr (flatMap Qa r2689.1) r2689.1.length, vi r2689.2]) from (VC.weak (X6 k a0 _ h2690) (Wv.tuL (.cons (Wv.fw rfl rfl) (.cons (Wv.refl _) .nil)))))
                 rcases ifs h with ⟨h2692, h⟩ | ⟨h2692, h⟩
                 ·obtain ⟨r2952, h2951, h⟩ := bs h
                  have hph2951 := Qbf k a0 r2689 _ _ _ h2951
                  cases r2952 with
                  | inl r2953 =>
                   dsimp only at h
                   have e2955 := (an (ti tt) (VRun.loop hph2951))
                   injection h with h; subst h
                   exact Qv pm pn Try.func3 (r0 := vb false) (ans := [.reg (.n :: .n :: []), .reg (.call (vb r2616) :: .n :: []), .br false, .reg (Yl r2623 r2628), .br false, .reg (.n :: .call (VV.tu [VV.ag (Qa r2634.1), vi r2634.2]) :: nN 6 []), .reg (.n :: .call (VV.tu [VV.ag (Qa r2637.1), vi r2637.2]) :: nN 6 []), .reg (nN 5 (.call (VV.tu [VV.ag (Qa r2644.1), vi r2644.2]) :: nN 6 [])), .reg (nN 5 (.b true :: nN 3 (.b true :: []))), .br true, .reg (.n :: .n :: .call (VV.tu [VV.ag (Qa r2652.1), vi r2652.2]) :: nN 6 []), .reg (nN 6 (.b false :: [])), .br false, .reg (.n :: .call (VV.tu [vi r2662.1, vi r2662.2]) :: nN 5 []), .reg (nN 5 (.call (VV.tu [vi r2667.1, vi r2667.2]) :: nN 5 [])), .reg (nN 5 (.b true :: nN 8 (.b false :: .b true :: []))), .br false, .reg (.n :: .call (vi r2680) :: nN 5 (.b false :: [])), .br false, .reg (Qb0 r2689), .reg (.n :: .n :: []), .br false, .reg (.n :: []), .sub ⟨[(3, none), (19, none), (21, none)], [none], []⟩ .ret (Zq a0 r2689 r2953)]) (fr := true) (by kernel_rfl) (an (an (ti (ti tt)) (an (an (an (Zf k _ h2617) (ti tt)) (an (Qk h2618) tt)) (an (an e2632 (an (Qk (dt h2633)) tt)) (an e2636 (an e2639 (an e2647 (an (an e2650 (an (dt h2651) (an e2655 (an (an e2660 (an (Qk h2661) tt)) (an e2664 (an e2670 (an e2678 (an (Qk (dt h2679)) tt)))))))) (an (an e2687 (an (df h2688) tt)) (an (ti (an e2691 (ti (ti (ti (ti (ti tt))))))) (an (an (ti (ti tt)) (an (Qk (dt h2692)) tt)) (an (ti tt) e2955))))))))))) (ti tt)) (Wv.refl _)
                  | inr r2954 =>
                   dsimp only at h
                   have e2956 := (an (ti tt) (VRun.loop hph2951))
                   injection h with h; subst h
                   exact Qv pm pn Try.func3 (r0 := vb true) (ans := [.reg (.n :: .n :: []), .reg (.call (vb r2616) :: .n :: []), .br false, .reg (Yl r2623 r2628), .br false, .reg (.n :: .call (VV.tu [VV.ag (Qa r2634.1), vi r2634.2]) :: nN 6 []), .reg (.n :: .call (VV.tu [VV.ag (Qa r2637.1), vi r2637.2]) :: nN 6 []), .reg (nN 5 (.call (VV.tu [VV.ag (Qa r2644.1), vi r2644.2]) :: nN 6 [])), .reg (nN 5 (.b true :: nN 3 (.b true :: []))), .br true, .reg (.n :: .n :: .call (VV.tu [VV.ag (Qa r2652.1), vi r2652.2]) :: nN 6 []), .reg (nN 6 (.b false :: [])), .br false, .reg (.n :: .call (VV.tu [vi r2662.1, vi r2662.2]) :: nN 5 []), .reg (nN 5 (.call (VV.tu [vi r2667.1, vi r2667.2]) :: nN 5 [])), .reg (nN 5 (.b true :: nN 8 (.b false :: .b true :: []))), .br false, .reg (.n :: .call (vi r2680) :: nN 5 (.b false :: [])), .br false, .reg (Qb0 r2689), .reg (.n :: .n :: []), .br false, .reg (.n :: []), .sub ⟨[(3, none), (19, none), (21, none)], [none], []⟩ (.exit 0) (Zr a0 r2689 r2954), .reg (.n :: [])]) (fr := true) (by kernel_rfl) (an (an (ti (ti tt)) (an (an (an (Zf k _ h2617) (ti tt)) (an (Qk h2618) tt)) (an (an e2632 (an (Qk (dt h2633)) tt)) (an e2636 (an e2639 (an e2647 (an (an e2650 (an (dt h2651) (an e2655 (an (an e2660 (an (Qk h2661) tt)) (an e2664 (an e2670 (an e2678 (an (Qk (dt h2679)) tt)))))))) (an (an e2687 (an (df h2688) tt)) (an (ti (an e2691 (ti (ti (ti (ti (ti tt))))))) (an (an (ti (ti tt)) (an (Qk (dt h2692)) tt)) (an (an (ti tt) e2956) (an (ti tt) tt)))))))))))) (ti tt)) (Wv.refl _)
                 ·injection h with h; subst h
                  exact Qv pm pn Try.func3 (r0 := vb false) (ans := [.reg (.n :: .n :: []), .reg (.call (vb r2616) :: .n :: []), .br false, .reg (Yl r2623 r2628), .br false, .reg (.n :: .call (VV.tu [VV.ag (Qa r2634.1), vi r2634.2]) :: nN 6 []), .reg (.n :: .call (VV.tu [VV.ag (Qa r2637.1), vi r2637.2]) :: nN 6 []), .reg (nN 5 (.call (VV.tu [VV.ag (Qa r2644.1), vi r2644.2]) :: nN 6 [])), .reg (nN 5 (.b true :: nN 3 (.b true :: []))), .br true, .reg (.n :: .n :: .call (VV.tu [VV.ag (Qa r2652.1), vi r2652.2]) :: nN 6 []), .reg (nN 6 (.b false :: [])), .br false, .reg (.n :: .call (VV.tu [vi r2662.1, vi r2662.2]) :: nN 5 []), .reg (nN 5 (.call (VV.tu [vi r2667.1, vi r2667.2]) :: nN 5 [])), .reg (nN 5 (.b true :: nN 8 (.b false :: .b true :: []))), .br false, .reg (.n :: .call (vi r2680) :: nN 5 (.b false :: [])), .br false, .reg (Qb0 r2689), .reg (.n :: .n :: []), .br true, .reg (.n :: [])]) (fr := true) (by kernel_rfl) (an (an (ti (ti tt)) (an (an (an (Zf k _ h2617) (ti tt)) (an (Qk h2618) tt)) (an (an e2632 (an (Qk (dt h2633)) tt)) (an e2636 (an e2639 (an e2647 (an (an e2650 (an (dt h2651) (an e2655 (an (an e2660 (an (Qk h2661) tt)) (an e2664 (an e2670 (an e2678 (an (Qk (dt h2679)) tt)))))))) (an (an e2687 (an (df h2688) tt)) (an (ti (an e2691 (ti (ti (ti (ti (ti tt))))))) (an (ti (ti tt)) (an (Zo (df h2692)) (an (ti tt) tt)))))))))))) (ti tt)) (Wv.refl _)
               ·have e2957 := (ti (an e2682 (ti (ti (an (Zo (df h2683)) (an (Zo (df h2683)) (an (Zo (df h2683)) (an (Zo (df h2683)) tt))))))))
                injection h with h; subst h
                exact Qv pm pn Try.func3 (r0 := vb true) (ans := [.reg (.n :: .n :: []), .reg (.call (vb r2616) :: .n :: []), .br false, .reg (Yl r2623 r2628), .br false, .reg (.n :: .call (VV.tu [VV.ag (Qa r2634.1), vi r2634.2]) :: nN 6 []), .reg (.n :: .call (VV.tu [VV.ag (Qa r2637.1), vi r2637.2]) :: nN 6 []), .reg (nN 5 (.call (VV.tu [VV.ag (Qa r2644.1), vi r2644.2]) :: nN 6 [])), .reg (nN 5 (.b true :: nN 3 (.b true :: []))), .br true, .reg (.n :: .n :: .call (VV.tu [VV.ag (Qa r2652.1), vi r2652.2]) :: nN 6 []), .reg (nN 6 (.b false :: [])), .br false, .reg (.n :: .call (VV.tu [vi r2662.1, vi r2662.2]) :: nN 5 []), .reg (nN 5 (.call (VV.tu [vi r2667.1, vi r2667.2]) :: nN 5 [])), .reg (nN 5 (.b true :: nN 8 (.b false :: .b true :: []))), .br false, .reg (.n :: .call (vi r2680) :: .n :: .n :: nS 3 (.b true :: [])), .br true, .reg (.n :: [])]) (fr := true) (by kernel_rfl) (an (an (ti (ti tt)) (an (an (an (Zf k _ h2617) (ti tt)) (an (Qk h2618) tt)) (an (an e2632 (an (Qk (dt h2633)) tt)) (an e2636 (an e2639 (an e2647 (an (an e2650 (an (dt h2651) (an e2655 (an (an e2660 (an (Qk h2661) tt)) (an e2664 (an e2670 (an e2678 (an (Qk (dt h2679)) tt)))))))) (an e2957 (an rt (an (ti tt) tt)))))))))) (ti tt)) (Wv.refl _)
              ·injection h with h; subst h
               exact Qv pm pn Try.func3 (r0 := vb false) (ans := [.reg (.n :: .n :: []), .reg (.call (vb r2616) :: .n :: []), .br false, .reg (Yl r2623 r2628), .br false, .reg (.n :: .call (VV.tu [VV.ag (Qa r2634.1), vi r2634.2]) :: nN 6 []), .reg (.n :: .call (VV.tu [VV.ag (Qa r2637.1), vi r2637.2]) :: nN 6 []), .reg (nN 5 (.call (VV.tu [VV.ag (Qa r2644.1), vi r2644.2]) :: nN 6 [])), .reg (nN 5 (.b true :: nN 3 (.b true :: []))), .br true, .reg (.n :: .n :: .call (VV.tu [VV.ag (Qa r2652.1), vi r2652.2]) :: nN 6 []), .reg (nN 6 (.b false :: [])), .br false, .reg (.n :: .call (VV.tu [vi r2662.1, vi r2662.2]) :: nN 5 []), .reg (nN 5 (.call (VV.tu [vi r2667.1, vi r2667.2]) :: nN 5 [])), .reg (nN 5 (.b true :: nN 8 (.b false :: .b true :: []))), .br true, .reg (.n :: [])]) (fr := true) (by kernel_rfl) (an (an (ti (ti tt)) (an (an (an (Zf k _ h2617) (ti tt)) (an (Qk h2618) tt)) (an (an e2632 (an (Qk (dt h2633)) tt)) (an e2636 (an e2639 (an e2647 (an e2650 (an (dt h2651) (an e2655 (an (an e2660 (an (Qk h2661) tt)) (an e2664 (an e2670 (an e2678 (an (Zo (df h2679)) (an (ti tt) tt))))))))))))))) (ti tt)) (Wv.refl _)
            ·have e2958 := (ti (ti (ti (an (an (dt h2671) tt) (an (an (dt h2671) tt) (an (dt h2671) (ti (an (df h2672) (an (df h2672) (an (df h2672) (ti (ti (ti (ti (an (df h2672) (an (df h2672) tt))))))))))))))))
             obtain ⟨r2959, h2960, h⟩ := bs h
             have e2961 := (Qm k a0 _ h2960)
             rcases ifs h with ⟨h2962, h⟩ | ⟨h2962, h⟩
             ·have e2963 := (an (Qk (dt h2962)) tt)
              have e2964 := (an (Qk (dt h2962)) tt)
              have e2965 := (an (Qk (dt h2962)) tt)
              have e2966 := (ti (an e2961 (ti (ti (an e2963 (an e2964 (an e2965 (an (Qk (dt h2962)) tt))))))))
              rcases ifs h with ⟨h2967, h⟩ | ⟨h2967, h⟩
              ·injection h with h; subst h
               exact Qv pm pn Try.func3 (r0 := vb true) (ans := [.reg (.n :: .n :: []), .reg (.call (vb r2616) :: .n :: []), .br false, .reg (Yl r2623 r2628), .br false, .reg (.n :: .call (VV.tu [VV.ag (Qa r2634.1), vi r2634.2]) :: nN 6 []), .reg (.n :: .call (VV.tu [VV.ag (Qa r2637.1), vi r2637.2]) :: nN 6 []), .reg (nN 5 (.call (VV.tu [VV.ag (Qa r2644.1), vi r2644.2]) :: nN 6 [])), .reg (nN 5 (.b true :: nN 3 (.b true :: []))), .br true, .reg (.n :: .n :: .call (VV.tu [VV.ag (Qa r2652.1), vi r2652.2]) :: nN 6 []), .reg (nN 6 (.b false :: [])), .br false, .reg (.n :: .call (VV.tu [vi r2662.1, vi r2662.2]) :: nN 5 []), .reg (nN 5 (.call (VV.tu [vi r2667.1, vi r2667.2]) :: nN 5 [])), .reg (nN 5 (.b true :: .n :: nS 8 (.b false :: []))), .br false, .reg (.n :: .call (vi r2959) :: nN 5 (.b false :: [])), .br true, .reg (.n :: [])]) (fr := true) (by kernel_rfl) (an (an (ti (ti tt)) (an (an (an (Zf k _ h2617) (ti tt)) (an (Qk h2618) tt)) (an (an e2632 (an (Qk (dt h2633)) tt)) (an e2636 (an e2639 (an e2647 (an (an e2650 (an (dt h2651) (an e2655 (an (an e2660 (an (Qk h2661) tt)) (an e2664 (an e2670 (an e2958 (an rf tt)))))))) (an e2966 (an (dt h2967) (an (ti tt) tt)))))))))) (ti tt)) (Wv.refl _)
              ·obtain ⟨r2968, h2969, h⟩ := bs h
               have e2970 := (show VC Try.prog 10 [VV.ag (Qa a0)] (VV.tu [VV.fr (flatMap Qa r2968.1) r2968.1.length, vi r2968.2]) from (VC.weak (X6 k a0 _ h2969) (Wv.tuL (.cons (Wv.fw rfl rfl) (.cons (Wv.refl _) .nil)))))
               rcases ifs h with ⟨h2971, h⟩ | ⟨h2971, h⟩
               ·obtain ⟨r3231, h3230, h⟩ := bs h
                have hph3230 := Qbi k a0 r2968 _ _ _ h3230
                cases r3231 with
                | inl r3232 =>
                 dsimp only at h
                 have e3234 := (an (ti tt) (VRun.loop hph3230))
                 injection h with h; subst h
                 exact Qv pm pn Try.func3 (r0 := vb false) (ans := [.reg (.n :: .n :: []), .reg (.call (vb r2616) :: .n :: []), .br false, .reg (Yl r2623 r2628), .br false, .reg (.n :: .call (VV.tu [VV.ag (Qa r2634.1), vi r2634.2]) :: nN 6 []), .reg (.n :: .call (VV.tu [VV.ag (Qa r2637.1), vi r2637.2]) :: nN 6 []), .reg (nN 5 (.call (VV.tu [VV.ag (Qa r2644.1), vi r2644.2]) :: nN 6 [])), .reg (nN 5 (.b true :: nN 3 (.b true :: []))), .br true, .reg (.n :: .n :: .call (VV.tu [VV.ag (Qa r2652.1), vi r2652.2]) :: nN 6 []), .reg (nN 6 (.b false :: [])), .br false, .reg (.n :: .call (VV.tu [vi r2662.1, vi r2662.2]) :: nN 5 []), .reg (nN 5 (.call (VV.tu [vi r2667.1, vi r2667.2]) :: nN 5 [])), .reg (nN 5 (.b true :: .n :: nS 8 (.b false :: []))), .br false, .reg (.n :: .call (vi r2959) :: nN 5 (.b false :: [])), .br false, .reg (Qb0 r2968), .reg (.n :: .n :: []), .br false, .reg (.n :: []), .sub ⟨[(3, none), (19, none), (21, none)], [none], []⟩ .ret (Zt a0 r2968 r3232)]) (fr := true) (by kernel_rfl) (an (an (ti (ti tt)) (an (an (an (Zf k _ h2617) (ti tt)) (an (Qk h2618) tt)) (an (an e2632 (an (Qk (dt h2633)) tt)) (an e2636 (an e2639 (an e2647 (an (an e2650 (an (dt h2651) (an e2655 (an (an e2660 (an (Qk h2661) tt)) (an e2664 (an e2670 (an e2958 (an rf tt)))))))) (an (an e2966 (an (df h2967) tt)) (an (ti (an e2970 (ti (ti (ti (ti (ti tt))))))) (an (an (ti (ti tt)) (an (Qk (dt h2971)) tt)) (an (ti tt) e3234))))))))))) (ti tt)) (Wv.refl _)
                | inr r3233 =>
                 dsimp only at h
                 have e3235 := (an (ti tt) (VRun.loop hph3230))
                 injection h with h; subst h
                 exact Qv pm pn Try.func3 (r0 := vb true) (ans := [.reg (.n :: .n :: []), .reg (.call (vb r2616) :: .n :: []), .br false, .reg (Yl r2623 r2628), .br false, .reg (.n :: .call (VV.tu [VV.ag (Qa r2634.1), vi r2634.2]) :: nN 6 []), .reg (.n :: .call (VV.tu [VV.ag (Qa r2637.1), vi r2637.2]) :: nN 6 []), .reg (nN 5 (.call (VV.tu [VV.ag (Qa r2644.1), vi r2644.2]) :: nN 6 [])), .reg (nN 5 (.b true :: nN 3 (.b true :: []))), .br true, .reg (.n :: .n :: .call (VV.tu [VV.ag (Qa r2652.1), vi r2652.2]) :: nN 6 []), .reg (nN 6 (.b false :: [])), .br false, .reg (.n :: .call (VV.tu [vi r2662.1, vi r2662.2]) :: nN 5 []), .reg (nN 5 (.call (VV.tu [vi r2667.1, vi r2667.2]) :: nN 5 [])), .reg (nN 5 (.b true :: .n :: nS 8 (.b false :: []))), .br false, .reg (.n :: .call (vi r2959) :: nN 5 (.b false :: [])), .br false, .reg (Qb0 r2968), .reg (.n :: .n :: []), .br false, .reg (.n :: []), .sub ⟨[(3, none), (19, none), (21, none)], [none], []⟩ (.exit 0) (Zu a0 r2968 r3233), .reg (.n :: [])]) (fr := true) (by kernel_rfl) (an (an (ti (ti tt)) (an (an (an (Zf k _ h2617) (ti tt)) (an (Qk h2618) tt)) (an (an e2632 (an (Qk (dt h2633)) tt)) (an e2636 (an e2639 (an e2647 (an (an e2650 (an (dt h2651) (an e2655 (an (an e2660 (an (Qk h2661) tt)) (an e2664 (an e2670 (an e2958 (an rf tt)))))))) (an (an e2966 (an (df h2967) tt)) (an (ti (an e2970 (ti (ti (ti (ti (ti tt))))))) (an (an (ti (ti tt)) (an (Qk (dt h2971)) tt)) (an (an (ti tt) e3235) (an (ti tt) tt)))))))))))) (ti tt)) (Wv.refl _)
               ·injection h with h; subst h
                exact Qv pm pn Try.func3 (r0 := vb false) (ans := [.reg (.n :: .n :: []), .reg (.call (vb r2616) :: .n :: []), .br false, .reg (Yl r2623 r2628), .br false, .reg (.n :: .call (VV.tu [VV.ag (Qa r2634.1), vi r2634.2]) :: nN 6 []), .reg (.n :: .call (VV.tu [VV.ag (Qa r2637.1), vi r2637.2]) :: nN 6 []), .reg (nN 5 (.call (VV.tu [VV.ag (Qa r2644.1), vi r2644.2]) :: nN 6 [])), .reg (nN 5 (.b true :: nN 3 (.b true :: []))), .br true, .reg (.n :: .n :: .call (VV.tu [VV.ag (Qa r2652.1), vi r2652.2]) :: nN 6 []), .reg (nN 6 (.b false :: [])), .br false, .reg (.n :: .call (VV.tu [vi r2662.1, vi r2662.2]) :: nN 5 []), .reg (nN 5 (.call (VV.tu [vi r2667.1, vi r2667.2]) :: nN 5 [])), .reg (nN 5 (.b true :: .n :: nS 8 (.b false :: []))), .br false, .reg (.n :: .call (vi r2959) :: nN 5 (.b false :: [])), .br false, .reg (Qb0 r2968), .reg (.n :: .n :: []), .br true, .reg (.n :: [])]) (fr := true) (by kernel_rfl) (an (an (ti (ti tt)) (an (an (an (Zf k _ h2617) (ti tt)) (an (Qk h2618) tt)) (an (an e2632 (an (Qk (dt h2633)) tt)) (an e2636 (an e2639 (an e2647 (an (an e2650 (an (dt h2651) (an e2655 (an (an e2660 (an (Qk h2661) tt)) (an e2664 (an e2670 (an e2958 (an rf tt)))))))) (an (an e2966 (an (df h2967) tt)) (an (ti (an e2970 (ti (ti (ti (ti (ti tt))))))) (an (ti (ti tt)) (an (Zo (df h2971)) (an (ti tt) tt)))))))))))) (ti tt)) (Wv.refl _)
             ·have e3236 := (ti (an e2961 (ti (ti (an (Zo (df h2962)) (an (Zo (df h2962)) (an (Zo (df h2962)) (an (Zo (df h2962)) tt))))))))
              injection h with h; subst h
              exact Qv pm pn Try.func3 (r0 := vb true) (ans := [.reg (.n :: .n :: []), .reg (.call (vb r2616) :: .n :: []), .br false, .reg (Yl r2623 r2628), .br false, .reg (.n :: .call (VV.tu [VV.ag (Qa r2634.1), vi r2634.2]) :: nN 6 []), .reg (.n :: .call (VV.tu [VV.ag (Qa r2637.1), vi r2637.2]) :: nN 6 []), .reg (nN 5 (.call (VV.tu [VV.ag (Qa r2644.1), vi r2644.2]) :: nN 6 [])), .reg (nN 5 (.b true :: nN 3 (.b true :: []))), .br true, .reg (.n :: .n :: .call (VV.tu [VV.ag (Qa r2652.1), vi r2652.2]) :: nN 6 []), .reg (nN 6 (.b false :: [])), .br false, .reg (.n :: .call (VV.tu [vi r2662.1, vi r2662.2]) :: nN 5 []), .reg (nN 5 (.call (VV.tu [vi r2667.1, vi r2667.2]) :: nN 5 [])), .reg (nN 5 (.b true :: .n :: nS 8 (.b false :: []))), .br false, .reg (.n :: .call (vi r2959) :: .n :: .n :: nS 3 (.b true :: [])), .br true, .reg (.n :: [])]) (fr := true) (by kernel_rfl) (an (an (ti (ti tt)) (an (an (an (Zf k _ h2617) (ti tt)) (an (Qk h2618) tt)) (an (an e2632 (an (Qk (dt h2633)) tt)) (an e2636 (an e2639 (an e2647 (an (an e2650 (an (dt h2651) (an e2655 (an (an e2660 (an (Qk h2661) tt)) (an e2664 (an e2670 (an e2958 (an rf tt)))))))) (an e3236 (an rt (an (ti tt) tt)))))))))) (ti tt)) (Wv.refl _)
           ·have e3237 := (ti (ti (ti (an (df h2671) (an (df h2671) (an (df h2671) (ti (an rf (an rf (an rf (ti (ti (ti (ti (an rf (an rf tt))))))))))))))))
            obtain ⟨r3238, h3239, h⟩ := bs h
            have e3240 := (Qm k a0 _ h3239)
            rcases ifs h with ⟨h3241, h⟩ | ⟨h3241, h⟩
            ·have e3242 := (an (Qk (dt h3241)) tt)
             have e3243 := (an (Qk (dt h3241)) tt)
             have e3244 := (an (Qk (dt h3241)) tt)
             have e3245 := (ti (an e3240 (ti (ti (an e3242 (an e3243 (an e3244 (an (Qk (dt h3241)) tt))))))))
             rcases ifs h with ⟨h3246, h⟩ | ⟨h3246, h⟩
             ·injection h with h; subst h
              exact Qv pm pn Try.func3 (r0 := vb true) (ans := [.reg (.n :: .n :: []), .reg (.call (vb r2616) :: .n :: []), .br false, .reg (Yl r2623 r2628), .br false, .reg (.n :: .call (VV.tu [VV.ag (Qa r2634.1), vi r2634.2]) :: nN 6 []), .reg (.n :: .call (VV.tu [VV.ag (Qa r2637.1), vi r2637.2]) :: nN 6 []), .reg (nN 5 (.call (VV.tu [VV.ag (Qa r2644.1), vi r2644.2]) :: nN 6 [])), .reg (nN 5 (.b true :: nN 3 (.b true :: []))), .br true, .reg (.n :: .n :: .call (VV.tu [VV.ag (Qa r2652.1), vi r2652.2]) :: nN 6 []), .reg (nN 6 (.b false :: [])), .br false, .reg (.n :: .call (VV.tu [vi r2662.1, vi r2662.2]) :: nN 5 []), .reg (nN 5 (.call (VV.tu [vi r2667.1, vi r2667.2]) :: nN 5 [])), .reg (nN 3 (.skip :: .skip :: .b false :: .n :: nS 8 (.b false :: []))), .br false, .reg (.n :: .call (vi r3238) :: nN 5 (.b false :: [])), .br true, .reg (.n :: [])]) (fr := true) (by kernel_rfl) (an (an (ti (ti tt)) (an (an (an (Zf k _ h2617) (ti tt)) (an (Qk h2618) tt)) (an (an e2632 (an (Qk (dt h2633)) tt)) (an e2636 (an e2639 (an e2647 (an (an e2650 (an (dt h2651) (an e2655 (an (an e2660 (an (Qk h2661) tt)) (an e2664 (an e2670 (an e3237 (an rf tt)))))))) (an e3245 (an (dt h3246) (an (ti tt) tt)))))))))) (ti tt)) (Wv.refl _)
             ·obtain ⟨r3247, h3248, h⟩ := bs h
              have e3249 := (show VC Try.prog 10 [VV.ag (Qa a0)] (VV.tu [VV.fr (flatMap Qa r3247.1) r3247.1.length, vi r3247.2]) from (VC.weak (X6 k a0 _ h3248) (Wv.tuL (.cons (Wv.fw rfl rfl) (.cons (Wv.refl _) .nil)))))
              rcases ifs h with ⟨h3250, h⟩ | ⟨h3250, h⟩
              ·obtain ⟨r3510, h3509, h⟩ := bs h
               have hph3509 := Qbl k a0 r3247 _ _ _ h3509
               cases r3510 with
               | inl r3511 =>
                dsimp only at h
                have e3513 := (an (ti tt) (VRun.loop hph3509))
                injection h with h; subst h
                exact Qv pm pn Try.func3 (r0 := vb false) (ans := [.reg (.n :: .n :: []), .reg (.call (vb r2616) :: .n :: []), .br false, .reg (Yl r2623 r2628), .br false, .reg (.n :: .call (VV.tu [VV.ag (Qa r2634.1), vi r2634.2]) :: nN 6 []), .reg (.n :: .call (VV.tu [VV.ag (Qa r2637.1), vi r2637.2]) :: nN 6 []), .reg (nN 5 (.call (VV.tu [VV.ag (Qa r2644.1), vi r2644.2]) :: nN 6 [])), .reg (nN 5 (.b true :: nN 3 (.b true :: []))), .br true, .reg (.n :: .n :: .call (VV.tu [VV.ag (Qa r2652.1), vi r2652.2]) :: nN 6 []), .reg (nN 6 (.b false :: [])), .br false, .reg (.n :: .call (VV.tu [vi r2662.1, vi r2662.2]) :: nN 5 []), .reg (nN 5 (.call (VV.tu [vi r2667.1, vi r2667.2]) :: nN 5 [])), .reg (nN 3 (.skip :: .skip :: .b false :: .n :: nS 8 (.b false :: []))), .br false, .reg (.n :: .call (vi r3238) :: nN 5 (.b false :: [])), .br false, .reg (Qb0 r3247), .reg (.n :: .n :: []), .br false, .reg (.n :: []), .sub ⟨[(3, none), (19, none), (21, none)], [none], []⟩ .ret (Zv a0 r3247 r3511)]) (fr := true) (by kernel_rfl) (an (an (ti (ti tt)) (an (an (an (Zf k _ h2617) (ti tt)) (an (Qk h2618) tt)) (an (an e2632 (an (Qk (dt h2633)) tt)) (an e2636 (an e2639 (an e2647 (an (an e2650 (an (dt h2651) (an e2655 (an (an e2660 (an (Qk h2661) tt)) (an e2664 (an e2670 (an e3237 (an rf tt)))))))) (an (an e3245 (an (df h3246) tt)) (an (ti (an e3249 (ti (ti (ti (ti (ti tt))))))) (an (an (ti (ti tt)) (an (Qk (dt h3250)) tt)) (an (ti tt) e3513))))))))))) (ti tt)) (Wv.refl _)
               | inr r3512 =>
                dsimp only at h
                have e3514 := (an (ti tt) (VRun.loop hph3509))
                injection h with h; subst h
                exact Qv pm pn Try.func3 (r0 := vb true) (ans := [.reg (.n :: .n :: []), .reg (.call (vb r2616) :: .n :: []), .br false, .reg (Yl r2623 r2628), .br false, .reg (.n :: .call (VV.tu [VV.ag (Qa r2634.1), vi r2634.2]) :: nN 6 []), .reg (.n :: .call (VV.tu [VV.ag (Qa r2637.1), vi r2637.2]) :: nN 6 []), .reg (nN 5 (.call (VV.tu [VV.ag (Qa r2644.1), vi r2644.2]) :: nN 6 [])), .reg (nN 5 (.b true :: nN 3 (.b true :: []))), .br true, .reg (.n :: .n :: .call (VV.tu [VV.ag (Qa r2652.1), vi r2652.2]) :: nN 6 []), .reg (nN 6 (.b false :: [])), .br false, .reg (.n :: .call (VV.tu [vi r2662.1, vi r2662.2]) :: nN 5 []), .reg (nN 5 (.call (VV.tu [vi r2667.1, vi r2667.2]) :: nN 5 [])), .reg (nN 3 (.skip :: .skip :: .b false :: .n :: nS 8 (.b false :: []))), .br false, .reg (.n :: .call (vi r3238) :: nN 5 (.b false :: [])), .br false, .reg (Qb0 r3247), .reg (.n :: .n :: []), .br false, .reg (.n :: []), .sub ⟨[(3, none), (19, none), (21, none)], [none], []⟩ (.exit 0) (Zw a0 r3247 r3512), .reg (.n :: [])]) (fr := true) (by kernel_rfl) (an (an (ti (ti tt)) (an (an (an (Zf k _ h2617) (ti tt)) (an (Qk h2618) tt)) (an (an e2632 (an (Qk (dt h2633)) tt)) (an e2636 (an e2639 (an e2647 (an (an e2650 (an (dt h2651) (an e2655 (an (an e2660 (an (Qk h2661) tt)) (an e2664 (an e2670 (an e3237 (an rf tt)))))))) (an (an e3245 (an (df h3246) tt)) (an (ti (an e3249 (ti (ti (ti (ti (ti tt))))))) (an (an (ti (ti tt)) (an (Qk (dt h3250)) tt)) (an (an (ti tt) e3514) (an (ti tt) tt)))))))))))) (ti tt)) (Wv.refl _)
              ·injection h with h; subst h
               exact Qv pm pn Try.func3 (r0 := vb false) (ans := [.reg (.n :: .n :: []), .reg (.call (vb r2616) :: .n :: []), .br false, .reg (Yl r2623 r2628), .br false, .reg (.n :: .call (VV.tu [VV.ag (Qa r2634.1), vi r2634.2]) :: nN 6 []), .reg (.n :: .call (VV.tu [VV.ag (Qa r2637.1), vi r2637.2]) :: nN 6 []), .reg (nN 5 (.call (VV.tu [VV.ag (Qa r2644.1), vi r2644.2]) :: nN 6 [])), .reg (nN 5 (.b true :: nN 3 (.b true :: []))), .br true, .reg (.n :: .n :: .call (VV.tu [VV.ag (Qa r2652.1), vi r2652.2]) :: nN 6 []), .reg (nN 6 (.b false :: [])), .br false, .reg (.n :: .call (VV.tu [vi r2662.1, vi r2662.2]) :: nN 5 []), .reg (nN 5 (.call (VV.tu [vi r2667.1, vi r2667.2]) :: nN 5 [])), .reg (nN 3 (.skip :: .skip :: .b false :: .n :: nS 8 (.b false :: []))), .br false, .reg (.n :: .call (vi r3238) :: nN 5 (.b false :: [])), .br false, .reg (Qb0 r3247), .reg (.n :: .n :: []), .br true, .reg (.n :: [])]) (fr := true) (by kernel_rfl) (an (an (ti (ti tt)) (an (an (an (Zf k _ h2617) (ti tt)) (an (Qk h2618) tt)) (an (an e2632 (an (Qk (dt h2633)) tt)) (an e2636 (an e2639 (an e2647 (an (an e2650 (an (dt h2651) (an e2655 (an (an e2660 (an (Qk h2661) tt)) (an e2664 (an e2670 (an e3237 (an rf tt)))))))) (an (an e3245 (an (df h3246) tt)) (an (ti (an e3249 (ti (ti (ti (ti (ti tt))))))) (an (ti (ti tt)) (an (Zo (df h3250)) (an (ti tt) tt)))))))))))) (ti tt)) (Wv.refl _)
            ·have e3515 := (ti (an e3240 (ti (ti (an (Zo (df h3241)) (an (Zo (df h3241)) (an (Zo (df h3241)) (an (Zo (df h3241)) tt))))))))
             injection h with h; subst h
             exact Qv pm pn Try.func3 (r0 := vb true) (ans := [.reg (.n :: .n :: []), .reg (.call (vb r2616) :: .n :: []), .br false, .reg (Yl r2623 r2628), .br false, .reg (.n :: .call (VV.tu [VV.ag (Qa r2634.1), vi r2634.2]) :: nN 6 []), .reg (.n :: .call (VV.tu [VV.ag (Qa r2637.1), vi r2637.2]) :: nN 6 []), .reg (nN 5 (.call (VV.tu [VV.ag (Qa r2644.1), vi r2644.2]) :: nN 6 [])), .reg (nN 5 (.b true :: nN 3 (.b true :: []))), .br true, .reg (.n :: .n :: .call (VV.tu [VV.ag (Qa r2652.1), vi r2652.2]) :: nN 6 []), .reg (nN 6 (.b false :: [])), .br false, .reg (.n :: .call (VV.tu [vi r2662.1, vi r2662.2]) :: nN 5 []), .reg (nN 5 (.call (VV.tu [vi r2667.1, vi r2667.2]) :: nN 5 [])), .reg (nN 3 (.skip :: .skip :: .b false :: .n :: nS 8 (.b false :: []))), .br false, .reg (.n :: .call (vi r3238) :: .n :: .n :: nS 3 (.b true :: [])), .br true, .reg (.n :: [])]) (fr := true) (by kernel_rfl) (an (an (ti (ti tt)) (an (an (an (Zf k _ h2617) (ti tt)) (an (Qk h2618) tt)) (an (an e2632 (an (Qk (dt h2633)) tt)) (an e2636 (an e2639 (an e2647 (an (an e2650 (an (dt h2651) (an e2655 (an (an e2660 (an (Qk h2661) tt)) (an e2664 (an e2670 (an e3237 (an rf tt)))))))) (an e3515 (an rt (an (ti tt) tt)))))))))) (ti tt)) (Wv.refl _)
          ·injection h with h; subst h
           exact Qv pm pn Try.func3 (r0 := vb false) (ans := [.reg (.n :: .n :: []), .reg (.call (vb r2616) :: .n :: []), .br false, .reg (Yl r2623 r2628), .br false, .reg (.n :: .call (VV.tu [VV.ag (Qa r2634.1), vi r2634.2]) :: nN 6 []), .reg (.n :: .call (VV.tu [VV.ag (Qa r2637.1), vi r2637.2]) :: nN 6 []), .reg (nN 5 (.call (VV.tu [VV.ag (Qa r2644.1), vi r2644.2]) :: nN 6 [])), .reg (nN 5 (.b true :: nN 3 (.b true :: []))), .br true, .reg (.n :: .n :: .call (VV.tu [VV.ag (Qa r2652.1), vi r2652.2]) :: nN 6 []), .reg (nN 6 (.b false :: [])), .br true, .reg (.n :: [])]) (fr := true) (by kernel_rfl) (an (an (ti (ti tt)) (an (an (an (Zf k _ h2617) (ti tt)) (an (Qk h2618) tt)) (an (an e2632 (an (Qk (dt h2633)) tt)) (an e2636 (an e2639 (an e2647 (an e2650 (an (dt h2651) (an e2655 (an e2660 (an (Zo (Qby h2661)) (an (ti tt) tt)))))))))))) (ti tt)) (Wv.refl _)
         ·have e3516 := (ti (ti (ti (an (Zo (df h2656)) (an (Zo (df h2656)) (an (Zo (df h2656)) (an (Zo (df h2656)) tt)))))))
          injection h with h; subst h
          exact Qv pm pn Try.func3 (r0 := vb false) (ans := [.reg (.n :: .n :: []), .reg (.call (vb r2616) :: .n :: []), .br false, .reg (Yl r2623 r2628), .br false, .reg (.n :: .call (VV.tu [VV.ag (Qa r2634.1), vi r2634.2]) :: nN 6 []), .reg (.n :: .call (VV.tu [VV.ag (Qa r2637.1), vi r2637.2]) :: nN 6 []), .reg (nN 5 (.call (VV.tu [VV.ag (Qa r2644.1), vi r2644.2]) :: nN 6 [])), .reg (nN 5 (.b true :: nN 3 (.b true :: []))), .br true, .reg (.n :: .n :: .call (VV.tu [VV.ag (Qa r2652.1), vi r2652.2]) :: nN 6 []), .reg (nN 3 (nS 3 (.b true :: []))), .br true, .reg (.n :: [])]) (fr := true) (by kernel_rfl) (an (an (ti (ti tt)) (an (an (an (Zf k _ h2617) (ti tt)) (an (Qk h2618) tt)) (an (an e2632 (an (Qk (dt h2633)) tt)) (an e2636 (an e2639 (an e2647 (an e2650 (an (dt h2651) (an e2655 (an e3516 (an rt (an (ti tt) tt)))))))))))) (ti tt)) (Wv.refl _)
        ·obtain ⟨r3517, h3518, h⟩ := bs h
         have e3519 := (Qm k a0 _ h3518)
         rcases ifs h with ⟨h3520, h⟩ | ⟨h3520, h⟩
         ·have e3521 := (an (Qk (dt h3520)) tt)
          have e3522 := (an (Qk (dt h3520)) tt)
          have e3523 := (an (Qk (dt h3520)) tt)
          have e3524 := (ti (an e3519 (ti (ti (an e3521 (an e3522 (an e3523 (an (Qk (dt h3520)) tt))))))))
          rcases ifs h with ⟨h3525, h⟩ | ⟨h3525, h⟩
          ·injection h with h; subst h
           exact Qv pm pn Try.func3 (r0 := vb true) (ans := [.reg (.n :: .n :: []), .reg (.call (vb r2616) :: .n :: []), .br false, .reg (Yl r2623 r2628), .br false, .reg (.n :: .call (VV.tu [VV.ag (Qa r2634.1), vi r2634.2]) :: nN 6 []), .reg (.n :: .call (VV.tu [VV.ag (Qa r2637.1), vi r2637.2]) :: nN 6 []), .reg (nN 5 (.call (VV.tu [VV.ag (Qa r2644.1), vi r2644.2]) :: nN 6 [])), .reg (nN 5 (.b true :: nN 3 (.b true :: []))), .br false, .reg (.n :: .call (vi r3517) :: nN 5 (.b false :: [])), .br true, .reg (.n :: [])]) (fr := true) (by kernel_rfl) (an (an (ti (ti tt)) (an (an (an (Zf k _ h2617) (ti tt)) (an (Qk h2618) tt)) (an (an e2632 (an (Qk (dt h2633)) tt)) (an e2636 (an e2639 (an e2647 (an (an e2650 (an (df h2651) tt)) (an e3524 (an (dt h3525) (an (ti tt) tt)))))))))) (ti tt)) (Wv.refl _)
          ·obtain ⟨r3526, h3527, h⟩ := bs h
           have e3528 := (show VC Try.prog 10 [VV.ag (Qa a0)] (VV.tu [VV.fr (flatMap Qa r3526.1) r3526.1.length, vi r3526.2]) from (VC.weak (X6 k a0 _ h3527) (Wv.tuL (.cons (Wv.fw rfl rfl) (.cons (Wv.refl _) .nil)))))
           rcases ifs h with ⟨h3529, h⟩ | ⟨h3529, h⟩
           ·obtain ⟨r3789, h3788, h⟩ := bs h
            have hph3788 := Qbo k a0 r3526 _ _ _ h3788
            cases r3789 with
            | inl r3790 =>
             dsimp only at h
             have e3792 := (an (ti tt) (VRun.loop hph3788))
             injection h with h; subst h
             exact Qv pm pn Try.func3 (r0 := vb false) (ans := [.reg (.n :: .n :: []), .reg (.call (vb r2616) :: .n :: []), .br false, .reg (Yl r2623 r2628), .br false, .reg (.n :: .call (VV.tu [VV.ag (Qa r2634.1), vi r2634.2]) :: nN 6 []), .reg (.n :: .call (VV.tu [VV.ag (Qa r2637.1), vi r2637.2]) :: nN 6 []), .reg (nN 5 (.call (VV.tu [VV.ag (Qa r2644.1), vi r2644.2]) :: nN 6 [])), .reg (nN 5 (.b true :: nN 3 (.b true :: []))), .br false, .reg (.n :: .call (vi r3517) :: nN 5 (.b false :: [])), .br false, .reg (Qb0 r3526), .reg (.n :: .n :: []), .br false, .reg (.n :: []), .sub ⟨[(3, none), (19, none), (21, none)], [none], []⟩ .ret (Zx a0 r3526 r3790)]) (fr := true) (by kernel_rfl) (an (an (ti (ti tt)) (an (an (an (Zf k _ h2617) (ti tt)) (an (Qk h2618) tt)) (an (an e2632 (an (Qk (dt h2633)) tt)) (an e2636 (an e2639 (an e2647 (an (an e2650 (an (df h2651) tt)) (an (an e3524 (an (df h3525) tt)) (an (ti (an e3528 (ti (ti (ti (ti (ti tt))))))) (an (an (ti (ti tt)) (an (Qk (dt h3529)) tt)) (an (ti tt) e3792))))))))))) (ti tt)) (Wv.refl _)
            | inr r3791 =>
             dsimp only at h
             have e3793 := (an (ti tt) (VRun.loop hph3788))
             injection h with h; subst h
             exact Qv pm pn Try.func3 (r0 := vb true) (ans := [.reg (.n :: .n :: []), .reg (.call (vb r2616) :: .n :: []), .br false, .reg (Yl r2623 r2628), .br false, .reg (.n :: .call (VV.tu [VV.ag (Qa r2634.1), vi r2634.2]) :: nN 6 []), .reg (.n :: .call (VV.tu [VV.ag (Qa r2637.1), vi r2637.2]) :: nN 6 []), .reg (nN 5 (.call (VV.tu [VV.ag (Qa r2644.1), vi r2644.2]) :: nN 6 [])), .reg (nN 5 (.b true :: nN 3 (.b true :: []))), .br false, .reg (.n :: .call (vi r3517) :: nN 5 (.b false :: [])), .br false, .reg (Qb0 r3526), .reg (.n :: .n :: []), .br false, .reg (.n :: []), .sub ⟨[(3, none), (19, none), (21, none)], [none], []⟩ (.exit 0) (Zy a0 r3526 r3791), .reg (.n :: [])]) (fr := true) (by kernel_rfl) (an (an (ti (ti tt)) (an (an (an (Zf k _ h2617) (ti tt)) (an (Qk h2618) tt)) (an (an e2632 (an (Qk (dt h2633)) tt)) (an e2636 (an e2639 (an e2647 (an (an e2650 (an (df h2651) tt)) (an (an e3524 (an (df h3525) tt)) (an (ti (an e3528 (ti (ti (ti (ti (ti tt))))))) (an (an (ti (ti tt)) (an (Qk (dt h3529)) tt)) (an (an (ti tt) e3793) (an (ti tt) tt)))))))))))) (ti tt)) (Wv.refl _)
           ·injection h with h; subst h
            exact Qv pm pn Try.func3 (r0 := vb false) (ans := [.reg (.n :: .n :: []), .reg (.call (vb r2616) :: .n :: []), .br false, .reg (Yl r2623 r2628), .br false, .reg (.n :: .call (VV.tu [VV.ag (Qa r2634.1), vi r2634.2]) :: nN 6 []), .reg (.n :: .call (VV.tu [VV.ag (Qa r2637.1), vi r2637.2]) :: nN 6 []), .reg (nN 5 (.call (VV.tu [VV.ag (Qa r2644.1), vi r2644.2]) :: nN 6 [])), .reg (nN 5 (.b true :: nN 3 (.b true :: []))), .br false, .reg (.n :: .call (vi r3517) :: nN 5 (.b false :: [])), .br false, .reg (Qb0 r3526), .reg (.n :: .n :: []), .br true, .reg (.n :: [])]) (fr := true) (by kernel_rfl) (an (an (ti (ti tt)) (an (an (an (Zf k _ h2617) (ti tt)) (an (Qk h2618) tt)) (an (an e2632 (an (Qk (dt h2633)) tt)) (an e2636 (an e2639 (an e2647 (an (an e2650 (an (df h2651) tt)) (an (an e3524 (an (df h3525) tt)) (an (ti (an e3528 (ti (ti (ti (ti (ti tt))))))) (an (ti (ti tt)) (an (Zo (df h3529)) (an (ti tt) tt)))))))))))) (ti tt)) (Wv.refl _)
         ·have e3794 := (ti (an e3519 (ti (ti (an (Zo (df h3520)) (an (Zo (df h3520)) (an (Zo (df h3520)) (an (Zo (df h3520)) tt))))))))
          injection h with h; subst h
          exact Qv pm pn Try.func3 (r0 := vb true) (ans := [.reg (.n :: .n :: []), .reg (.call (vb r2616) :: .n :: []), .br false, .reg (Yl r2623 r2628), .br false, .reg (.n :: .call (VV.tu [VV.ag (Qa r2634.1), vi r2634.2]) :: nN 6 []), .reg (.n :: .call (VV.tu [VV.ag (Qa r2637.1), vi r2637.2]) :: nN 6 []), .reg (nN 5 (.call (VV.tu [VV.ag (Qa r2644.1), vi r2644.2]) :: nN 6 [])), .reg (nN 5 (.b true :: nN 3 (.b true :: []))), .br false, .reg (.n :: .call (vi r3517) :: .n :: .n :: nS 3 (.b true :: [])), .br true, .reg (.n :: [])]) (fr := true) (by kernel_rfl) (an (an (ti (ti tt)) (an (an (an (Zf k _ h2617) (ti tt)) (an (Qk h2618) tt)) (an (an e2632 (an (Qk (dt h2633)) tt)) (an e2636 (an e2639 (an e2647 (an (an e2650 (an (df h2651) tt)) (an e3794 (an rt (an (ti tt) tt)))))))))) (ti tt)) (Wv.refl _)
       ·have e3795 := (ti (ti (ti (an (an (dt h2648) tt) (an (an (dt h2648) tt) (an (dt h2648) (ti (an (df h2649) (an (df h2649) (an (df h2649) tt))))))))))
        obtain ⟨r3796, h3797, h⟩ := bs h
        have e3798 := (Qm k a0 _ h3797)
        rcases ifs h with ⟨h3799, h⟩ | ⟨h3799, h⟩
        ·have e3800 := (an (Qk (dt h3799)) tt)
         have e3801 := (an (Qk (dt h3799)) tt)
         have e3802 := (an (Qk (dt h3799)) tt)
         have e3803 := (ti (an e3798 (ti (ti (an e3800 (an e3801 (an e3802 (an (Qk (dt h3799)) tt))))))))
         rcases ifs h with ⟨h3804, h⟩ | ⟨h3804, h⟩
         ·injection h with h; subst h
          exact Qv pm pn Try.func3 (r0 := vb true) (ans := [.reg (.n :: .n :: []), .reg (.call (vb r2616) :: .n :: []), .br false, .reg (Yl r2623 r2628), .br false, .reg (.n :: .call (VV.tu [VV.ag (Qa r2634.1), vi r2634.2]) :: nN 6 []), .reg (.n :: .call (VV.tu [VV.ag (Qa r2637.1), vi r2637.2]) :: nN 6 []), .reg (nN 5 (.call (VV.tu [VV.ag (Qa r2644.1), vi r2644.2]) :: nN 6 [])), .reg (nN 5 (.b true :: .n :: .skip :: .skip :: .b false :: [])), .br false, .reg (.n :: .call (vi r3796) :: nN 5 (.b false :: [])), .br true, .reg (.n :: [])]) (fr := true) (by kernel_rfl) (an (an (ti (ti tt)) (an (an (an (Zf k _ h2617) (ti tt)) (an (Qk h2618) tt)) (an (an e2632 (an (Qk (dt h2633)) tt)) (an e2636 (an e2639 (an e2647 (an (an e3795 (an rf tt)) (an e3803 (an (dt h3804) (an (ti tt) tt)))))))))) (ti tt)) (Wv.refl _)
         ·obtain ⟨r3805, h3806, h⟩ := bs h
          have e3807 := (show VC Try.prog 10 [VV.ag (Qa a0)] (VV.tu [VV.fr (flatMap Qa r3805.1) r3805.1.length, vi r3805.2]) from (VC.weak (X6 k a0 _ h3806) (Wv.tuL (.cons (Wv.fw rfl rfl) (.cons (Wv.refl _) .nil)))))
          rcases ifs h with ⟨h3808, h⟩ | ⟨h3808, h⟩
          ·obtain ⟨r4068, h4067, h⟩ := bs h
           have hph4067 := Qbr k a0 r3805 _ _ _ h4067
           cases r4068 with
           | inl r4069 =>
            dsimp only at h
            have e4071 := (an (ti tt) (VRun.loop hph4067))
            injection h with h; subst h
            exact Qv pm pn Try.func3 (r0 := vb false) (ans := [.reg (.n :: .n :: []), .reg (.call (vb r2616) :: .n :: []), .br false, .reg (Yl r2623 r2628), .br false, .reg (.n :: .call (VV.tu [VV.ag (Qa r2634.1), vi r2634.2]) :: nN 6 []), .reg (.n :: .call (VV.tu [VV.ag (Qa r2637.1), vi r2637.2]) :: nN 6 []), .reg (nN 5 (.call (VV.tu [VV.ag (Qa r2644.1), vi r2644.2]) :: nN 6 [])), .reg (nN 5 (.b true :: .n :: .skip :: .skip :: .b false :: [])), .br false, .reg (.n :: .call (vi r3796) :: nN 5 (.b false :: [])), .br false, .reg (Qb0 r3805), .reg (.n :: .n :: []), .br false, .reg (.n :: []), .sub ⟨[(3, none), (19, none), (21, none)], [none], []⟩ .ret (Zz a0 r3805 r4069)]) (fr := true) (by kernel_rfl) (an (an (ti (ti tt)) (an (an (an (Zf k _ h2617) (ti tt)) (an (Qk h2618) tt)) (an (an e2632 (an (Qk (dt h2633)) tt)) (an e2636 (an e2639 (an e2647 (an (an e3795 (an rf tt)) (an (an e3803 (an (df h3804) tt)) (an (ti (an e3807 (ti (ti (ti (ti (ti tt))))))) (an (an (ti (ti tt)) (an (Qk (dt h3808)) tt)) (an (ti tt) e4071))))))))))) (ti tt)) (Wv.refl _)
           | inr r4070 =>
            dsimp only at h
            have e4072 := (an (ti tt) (VRun.loop hph4067))
            injection h with h; subst h
            exact Qv pm pn Try.func3 (r0 := vb true) (ans := [.reg (.n :: .n :: []), .reg (.call (vb r2616) :: .n :: []), .br false, .reg (Yl r2623 r2628), .br false, .reg (.n :: .call (VV.tu [VV.ag (Qa r2634.1), vi r2634.2]) :: nN 6 []), .reg (.n :: .call (VV.tu [VV.ag (Qa r2637.1), vi r2637.2]) :: nN 6 []), .reg (nN 5 (.call (VV.tu [VV.ag (Qa r2644.1), vi r2644.2]) :: nN 6 [])), .reg (nN 5 (.b true :: .n :: .skip :: .skip :: .b false :: [])), .br false, .reg (.n :: .call (vi r3796) :: nN 5 (.b false :: [])), .br false, .reg (Qb0 r3805), .reg (.n :: .n :: []), .br false, .reg (.n :: []), .sub ⟨[(3, none), (19, none), (21, none)], [none], []⟩ (.exit 0) (Z4 a0 r3805 r4070), .reg (.n :: [])]) (fr := true) (by kernel_rfl) (an (an (ti (ti tt)) (an (an (an (Zf k _ h2617) (ti tt)) (an (Qk h2618) tt)) (an (an e2632 (an (Qk (dt h2633)) tt)) (an e2636 (an e2639 (an e2647 (an (an e3795 (an rf tt)) (an (an e3803 (an (df h3804) tt)) (an (ti (an e3807 (ti (ti (ti (ti (ti tt))))))) (an (an (ti (ti tt)) (an (Qk (dt h3808)) tt)) (an (an (ti tt) e4072) (an (ti tt) tt)))))))))))) (ti tt)) (Wv.refl _)
          ·injection h with h; subst h
           exact Qv pm pn Try.func3 (r0 := vb false) (ans := [.reg (.n :: .n :: []), .reg (.call (vb r2616) :: .n :: []), .br false, .reg (Yl r2623 r2628), .br false, .reg (.n :: .call (VV.tu [VV.ag (Qa r2634.1), vi r2634.2]) :: nN 6 []), .reg (.n :: .call (VV.tu [VV.ag (Qa r2637.1), vi r2637.2]) :: nN 6 []), .reg (nN 5 (.call (VV.tu [VV.ag (Qa r2644.1), vi r2644.2]) :: nN 6 [])), .reg (nN 5 (.b true :: .n :: .skip :: .skip :: .b false :: [])), .br false, .reg (.n :: .call (vi r3796) :: nN 5 (.b false :: [])), .br false, .reg (Qb0 r3805), .reg (.n :: .n :: []), .br true, .reg (.n :: [])]) (fr := true) (by kernel_rfl) (an (an (ti (ti tt)) (an (an (an (Zf k _ h2617) (ti tt)) (an (Qk h2618) tt)) (an (an e2632 (an (Qk (dt h2633)) tt)) (an e2636 (an e2639 (an e2647 (an (an e3795 (an rf tt)) (an (an e3803 (an (df h3804) tt)) (an (ti (an e3807 (ti (ti (ti (ti (ti tt))))))) (an (ti (ti tt)) (an (Zo (df h3808)) (an (ti tt) tt)))))))))))) (ti tt)) (Wv.refl _)
        ·have e4073 := (ti (an e3798 (ti (ti (an (Zo (df h3799)) (an (Zo (df h3799)) (an (Zo (df h3799)) (an (Zo (df h3799)) tt))))))))
         injection h with h; subst h
         exact Qv pm pn Try.func3 (r0 := vb true) (ans := [.reg (.n :: .n :: []), .reg (.call (vb r2616) :: .n :: []), .br false, .reg (Yl r2623 r2628), .br false, .reg (.n :: .call (VV.tu [VV.ag (Qa r2634.1), vi r2634.2]) :: nN 6 []), .reg (.n :: .call (VV.tu [VV.ag (Qa r2637.1), vi r2637.2]) :: nN 6 []), .reg (nN 5 (.call (VV.tu [VV.ag (Qa r2644.1), vi r2644.2]) :: nN 6 [])), .reg (nN 5 (.b true :: .n :: .skip :: .skip :: .b false :: [])), .br false, .reg (.n :: .call (vi r3796) :: .n :: .n :: nS 3 (.b true :: [])), .br true, .reg (.n :: [])]) (fr := true) (by kernel_rfl) (an (an (ti (ti tt)) (an (an (an (Zf k _ h2617) (ti tt)) (an (Qk h2618) tt)) (an (an e2632 (an (Qk (dt h2633)) tt)) (an e2636 (an e2639 (an e2647 (an (an e3795 (an rf tt)) (an e4073 (an rt (an (ti tt) tt)))))))))) (ti tt)) (Wv.refl _)
      ·have e4074 := (ti (ti (ti (an (df h2648) (an (df h2648) (an (df h2648) (ti (an rf (an rf (an rf tt))))))))))
       obtain ⟨r4075, h4076, h⟩ := bs h
       have e4077 := (Qm k a0 _ h4076)
       rcases ifs h with ⟨h4078, h⟩ | ⟨h4078, h⟩
       ·have e4079 := (an (Qk (dt h4078)) tt)
        have e4080 := (an (Qk (dt h4078)) tt)
        have e4081 := (an (Qk (dt h4078)) tt)
        have e4082 := (ti (an e4077 (ti (ti (an e4079 (an e4080 (an e4081 (an (Qk (dt h4078)) tt))))))))
        rcases ifs h with ⟨h4083, h⟩ | ⟨h4083, h⟩
        ·injection h with h; subst h
         exact Qv pm pn Try.func3 (r0 := vb true) (ans := [.reg (.n :: .n :: []), .reg (.call (vb r2616) :: .n :: []), .br false, .reg (Yl r2623 r2628), .br false, .reg (.n :: .call (VV.tu [VV.ag (Qa r2634.1), vi r2634.2]) :: nN 6 []), .reg (.n :: .call (VV.tu [VV.ag (Qa r2637.1), vi r2637.2]) :: nN 6 []), .reg (nN 5 (.call (VV.tu [VV.ag (Qa r2644.1), vi r2644.2]) :: nN 6 [])), .reg (nN 3 (.skip :: .skip :: .b false :: .n :: .skip :: .skip :: .b false :: [])), .br false, .reg (.n :: .call (vi r4075) :: nN 5 (.b false :: [])), .br true, .reg (.n :: [])]) (fr := true) (by kernel_rfl) (an (an (ti (ti tt)) (an (an (an (Zf k _ h2617) (ti tt)) (an (Qk h2618) tt)) (an (an e2632 (an (Qk (dt h2633)) tt)) (an e2636 (an e2639 (an e2647 (an (an e4074 (an rf tt)) (an e4082 (an (dt h4083) (an (ti tt) tt)))))))))) (ti tt)) (Wv.refl _)
        ·obtain ⟨r4084, h4085, h⟩ := bs h
         have e4086 := (show VC Try.prog 10 [VV.ag (Qa a0)] (VV.tu [VV.fr (flatMap Qa r4084.1) r4084.1.length, vi r4084.2]) from (VC.weak (X6 k a0 _ h4085) (Wv.tuL (.cons (Wv.fw rfl rfl) (.cons (Wv.refl _) .nil)))))
         rcases ifs h with ⟨h4087, h⟩ | ⟨h4087, h⟩
         ·obtain ⟨r4347, h4346, h⟩ := bs h
          have hph4346 := Qbu k a0 r4084 _ _ _ h4346
          cases r4347 with
          | inl r4348 =>
           dsimp only at h
           have e4350 := (an (ti tt) (VRun.loop hph4346))
           injection h with h; subst h
           exact Qv pm pn Try.func3 (r0 := vb false) (ans := [.reg (.n :: .n :: []), .reg (.call (vb r2616) :: .n :: []), .br false, .reg (Yl r2623 r2628), .br false, .reg (.n :: .call (VV.tu [VV.ag (Qa r2634.1), vi r2634.2]) :: nN 6 []), .reg (.n :: .call (VV.tu [VV.ag (Qa r2637.1), vi r2637.2]) :: nN 6 []), .reg (nN 5 (.call (VV.tu [VV.ag (Qa r2644.1), vi r2644.2]) :: nN 6 [])), .reg (nN 3 (.skip :: .skip :: .b false :: .n :: .skip :: .skip :: .b false :: [])), .br false, .reg (.n :: .call (vi r4075) :: nN 5 (.b false :: [])), .br false, .reg (Qb0 r4084), .reg (.n :: .n :: []), .br false, .reg (.n :: []), .sub ⟨[(3, none), (19, none), (21, none)], [none], []⟩ .ret (Z5 a0 r4084 r4348)]) (fr := true) (by kernel_rfl) (an (an (ti (ti tt)) (an (an (an (Zf k _ h2617) (ti tt)) (an (Qk h2618) tt)) (an (an e2632 (an (Qk (dt h2633)) tt)) (an e2636 (an e2639 (an e2647 (an (an e4074 (an rf tt)) (an (an e4082 (an (df h4083) tt)) (an (ti (an e4086 (ti (ti (ti (ti (ti tt))))))) (an (an (ti (ti tt)) (an (Qk (dt h4087)) tt)) (an (ti tt) e4350))))))))))) (ti tt)) (Wv.refl _)
          | inr r4349 =>
           dsimp only at h
           have e4351 := (an (ti tt) (VRun.loop hph4346))
           injection h with h; subst h
           exact Qv pm pn Try.func3 (r0 := vb true) (ans := [.reg (.n :: .n :: []), .reg (.call (vb r2616) :: .n :: []), .br false, .reg (Yl r2623 r2628), .br false, .reg (.n :: .call (VV.tu [VV.ag (Qa r2634.1), vi r2634.2]) :: nN 6 []), .reg (.n :: .call (VV.tu [VV.ag (Qa r2637.1), vi r2637.2]) :: nN 6 []), .reg (nN 5 (.call (VV.tu [VV.ag (Qa r2644.1), vi r2644.2]) :: nN 6 [])), .reg (nN 3 (.skip :: .skip :: .b false :: .n :: .skip :: .skip :: .b false :: [])), .br false, .reg (.n :: .call (vi r4075) :: nN 5 (.b false :: [])), .br false, .reg (Qb0 r4084), .reg (.n :: .n :: []), .br false, .reg (.n :: []), .sub ⟨[(3, none), (19, none), (21, none)], [none], []⟩ (.exit 0) (Z7 a0 r4084 r4349), .reg (.n :: [])]) (fr := true) (by kernel_rfl) (an (an (ti (ti tt)) (an (an (an (Zf k _ h2617) (ti tt)) (an (Qk h2618) tt)) (an (an e2632 (an (Qk (dt h2633)) tt)) (an e2636 (an e2639 (an e2647 (an (an e4074 (an rf tt)) (an (an e4082 (an (df h4083) tt)) (an (ti (an e4086 (ti (ti (ti (ti (ti tt))))))) (an (an (ti (ti tt)) (an (Qk (dt h4087)) tt)) (an (an (ti tt) e4351) (an (ti tt) tt)))))))))))) (ti tt)) (Wv.refl _)
         ·injection h with h; subst h
          exact Qv pm pn Try.func3 (r0 := vb false) (ans := [.reg (.n :: .n :: []), .reg (.call (vb r2616) :: .n :: []), .br false, .reg (Yl r2623 r2628), .br false, .reg (.n :: .call (VV.tu [VV.ag (Qa r2634.1), vi r2634.2]) :: nN 6 []), .reg (.n :: .call (VV.tu [VV.ag (Qa r2637.1), vi r2637.2]) :: nN 6 []), .reg (nN 5 (.call (VV.tu [VV.ag (Qa r2644.1), vi r2644.2]) :: nN 6 [])), .reg (nN 3 (.skip :: .skip :: .b false :: .n :: .skip :: .skip :: .b false :: [])), .br false, .reg (.n :: .call (vi r4075) :: nN 5 (.b false :: [])), .br false, .reg (Qb0 r4084), .reg (.n :: .n :: []), .br true, .reg (.n :: [])]) (fr := true) (by kernel_rfl) (an (an (ti (ti tt)) (an (an (an (Zf k _ h2617) (ti tt)) (an (Qk h2618) tt)) (an (an e2632 (an (Qk (dt h2633)) tt)) (an e2636 (an e2639 (an e2647 (an (an e4074 (an rf tt)) (an (an e4082 (an (df h4083) tt)) (an (ti (an e4086 (ti (ti (ti (ti (ti tt))))))) (an (ti (ti tt)) (an (Zo (df h4087)) (an (ti tt) tt)))))))))))) (ti tt)) (Wv.refl _)
       ·have e4352 := (ti (an e4077 (ti (ti (an (Zo (df h4078)) (an (Zo (df h4078)) (an (Zo (df h4078)) (an (Zo (df h4078)) tt))))))))
        injection h with h; subst h
        exact Qv pm pn Try.func3 (r0 := vb true) (ans := [.reg (.n :: .n :: []), .reg (.call (vb r2616) :: .n :: []), .br false, .reg (Yl r2623 r2628), .br false, .reg (.n :: .call (VV.tu [VV.ag (Qa r2634.1), vi r2634.2]) :: nN 6 []), .reg (.n :: .call (VV.tu [VV.ag (Qa r2637.1), vi r2637.2]) :: nN 6 []), .reg (nN 5 (.call (VV.tu [VV.ag (Qa r2644.1), vi r2644.2]) :: nN 6 [])), .reg (nN 3 (.skip :: .skip :: .b false :: .n :: .skip :: .skip :: .b false :: [])), .br false, .reg (.n :: .call (vi r4075) :: .n :: .n :: nS 3 (.b true :: [])), .br true, .reg (.n :: [])]) (fr := true) (by kernel_rfl) (an (an (ti (ti tt)) (an (an (an (Zf k _ h2617) (ti tt)) (an (Qk h2618) tt)) (an (an e2632 (an (Qk (dt h2633)) tt)) (an e2636 (an e2639 (an e2647 (an (an e4074 (an rf tt)) (an e4352 (an rt (an (ti tt) tt)))))))))) (ti tt)) (Wv.refl _)
     ·injection h with h; subst h
      exact Qv pm pn Try.func3 (r0 := vb true) (ans := [.reg (.n :: .n :: []), .reg (.call (vb r2616) :: .n :: []), .br false, .reg (Yl r2623 r2628), .br true, .reg (.n :: [])]) (fr := true) (by kernel_rfl) (an (an (ti (ti tt)) (an (an (an (Zf k _ h2617) (ti tt)) (an (Qk h2618) tt)) (an e2632 (an (Zo (df h2633)) (an (ti tt) tt))))) (ti tt)) (Wv.refl _)
    ·have e4353 := (ti (ti (ti (ti (an (an (df h2619) tt) (an (an (df h2619) tt) (an (an (df h2619) tt) (an (df h2619) (ti (an (an (df h2621) tt) (an e2625 (an (an (df h2621) tt) (an (df h2621) (ti (an (Zo (df h2626)) (an (Zo (df h2626)) (an (Zo (df h2626)) (an (Zo (df h2626)) tt))))))))))))))))))
     injection h with h; subst h
     exact Qv pm pn Try.func3 (r0 := vb true) (ans := [.reg (.n :: .n :: []), .reg (.call (vb r2616) :: .n :: []), .br false, .reg (Qxi r2623), .br true, .reg (.n :: [])]) (fr := true) (by kernel_rfl) (an (an (ti (ti tt)) (an (an (an (Zf k _ h2617) (ti tt)) (an (Qk h2618) tt)) (an e4353 (an rt (an (ti tt) tt))))) (ti tt)) (Wv.refl _)
 ·injection h with h; subst h
  exact Qv pm pn Try.func3 (r0 := vb false) (ans := [.reg (.n :: .n :: []), .reg (.call (vb r2616) :: .n :: []), .br true, .reg (.n :: [])]) (fr := true) (by kernel_rfl) (an (an (ti (ti tt)) (an (an (Zf k _ h2617) (ti tt)) (an (Zo (Qby h2618)) (an (ti tt) tt)))) (ti tt)) (Wv.refl _)
end Go.Proofs.Ytgoohnencoipoaa.Vg

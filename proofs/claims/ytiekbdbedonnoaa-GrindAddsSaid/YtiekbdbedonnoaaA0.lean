import Derived.Test.YtiekbdbedonnoaaD1
namespace Go.Proofs.Ytiekbdbedonnoaa.Vg
set_option maxRecDepth 100000
set_option maxHeartbeats 4000000
set_option linter.unusedVariables false
set_option linter.unusedSimpArgs false
open Go Go.Proofs.Ytiekbdbedonnoaa.Ev Go.Proofs.Ytiekbdbedonnoaa.Vv
open List (flatMap length_cons length_nil length_map length_append map_cons map_nil length_replicate)
def v_23 (x : List Int) : VV := VV.tr (List.map vi x) x.length
def f_23 (x : List Int) : VV := VV.fr (List.map vi x) x.length
theorem Zp (xs : List (List Int)) : (xs.map v_23).map unfr = xs.map v_23 := Qsk (fun _ => rfl) xs
theorem Z8 (xs : List (List Int)) : (xs.map f_23).map unfr = xs.map v_23 := Qsk (fun _ => rfl) xs
structure Qb where
 Mirror : ByteArray
 Stroke : ByteArray
 Minutes : Int
 deriving Inhabited
def Qa (x : Qb) : List VV := [vs x.Mirror, vs x.Stroke, vi x.Minutes]
theorem Qx (x : Qb) : (Qa x).length = 3 := rfl
theorem Yd (xs : List Qb) : (xs.flatMap Qa).all VV.still = true := Qiv (fun _ => rfl) xs
theorem Qia (xs : List Qb) : (xs.flatMap Qa).all VV.isC = true := Qiv (fun _ => rfl) xs
theorem Qc5 (xs : List Qb) : (xs.flatMap Qa).all new0 = true := Qiv (fun _ => rfl) xs
theorem Qe (xs : List Qb) : (xs.flatMap Qa).map unfr = xs.flatMap Qa := Qve (fun _ => rfl) xs
theorem ag48 : Qb2 Try.prog 48 = some false := by kernel_rfl
theorem ag50 : Qb2 Try.prog 50 = some true := by kernel_rfl
theorem sz50 : szOf Try.prog 50 = some 3 := by kernel_rfl
theorem ag83 : Qb2 Try.prog 83 = some true := by kernel_rfl
theorem sz83 : szOf Try.prog 83 = some 2 := by kernel_rfl
theorem Q3k : Qb2 Try.prog 118 = some false := by kernel_rfl
def Qy2 (z0 : (List Qb)) (z1 : Int) : List Ans := (nN 4 (.v (vs ((z0.getD z1.toNat default).Mirror)) :: nN 7 (.v (vs ((z0.getD z1.toNat default).Stroke)) :: .n :: .n :: .b false :: [])))
def Qaf (a0 : (List Qb)) (x3 : Int) : VS := ⟨mkA [(0, VV.tr (flatMap Qa a0) a0.length), (3, vi x3)], [], .nil⟩
def Wh (a0 : (List Qb)) (r : Unit) : VS := ⟨mkA [(2, vb false)], [], .nil⟩
def Yg (a0 : (List Qb)) (r : Unit) : VS := ⟨mkA [(0, VV.tr (flatMap Qa a0) a0.length)], [], .nil⟩
def Xq (k : Nat) (a0 : (List Qb)) : Nat -> Int -> Option (Sum Unit Unit)
 | 0, _ => none
 | fuel + 1, x3 => if x3 < (a0.length : Int) then (if 0 <= x3 /\ x3 < (a0.length : Int) then (if 30 < (((a0.getD x3.toNat default).Mirror).size : Int) then (some (.inl ())) else (if 30 < (((a0.getD x3.toNat default).Stroke).size : Int) then (some (.inl ())) else (Xq k a0 fuel (w64 (x3 + 1))))) else none) else (some (.inr ()))
theorem Qfr (k : Nat) (a0 : (List Qb)) : ∀ (fuel : Nat) (x3 : Int) (r : Sum Unit Unit), Xq k a0 fuel x3 = some r -> (match r with | .inl r => Y0 none Try.prog (szF Try.f19) (J5 Try.f19 0) (Qaf a0 x3) .ret (Wh a0 r) | .inr r => Y0 none Try.prog (szF Try.f19) (J5 Try.f19 0) (Qaf a0 x3) (.exit 0) (Yg a0 r)) := by
 intro fuel
 induction fuel with
 | zero => intro x3 r h; rw [Xq.eq_1] at h; cases h
 | succ fuel ih =>
  intro x3 r h
  rw [Xq.eq_2] at h
  rcases ifs h with ⟨h3086, h⟩ | ⟨h3086, h⟩
  ·obtain ⟨h3087, h⟩ := ifn h
   have e3088 := (show Zg Try.prog 9 (x3.toNat * 3 + 0) (flatMap Qa a0) = some (vs ((a0.getD x3.toNat default).Mirror)) from (Xn ag9 Qa 3 0 Qx (by omega) a0 default h3087 (by omega)).trans rfl)
   rcases ifs h with ⟨h3089, h⟩ | ⟨h3089, h⟩
   ·have e3090 := (ti (ti (an h3087 (ti (an e3088 (ti (ti (ti (an (dt h3089) (an (dt h3089) (an (dt h3089) (an (dt h3089) (an (dt h3089) (an (dt h3089) (an (dt h3089) (an (dt h3089) tt))))))))))))))))
    injection h with h; subst h
    exact Qv (c := ⟨[(2, none)], [], []⟩) (s1 := (Wh a0 ())) pm pn (ans := [.reg (nN 4 []), .br true, .reg (nN 4 (.v (vs ((a0.getD x3.toNat default).Mirror)) :: nN 3 (nS 7 (.b true :: [])))), .br true, .reg (.n :: [])]) (by kernel_rfl) (by intro e; cases e) (an (an (an (ti (ti (ti (ti tt)))) (an (dt h3086) tt)) (an e3090 (an rt (an (ti tt) tt)))) (ti tt))
   ·have e3091 := (an (df h3089) (show Zg Try.prog 9 (x3.toNat * 3 + 1) (flatMap Qa a0) = some (vs ((a0.getD x3.toNat default).Stroke)) from (Xn ag9 Qa 3 1 Qx (by omega) a0 default h3087 (by omega)).trans rfl))
    have e3092 := (ti (ti (an h3087 (ti (an e3088 (ti (ti (ti (an (an (df h3089) tt) (an (an (df h3089) tt) (an (an (df h3089) h3087) (an (an (df h3089) tt) (an e3091 (an (an (df h3089) tt) (an (an (df h3089) tt) (an (df h3089) tt))))))))))))))))
    rcases ifs h with ⟨h3093, h⟩ | ⟨h3093, h⟩
    ·injection h with h; subst h
     exact Qv (c := ⟨[(2, none)], [], []⟩) (s1 := (Wh a0 ())) pm pn (ans := [.reg (nN 4 []), .br true, .reg (Qy2 a0 x3), .br true, .reg (.n :: [])]) (by kernel_rfl) (by intro e; cases e) (an (an (an (ti (ti (ti (ti tt)))) (an (dt h3086) tt)) (an e3092 (an (dt h3093) (an (ti tt) tt)))) (ti tt))
    ·have h2 := ih _ _ h
     obtain ⟨q, hv, hq⟩ := pkR (rd := none) (P := Try.prog) (fn := Try.f19) (k := 0) (s := (Qaf a0 x3)) (ans := [.reg (nN 4 []), .br true, .reg (Qy2 a0 x3), .br false, .reg (nN 3 [])]) (c := ⟨[(0, none), (3, none)], [], []⟩) (e := .normal) (s1 := (Qaf a0 (w64 (x3 + 1)))) (an (an (an (ti (ti (ti (ti tt)))) (an (dt h3086) tt)) (an (an e3092 (an (df h3093) tt)) (ti (ti (ti tt))))) (ti tt)) (by kernel_rfl)
     cases r with
     | inl r => exact Qw pm pn hv hq h2
     | inr r =>
      exact Qw pm pn hv hq h2
  ·injection h with h; subst h
   exact Qv (c := ⟨[(0, none)], [], []⟩) (s1 := (Yg a0 ())) pm pn (ans := [.reg (nN 4 []), .br false]) (by kernel_rfl) (by intro e; cases e) (an (an (ti (ti (ti (ti tt)))) (an (df h3086) tt)) (ti tt))
def Qao (k : Nat) (a0 : (List Qb)) : Option Bool :=
 (Xq k a0 k 0).bind fun r3095 => (match r3095 with | .inl r3096 => (some false) | .inr r3097 => (if (a0.length : Int) <= 10 then (some true) else (if 200 < (a0.length : Int) then (some (decide ((a0.length : Int) <= 203))) else (some false))))
theorem Qen (k : Nat) (a0 : (List Qb)) (r : Bool) (h : Qao k a0 = some r) : VC Try.prog 19 [VV.tr (flatMap Qa a0) a0.length] (vb r) := by
 unfold Qao at h
 obtain ⟨r3095, h3094, h⟩ := bs h
 have hph3094 := Qfr k a0 _ _ _ h3094
 cases r3095 with
 | inl r3096 =>
  dsimp only at h
  have e3098 := (an (ti tt) (VRun.loop hph3094))
  injection h with h; subst h
  exact Qq pm pn Try.func19 (r0 := vb false) (ans := [.reg (.n :: []), .reg (.n :: []), .sub ⟨[(0, none), (3, none)], [], []⟩ .ret (Wh a0 r3096)]) (fr := true) (by kernel_rfl) (an (an (ti tt) (an (ti tt) e3098)) (ti tt)) (Wv.refl _)
 | inr r3097 =>
  dsimp only at h
  have e3099 := (an (ti tt) (VRun.loop hph3094))
  rcases ifs h with ⟨h3100, h⟩ | ⟨h3100, h⟩
  ·have e3101 := (ti (ti (ti (ti (an (dt h3100) (an (dt h3100) (an (dt h3100) (an (dt h3100) (ti (ti (ti (an (dt h3100) (an (dt h3100) (ti tt))))))))))))))
   injection h with h; subst h
   exact Qq pm pn Try.func19 (r0 := vb true) (ans := [.reg (.n :: []), .reg (.n :: []), .sub ⟨[(0, none), (3, none)], [], []⟩ (.exit 0) (Yg a0 r3097), .reg (nN 4 (nS 8 (.b true :: .n :: [])))]) (fr := true) (by kernel_rfl) (an (an (ti tt) (an (an (ti tt) e3099) (an e3101 tt))) (ti tt)) (Wv.refl _)
  ·rcases ifs h with ⟨h3102, h⟩ | ⟨h3102, h⟩
   ·have e3103 := (an (df h3100) (dt h3102))
    have e3104 := (ti (ti (ti (ti (an (an (df h3100) tt) (an (an (df h3100) tt) (an (an (df h3100) tt) (an (an (df h3100) tt) (an (an (dt h3102) tt) (an (an (dt h3102) tt) (an (an (dt h3102) tt) (an e3103 (an (df h3100) (ti tt))))))))))))))
    injection h with h; subst h
    exact Qq pm pn Try.func19 (r0 := vb (decide ((a0.length : Int) <= 203))) (ans := [.reg (.n :: []), .reg (.n :: []), .sub ⟨[(0, none), (3, none)], [], []⟩ (.exit 0) (Yg a0 r3097), .reg (nN 11 (.b true :: .b false :: .n :: []))]) (fr := true) (by kernel_rfl) (an (an (ti tt) (an (an (ti tt) e3099) (an e3104 tt))) (ti tt)) (Wv.refl _)
   ·have e3105 := (an (df h3100) (df h3102))
    have e3106 := (ti (ti (ti (ti (an (an (df h3100) tt) (an (an (df h3100) tt) (an (an (df h3100) tt) (an (an (df h3100) tt) (an (df h3102) (an (df h3102) (an (df h3102) (an e3105 (an (df h3100) (ti tt))))))))))))))
    injection h with h; subst h
    exact Qq pm pn Try.func19 (r0 := vb false) (ans := [.reg (.n :: []), .reg (.n :: []), .sub ⟨[(0, none), (3, none)], [], []⟩ (.exit 0) (Yg a0 r3097), .reg (nN 8 (nS 3 (.b false :: .b false :: .n :: [])))]) (fr := true) (by kernel_rfl) (an (an (ti tt) (an (an (ti tt) e3099) (an e3106 tt))) (ti tt)) (Wv.refl _)
def Y2 (k : Nat) (a0 : (List Qb)) : Option (List Qb) :=
 if ([] : List Qb).length + a0.length <= 1000000000 then (some (([] : List Qb) ++ a0)) else none
theorem Qc4 (k : Nat) (a0 : (List Qb)) (r : (List Qb)) (h : Y2 k a0 = some r) : VC Try.prog 21 [VV.tr (flatMap Qa a0) a0.length] (VV.fw 3 (flatMap Qa r) r.length) := by
 unfold Y2 at h
 obtain ⟨h3109, h⟩ := ifn h
 have e3110 := (show List.length [] = 0 * 3 /\ List.length (flatMap Qa a0) = a0.length * 3 /\ (0 + a0.length) * 40 <= 140737488355328 /\ 0 + a0.length < 1099511627776 /\ List.all (flatMap Qa a0) VV.still = true from ⟨(by rw [show [] = flatMap Qa ([] : List Qb) from rfl]; rw [Qar Qx] <;> simp), (by rw [Qar Qx] <;> simp), (by first | omega | (simp at h3109 ⊢; omega)), (by first | omega | (simp at h3109 ⊢; omega)), (by exact Yd _)⟩)
 injection h with h; subst h
 exact Qq pm pn Try.func21 (r0 := VV.fw 3 (List.drop 0 (List.map unfr ([] ++ (flatMap Qa a0)))) (0 + a0.length)) (ans := [.reg (.n :: []), .reg (nN 4 [])]) (fr := true) (by kernel_rfl) (an (an (ti tt) (an (ti (ti (an e3110 (ti tt)))) tt)) (an (show List.all ([] ++ (flatMap Qa a0)) new0 = true from (by rw [show [] ++ (flatMap Qa a0) = flatMap Qa (([] : List Qb) ++ a0) from (by rw [show [] = flatMap Qa ([] : List Qb) from rfl]; exact List.flatMap_append.symm)]; exact Qc5 _)) tt)) (Wv.of_eq (by simp only [show [] ++ (flatMap Qa a0) = flatMap Qa (([] : List Qb) ++ a0) from (by rw [show [] = flatMap Qa ([] : List Qb) from rfl]; exact List.flatMap_append.symm), Jz, Zc, Zz, Xo, map_cons, map_nil, un_i, un_k, un_b, un_s, Jr, Qby, length_map, length_replicate, length_append, List.length_set, length_cons, length_nil, Nat.zero_add, Qm, Qr, Qk, Qj, Qn, Qo, Qe]))
def Yi (k : Nat) (a0 : (List Qd)) (a1 : (List Qb)) : Option ((List Qd) × (List Qb)) :=
 some (a0, a1)
theorem Qch (k : Nat) (a0 : (List Qd)) (a1 : (List Qb)) (r : ((List Qd) × (List Qb))) (h : Yi k a0 a1 = some r) : VC Try.prog 49 [VV.tr (flatMap Qc a0) a0.length, VV.tr (flatMap Qa a1) a1.length] (VV.fn 71 [VV.tp [VV.tr (flatMap Qc r.1) r.1.length] 0, VV.tp [VV.tr (flatMap Qa r.2) r.2.length] 0]) := by
 unfold Yi at h
 injection h with h; subst h
 exact Qq pm pn Try.func49 (r0 := VV.fn 71 [VV.tp [VV.tr (flatMap Qc a0) a0.length] 0, VV.tp [VV.tr (flatMap Qa a1) a1.length] 0]) (ans := [.reg (nN 3 []), .frz 0, .frz 1, .reg (.n :: .n :: [])]) (fr := false) (by kernel_rfl) (an (an (ti (ti (ti tt))) (an (ti (ti tt)) tt)) (ti tt)) (Wv.of_eq rfl)
def Qb8 (a0 : (List Qd)) (y0 : List (ByteArray × (List Int))) (x9 : Int) : VS := ⟨mkA [(3, VV.mp 0), (7, VV.tr (flatMap Qc a0) a0.length), (8, vi (a0.length : Int)), (9, vi x9)], [some ⟨true, bigX + 1, flatMap (mpE v_23) y0⟩], .nil⟩
def Qbz (a0 : (List Qd)) (r : (List (ByteArray × (List Int)))) : VS := ⟨mkA [(3, VV.mp 0)], [some ⟨true, bigX + 1, flatMap (mpE v_23) r⟩], .nil⟩
def Xv (k : Nat) (a0 : (List Qd)) : Nat -> (List (ByteArray × (List Int))) -> Int -> Option ((List (ByteArray × (List Int))))
 | 0, _, _ => none
 | fuel + 1, y0, x9 => if x9 < (a0.length : Int) then (if 0 <= x9 /\ x9 < (a0.length : Int) then (Xv k a0 fuel (mset y0 ((a0.getD x9.toNat default).Name) ((a0.getD x9.toNat default).Wear)) (w64 (x9 + 1))) else none) else (some y0)
theorem Qf3 (k : Nat) (a0 : (List Qd)) : ∀ (fuel : Nat) (y0 : List (ByteArray × (List Int))) (x9 : Int) (r : (List (ByteArray × (List Int)))), Xv k a0 fuel y0 x9 = some r -> (Y0 none Try.prog (szF Try.f72) (J5 Try.f72 0) (Qb8 a0 y0 x9) (.exit 0) (Qbz a0 r)) := by
 intro fuel
 induction fuel with
 | zero => intro y0 x9 r h; rw [Xv.eq_1] at h; cases h
 | succ fuel ih =>
  intro y0 x9 r h
  rw [Xv.eq_2] at h
  rcases ifs h with ⟨h3156, h⟩ | ⟨h3156, h⟩
  ·obtain ⟨h3157, h⟩ := ifn h
   have e3158 := (show Zg Try.prog 83 (x9.toNat * 2) (flatMap Qc a0) = some (VV.ag (Qc (a0.getD x9.toNat default))) from Qkg ag83 Qc 2 sz83 Q7 a0 default h3157 (by omega))
   have e3159 := (show Qhb (kdV (.string ((a0.getD x9.toNat default).Name))) (flatMap (mpE v_23) y0) = true from (Qef v_23 ((a0.getD x9.toNat default).Name) y0))
   have h2 := ih _ _ _ h
   obtain ⟨q, hv, hq⟩ := pkR (rd := none) (P := Try.prog) (fn := Try.f72) (k := 0) (s := (Qb8 a0 y0 x9)) (ans := [.reg (.n :: []), .br true, .reg (.n :: .v (VV.ag (Qc (a0.getD x9.toNat default))) :: .n :: .n :: []), .reg (nN 6 []), .reg (.n :: .n :: [])]) (c := ⟨[(3, none), (7, none), (8, none), (9, none)], [some (flatMap (mpE v_23) (mset y0 ((a0.getD x9.toNat default).Name) ((a0.getD x9.toNat default).Wear)))], []⟩) (e := .normal) (s1 := (Qb8 a0 (mset y0 ((a0.getD x9.toNat default).Name) ((a0.getD x9.toNat default).Wear)) (w64 (x9 + 1)))) (an (an (ti tt) (an (an (dt h3156) tt) (an (an (an h3157 (an e3158 (ti (ti tt)))) (ti (ti (ti (ti (ti (an e3159 tt))))))) (ti (ti tt))))) (ti (an (show upM (.string ((a0.getD x9.toNat default).Name)) (VV.tr (List.map vi ((a0.getD x9.toNat default).Wear)) (((a0.getD x9.toNat default).Wear).length)) (flatMap (mpE v_23) y0) = flatMap (mpE v_23) (mset y0 ((a0.getD x9.toNat default).Name) ((a0.getD x9.toNat default).Wear)) from (by exact Qh2 v_23 ((a0.getD x9.toNat default).Name) ((a0.getD x9.toNat default).Wear) y0)) tt))) (by kernel_rfl)
   exact Qw pm pn hv hq h2
  ·injection h with h; subst h
   exact Qv (c := ⟨[(3, none)], [none], []⟩) (s1 := (Qbz a0 y0)) pm pn (ans := [.reg (.n :: []), .br false]) (by kernel_rfl) (by intro e; cases e) (an (an (ti tt) (an (df h3156) tt)) (ti tt))
def Qa9 (k : Nat) (a0 : (List Qd)) : Option (List (ByteArray × (List Int))) :=
 (Xv k a0 k ([] : List (ByteArray × (List Int))) 0).bind fun r3161 => (some r3161)
theorem Qe1 (k : Nat) (a0 : (List Qd)) (r : (List (ByteArray × (List Int)))) (h : Qa9 k a0 = some r) : VC Try.prog 72 [VV.tr (flatMap Qc a0) a0.length] (VV.mt (flatMap (mpE v_23) r)) := by
 unfold Qa9 at h
 obtain ⟨r3161, h3160, h⟩ := bs h
 have hph3160 := Qf3 k a0 _ _ _ _ h3160
 have e3162 := (an (ti (an (show [] = flatMap (mpE v_23) ([] : List (ByteArray × (List Int))) from rfl) tt)) (VRun.loop hph3160))
 injection h with h; subst h
 exact Qq pm pn Try.func72 (r0 := VV.mt (List.map Qe7 (flatMap (mpE v_23) r3161))) (ans := [.reg (.n :: []), .reg (.n :: .n :: []), .reg (nN 3 []), .sub ⟨[(3, none), (7, none), (8, none), (9, none)], [some (flatMap (mpE v_23) ([] : List (ByteArray × (List Int))))], []⟩ (.exit 0) (Qbz a0 r3161), .reg (.n :: .n :: [])]) (fr := true) (by kernel_rfl) (an (an (ti tt) (an (ti (ti tt)) (an (an (ti (ti (ti tt))) e3162) (an (ti (ti tt)) tt)))) (ti tt)) (Wv.of_eq (by simp only [show List.map Qe7 (flatMap (mpE v_23) r3161) = flatMap (mpE v_23) r3161 from (by exact Qsl (fun _ => rfl) r3161), Jz, Zc, Zz, Xo, map_cons, map_nil, un_i, un_k, un_b, un_s, Jr, Qby, length_map, length_replicate, length_append, List.length_set, length_cons, length_nil, Nat.zero_add, Qm, Qr, Qk, Qj, Qn, Qo, Qe, Zp, Z8]))
def X9 (k : Nat) (a0 : Int) (a1 : ((List (ByteArray × (List Int))) × (List Qb))) : Option (Int × ((List (ByteArray × (List Int))) × (List Qb))) :=
 some (a0, a1)
theorem Qcn (k : Nat) (a0 : Int) (a1 : ((List (ByteArray × (List Int))) × (List Qb))) (r : (Int × ((List (ByteArray × (List Int))) × (List Qb)))) (h : X9 k a0 a1 = some r) : VC Try.prog 68 [vi a0, VV.fn 73 [VV.tp [VV.mt (flatMap (mpE v_23) a1.1)] 0, VV.tp [VV.tr (flatMap Qa a1.2) a1.2.length] 0]] (VV.fn 86 [VV.tp [vi r.1] 0, VV.tp [VV.fn 73 [VV.tp [VV.mt (flatMap (mpE v_23) r.2.1)] 0, VV.tp [VV.tr (flatMap Qa r.2.2) r.2.2.length] 0]] 0]) := by
 unfold X9 at h
 injection h with h; subst h
 exact Qq pm pn Try.func68 (r0 := VV.fn 86 [VV.tp [vi a0] 0, VV.tp [VV.fn 73 [VV.tp [VV.mt (flatMap (mpE v_23) a1.1)] 0, VV.tp [VV.tr (flatMap Qa a1.2) a1.2.length] 0]] 0]) (ans := [.reg (nN 3 []), .frz 0, .frz 1, .reg (.n :: .n :: [])]) (fr := false) (by kernel_rfl) (an (an (ti (ti (ti tt))) (an (ti (ti tt)) tt)) (ti tt)) (Wv.of_eq rfl)
theorem Q17 (z0 : (List Qb)) (z1 : (List (ByteArray × (List Int)))) : [vi (z0.length : Int), VV.fn 73 [VV.tp [VV.mt (flatMap (mpE v_23) ((z1, z0).1))] 0, VV.tp [VV.tr (flatMap Qa ((z1, z0).2)) (((z1, z0).2).length)] 0]] = [vi (z0.length : Int), VV.fn 73 [VV.tp [VV.mt (flatMap (mpE v_23) z1)] 0, VV.tp [VV.tr (flatMap Qa z0) z0.length] 0]] := by first | rfl | (simp only [Zc, map_cons, map_nil, un_i, Jr, length_cons, length_nil, Qe, Zp]; done) | (simp only [Zc, map_cons, map_nil, un_i, Jr, length_cons, length_nil, Qe, Zp]; rfl) | (simp only [Zc, map_cons, map_nil, un_i, Jr, length_cons, length_nil, Qe, Zp, Qa, length_cons, length_nil, length_append]; done)
theorem Qy3 (z0 : (List Qb)) (z1 : Int) : [vi 1, vi 10000, VV.tr (List.map vi ([(z0.getD z1.toNat default).Minutes] : List Int)) (([(z0.getD z1.toNat default).Minutes] : List Int).length)] = [vi 1, vi 10000, VV.tr [vi ((z0.getD z1.toNat default).Minutes)] 1] := by first | rfl | (simp only [Zc, map_cons, map_nil, un_i, Jr, length_map, length_cons, length_nil]; done) | (simp only [Zc, map_cons, map_nil, un_i, Jr, length_map, length_cons, length_nil]; rfl) | (simp only [Zc, map_cons, map_nil, un_i, Jr, length_map, length_cons, length_nil, length_cons, length_nil, length_append]; done)
def Qy4 (z0 : ((Bool × Int) × (Bool × Int) × ((List Int) × Int × Int))) : List Ans := (.n :: .v (VV.fn 78 [VV.tp [VV.tr (List.map vi z0.2.2.1) z0.2.2.1.length] 0, VV.tp [vi z0.2.2.2.1] 0, VV.tp [vi z0.2.2.2.2] 0]) :: .n :: [])
def Qz (k : Nat) (a0 : ((Bool × Int) × (Bool × Int) × ((List Int) × Int × Int))) : Option Int :=
 (Jt k a0.1.1 a0.1.2).bind fun r3224 => (if r3224 = 0 then ((Jt k a0.2.1.1 a0.2.1.2).bind fun r3230 => (if r3230 = 0 then ((Qbf k a0.2.2.1 a0.2.2.2.1 a0.2.2.2.2).bind fun r3236 => (if r3236 = 0 then (some 0) else (some r3236))) else (some r3230))) else (some r3224))
theorem X3 (k : Nat) (a0 : ((Bool × Int) × (Bool × Int) × ((List Int) × Int × Int))) (r : Int) (h : Qz k a0 = some r) : VC Try.prog 35 [VV.tr ([VV.fn 85 [VV.tp [vb a0.1.1] 0, VV.tp [vi a0.1.2] 0], VV.fn 85 [VV.tp [vb a0.2.1.1] 0, VV.tp [vi a0.2.1.2] 0], VV.fn 78 [VV.tp [VV.tr (List.map vi a0.2.2.1) a0.2.2.1.length] 0, VV.tp [vi a0.2.2.2.1] 0, VV.tp [vi a0.2.2.2.2] 0]]) 3] (vi r) := by
 unfold Qz at h
 have e3222 := (show (0 : Int) <= 0 /\ (0 : Int) < ((3 : Nat) : Int) from ⟨by decide, by decide⟩)
 have e3223 := (show Zg Try.prog 86 ((0 : Int).toNat * 1) ([VV.fn 85 [VV.tp [vb a0.1.1] 0, VV.tp [vi a0.1.2] 0], VV.fn 85 [VV.tp [vb a0.2.1.1] 0, VV.tp [vi a0.2.1.2] 0], VV.fn 78 [VV.tp [VV.tr (List.map vi a0.2.2.1) a0.2.2.1.length] 0, VV.tp [vi a0.2.2.2.1] 0, VV.tp [vi a0.2.2.2.2] 0]]) = some (VV.fn 85 [VV.tp [vb a0.1.1] 0, VV.tp [vi a0.1.2] 0]) from (Xb ag86 rfl))
 obtain ⟨r3224, h3225, h⟩ := bs h
 have e3226 := (Ju k a0.1.1 a0.1.2 _ h3225)
 rcases ifs h with ⟨h3227, h⟩ | ⟨h3227, h⟩
 ·have e3228 := (show (0 : Int) <= 1 /\ (1 : Int) < ((3 : Nat) : Int) from ⟨by decide, by decide⟩)
  have e3229 := (show Zg Try.prog 86 ((1 : Int).toNat * 1) ([VV.fn 85 [VV.tp [vb a0.1.1] 0, VV.tp [vi a0.1.2] 0], VV.fn 85 [VV.tp [vb a0.2.1.1] 0, VV.tp [vi a0.2.1.2] 0], VV.fn 78 [VV.tp [VV.tr (List.map vi a0.2.2.1) a0.2.2.1.length] 0, VV.tp [vi a0.2.2.2.1] 0, VV.tp [vi a0.2.2.2.2] 0]]) = some (VV.fn 85 [VV.tp [vb a0.2.1.1] 0, VV.tp [vi a0.2.1.2] 0]) from (Xb ag86 rfl))
  obtain ⟨r3230, h3231, h⟩ := bs h
  have e3232 := (Ju k a0.2.1.1 a0.2.1.2 _ h3231)
  rcases ifs h with ⟨h3233, h⟩ | ⟨h3233, h⟩
  ·have e3234 := (show (0 : Int) <= 2 /\ (2 : Int) < ((3 : Nat) : Int) from ⟨by decide, by decide⟩)
   have e3235 := (show Zg Try.prog 86 ((2 : Int).toNat * 1) ([VV.fn 85 [VV.tp [vb a0.1.1] 0, VV.tp [vi a0.1.2] 0], VV.fn 85 [VV.tp [vb a0.2.1.1] 0, VV.tp [vi a0.2.1.2] 0], VV.fn 78 [VV.tp [VV.tr (List.map vi a0.2.2.1) a0.2.2.1.length] 0, VV.tp [vi a0.2.2.2.1] 0, VV.tp [vi a0.2.2.2.2] 0]]) = some (VV.fn 78 [VV.tp [VV.tr (List.map vi a0.2.2.1) a0.2.2.1.length] 0, VV.tp [vi a0.2.2.2.1] 0, VV.tp [vi a0.2.2.2.2] 0]) from (Xb ag86 rfl))
   obtain ⟨r3236, h3237, h⟩ := bs h
   have e3238 := (Qds k a0.2.2.1 a0.2.2.2.1 a0.2.2.2.2 _ h3237)
   rcases ifs h with ⟨h3239, h⟩ | ⟨h3239, h⟩
   ·injection h with h; subst h
    exact Qq pm pn Try.func35 (r0 := vi 0) (ans := [.reg (.n :: []), .reg (nN 3 []), .unr 5, .reg (.n :: []), .br true, .reg (.n :: .v (VV.fn 85 [VV.tp [vb a0.1.1] 0, VV.tp [vi a0.1.2] 0]) :: .n :: []), .reg (.n :: .call (vi r3224) :: .n :: []), .reg (.n :: .n :: []), .br false, .reg (.n :: .n :: []), .reg (.n :: []), .br true, .reg (.n :: .v (VV.fn 85 [VV.tp [vb a0.2.1.1] 0, VV.tp [vi a0.2.1.2] 0]) :: .n :: []), .reg (.n :: .call (vi r3230) :: .n :: []), .reg (.n :: .n :: []), .br false, .reg (.n :: .n :: []), .reg (.n :: []), .br true, .reg (Qy4 a0), .reg (.n :: .call (vi r3236) :: .n :: []), .reg (.n :: .n :: []), .br false, .reg (.n :: .n :: []), .reg (.n :: []), .br false, .reg (.n :: [])]) (fr := true) (by kernel_rfl) (an (an (ti tt) (an (an (ti (ti (ti tt))) (an (an (ti tt) (an (an (show (decide ((0 : Int) < 3)) = true from (dt (by decide))) tt) (an (an (an e3222 (an e3223 (ti tt))) (an (ti (an e3226 (ti tt))) (an (ti (ti tt)) (an (Qs (dt h3227)) tt)))) (ti (ti tt))))) (an (an (ti tt) (an (an (show (decide ((1 : Int) < 3)) = true from (dt (by decide))) tt) (an (an (an e3228 (an e3229 (ti tt))) (an (ti (an e3232 (ti tt))) (an (ti (ti tt)) (an (Qs (dt h3233)) tt)))) (ti (ti tt))))) (an (an (ti tt) (an (an (show (decide ((2 : Int) < 3)) = true from (dt (by decide))) tt) (an (an (an e3234 (an e3235 (ti tt))) (an (ti (an e3238 (ti tt))) (an (ti (ti tt)) (an (Qs (dt h3239)) tt)))) (ti (ti tt))))) (an (ti tt) (an (show (decide ((3 : Int) < 3)) = false from (df (by decide))) tt)))))) (an (ti tt) tt))) (ti tt)) (Wv.refl _)
   ·injection h with h; subst h
    exact Qq pm pn Try.func35 (r0 := vi r3236) (ans := [.reg (.n :: []), .reg (nN 3 []), .unr 4, .reg (.n :: []), .br true, .reg (.n :: .v (VV.fn 85 [VV.tp [vb a0.1.1] 0, VV.tp [vi a0.1.2] 0]) :: .n :: []), .reg (.n :: .call (vi r3224) :: .n :: []), .reg (.n :: .n :: []), .br false, .reg (.n :: .n :: []), .reg (.n :: []), .br true, .reg (.n :: .v (VV.fn 85 [VV.tp [vb a0.2.1.1] 0, VV.tp [vi a0.2.1.2] 0]) :: .n :: []), .reg (.n :: .call (vi r3230) :: .n :: []), .reg (.n :: .n :: []), .br false, .reg (.n :: .n :: []), .reg (.n :: []), .br true, .reg (Qy4 a0), .reg (.n :: .call (vi r3236) :: .n :: []), .reg (.n :: .n :: []), .br true, .reg (.n :: .n :: [])]) (fr := true) (by kernel_rfl) (an (an (ti tt) (an (ti (ti (ti tt))) (an (an (ti tt) (an (an (show (decide ((0 : Int) < 3)) = true from (dt (by decide))) tt) (an (an (an e3222 (an e3223 (ti tt))) (an (ti (an e3226 (ti tt))) (an (ti (ti tt)) (an (Qs (dt h3227)) tt)))) (ti (ti tt))))) (an (an (ti tt) (an (an (show (decide ((1 : Int) < 3)) = true from (dt (by decide))) tt) (an (an (an e3228 (an e3229 (ti tt))) (an (ti (an e3232 (ti tt))) (an (ti (ti tt)) (an (Qs (dt h3233)) tt)))) (ti (ti tt))))) (an (ti tt) (an (an (show (decide ((2 : Int) < 3)) = true from (dt (by decide))) tt) (an (an e3234 (an e3235 (ti tt))) (an (ti (an e3238 (ti tt))) (an (ti (ti tt)) (an (Zj (df h3239)) (an (ti (ti tt)) tt))))))))))) (ti tt)) (Wv.refl _)
  ·injection h with h; subst h
   exact Qq pm pn Try.func35 (r0 := vi r3230) (ans := [.reg (.n :: []), .reg (nN 3 []), .unr 3, .reg (.n :: []), .br true, .reg (.n :: .v (VV.fn 85 [VV.tp [vb a0.1.1] 0, VV.tp [vi a0.1.2] 0]) :: .n :: []), .reg (.n :: .call (vi r3224) :: .n :: []), .reg (.n :: .n :: []), .br false, .reg (.n :: .n :: []), .reg (.n :: []), .br true, .reg (.n :: .v (VV.fn 85 [VV.tp [vb a0.2.1.1] 0, VV.tp [vi a0.2.1.2] 0]) :: .n :: []), .reg (.n :: .call (vi r3230) :: .n :: []), .reg (.n :: .n :: []), .br true, .reg (.n :: .n :: [])]) (fr := true) (by kernel_rfl) (an (an (ti tt) (an (ti (ti (ti tt))) (an (an (ti tt) (an (an (show (decide ((0 : Int) < 3)) = true from (dt (by decide))) tt) (an (an (an e3222 (an e3223 (ti tt))) (an (ti (an e3226 (ti tt))) (an (ti (ti tt)) (an (Qs (dt h3227)) tt)))) (ti (ti tt))))) (an (ti tt) (an (an (show (decide ((1 : Int) < 3)) = true from (dt (by decide))) tt) (an (an e3228 (an e3229 (ti tt))) (an (ti (an e3232 (ti tt))) (an (ti (ti tt)) (an (Zj (df h3233)) (an (ti (ti tt)) tt)))))))))) (ti tt)) (Wv.refl _)
 ·injection h with h; subst h
  exact Qq pm pn Try.func35 (r0 := vi r3224) (ans := [.reg (.n :: []), .reg (nN 3 []), .unr 2, .reg (.n :: []), .br true, .reg (.n :: .v (VV.fn 85 [VV.tp [vb a0.1.1] 0, VV.tp [vi a0.1.2] 0]) :: .n :: []), .reg (.n :: .call (vi r3224) :: .n :: []), .reg (.n :: .n :: []), .br true, .reg (.n :: .n :: [])]) (fr := true) (by kernel_rfl) (an (an (ti tt) (an (ti (ti (ti tt))) (an (ti tt) (an (an (show (decide ((0 : Int) < 3)) = true from (dt (by decide))) tt) (an (an e3222 (an e3223 (ti tt))) (an (ti (an e3226 (ti tt))) (an (ti (ti tt)) (an (Zj (df h3227)) (an (ti (ti tt)) tt))))))))) (ti tt)) (Wv.refl _)
theorem Qy5 (z0 : (Bool × Int)) (z1 : (Bool × Int)) (z2 : ((List Int) × Int × Int)) : [VV.tr ([VV.fn 85 [VV.tp [vb (((z0, z1, z2).1).1)] 0, VV.tp [vi (((z0, z1, z2).1).2)] 0], VV.fn 85 [VV.tp [vb (((z0, z1, z2).2.1).1)] 0, VV.tp [vi (((z0, z1, z2).2.1).2)] 0], VV.fn 78 [VV.tp [VV.tr (List.map vi (((z0, z1, z2).2.2).1)) ((((z0, z1, z2).2.2).1).length)] 0, VV.tp [vi (((z0, z1, z2).2.2).2.1)] 0, VV.tp [vi (((z0, z1, z2).2.2).2.2)] 0]]) 3] = [VV.tr (List.drop 0 (List.map unfr [VV.fn 85 [VV.tp [vb z0.1] 0, VV.tp [vi z0.2] 0], VV.fn 85 [VV.tp [vb z1.1] 0, VV.tp [vi z1.2] 0], VV.fn 78 [VV.tp [VV.tr (List.map vi z2.1) z2.1.length] 0, VV.tp [vi z2.2.1] 0, VV.tp [vi z2.2.2] 0]])) 3] := by first | rfl | (simp only [Jz, Zc, Zz, map_cons, map_nil, un_i, un_b, Jr, length_map, length_cons, length_nil]; done) | (simp only [Jz, Zc, Zz, map_cons, map_nil, un_i, un_b, Jr, length_map, length_cons, length_nil]; rfl) | (simp only [Jz, Zc, Zz, map_cons, map_nil, un_i, un_b, Jr, length_map, length_cons, length_nil, length_cons, length_nil, length_append]; done)
def Q18 (z0 : (List (ByteArray × (List Int)))) (z1 : (List Qb)) (z2 : Int) : List Ans := (.v (VV.mt (flatMap (mpE v_23) z0)) :: .v (VV.tr (flatMap Qa z1) z1.length) :: nN 3 (.v (vs ((z1.getD z2.toNat default).Stroke)) :: .v (VV.tr (List.map vi (mget z0 ((z1.getD z2.toNat default).Stroke))) ((mget z0 ((z1.getD z2.toNat default).Stroke)).length)) :: nN 5 []))
def Qy6 (z0 : (List Qb)) (z1 : Int) (z2 : (Bool × Int)) (z3 : (Bool × Int)) (z4 : ((List Int) × Int × Int)) (z5 : Int) : List Ans := (.v (VV.tr (flatMap Qa z0) z0.length) :: nN 3 (.v (vs ((z0.getD z1.toNat default).Mirror)) :: .call (VV.fn 85 [VV.tp [vb z2.1] 0, VV.tp [vi z2.2] 0]) :: .n :: .call (VV.fn 85 [VV.tp [vb z3.1] 0, VV.tp [vi z3.2] 0]) :: .v (VV.tr (flatMap Qa z0) z0.length) :: nN 3 (.v (vi ((z0.getD z1.toNat default).Minutes)) :: .v VV.any :: .call (VV.fn 78 [VV.tp [VV.tr (List.map vi z4.1) z4.1.length] 0, VV.tp [vi z4.2.1] 0, VV.tp [vi z4.2.2] 0]) :: .n :: .call (vi z5) :: .n :: [])))
def Q19 (z0 : (List (ByteArray × (List Int)))) (z1 : (List Qb)) (z2 : Int) : List Ans := (.v (VV.mt (flatMap (mpE v_23) z0)) :: .v (VV.tr (flatMap Qa z1) z1.length) :: nN 3 (.v (vs ((z1.getD z2.toNat default).Stroke)) :: .b false :: nN 5 []))
def Yx (k : Nat) (a0 : Int) (q0_0 : (List (ByteArray × (List Int)))) (q1_0 : (List Qb)) : Option Int :=
 if 0 <= a0 /\ a0 < (q1_0.length : Int) then (if mhas q0_0 ((q1_0.getD a0.toNat default).Stroke) = true then ((Y7 k ((q1_0.getD a0.toNat default).Mirror)).bind fun r3271 => ((Xd k true 6).bind fun r3274 => ((J7 k 1 10000 ([(q1_0.getD a0.toNat default).Minutes] : List Int)).bind fun r3278 => ((Qz k (r3271, r3274, r3278)).bind fun r3281 => (some r3281))))) else ((Y7 k ((q1_0.getD a0.toNat default).Mirror)).bind fun r3289 => ((Xd k false 6).bind fun r3292 => ((J7 k 1 10000 ([(q1_0.getD a0.toNat default).Minutes] : List Int)).bind fun r3296 => ((Qz k (r3289, r3292, r3296)).bind fun r3299 => (some r3299)))))) else none
theorem Qfk (k : Nat) (a0 : Int) (q0_0 : (List (ByteArray × (List Int)))) (q1_0 : (List Qb)) (r : Int) (h : Yx k a0 q0_0 q1_0 = some r) : VC Try.prog 73 [vi a0, VV.tp [VV.mt (flatMap (mpE v_23) q0_0)] 0, VV.tp [VV.tr (flatMap Qa q1_0) q1_0.length] 0] (vi r) := by
 unfold Yx at h
 have e3262 := (show Zg Try.prog 118 0 [VV.mt (flatMap (mpE v_23) q0_0)] = some (VV.mt (flatMap (mpE v_23) q0_0)) from (Xb Q3k rfl))
 have e3263 := (show Zg Try.prog 48 0 [VV.tr (flatMap Qa q1_0) q1_0.length] = some (VV.tr (flatMap Qa q1_0) q1_0.length) from (Xb ag48 rfl))
 obtain ⟨h3264, h⟩ := ifn h
 have e3265 := (show Zg Try.prog 9 (a0.toNat * 3 + 1) (flatMap Qa q1_0) = some (vs ((q1_0.getD a0.toNat default).Stroke)) from (Xn ag9 Qa 3 1 Qx (by omega) q1_0 default h3264 (by omega)).trans rfl)
 rcases ifs h with ⟨h3266, h⟩ | ⟨h3266, h⟩
 ·have e3267 := (show Qhb (kdV (.string ((q1_0.getD a0.toNat default).Stroke))) (flatMap (mpE v_23) q0_0) = true /\ lkM (.string ((q1_0.getD a0.toNat default).Stroke)) (flatMap (mpE v_23) q0_0) = some (VV.tr (List.map vi (mget q0_0 ((q1_0.getD a0.toNat default).Stroke))) ((mget q0_0 ((q1_0.getD a0.toNat default).Stroke)).length)) from ⟨(Qef v_23 ((q1_0.getD a0.toNat default).Stroke) q0_0), (Qny v_23 ((q1_0.getD a0.toNat default).Stroke) q0_0 h3266)⟩)
  have e3268 := (an e3262 (an e3263 (ti (an h3264 (ti (an e3265 (an e3267 (ti (ti (ti (ti (ti tt))))))))))))
  have e3269 := (show Zg Try.prog 48 0 [VV.tr (flatMap Qa q1_0) q1_0.length] = some (VV.tr (flatMap Qa q1_0) q1_0.length) from (Xb ag48 rfl))
  have e3270 := (show Zg Try.prog 9 (a0.toNat * 3 + 0) (flatMap Qa q1_0) = some (vs ((q1_0.getD a0.toNat default).Mirror)) from (Xn ag9 Qa 3 0 Qx (by omega) q1_0 default h3264 (by omega)).trans rfl)
  obtain ⟨r3271, h3272, h⟩ := bs h
  have e3273 := (Qcv k ((q1_0.getD a0.toNat default).Mirror) _ h3272)
  obtain ⟨r3274, h3275, h⟩ := bs h
  have e3276 := (show Zg Try.prog 48 0 [VV.tr (flatMap Qa q1_0) q1_0.length] = some (VV.tr (flatMap Qa q1_0) q1_0.length) from (Xb ag48 rfl))
  have e3277 := (show Zg Try.prog 3 (a0.toNat * 3 + 2) (flatMap Qa q1_0) = some (vi ((q1_0.getD a0.toNat default).Minutes)) from (Xn ag3 Qa 3 2 Qx (by omega) q1_0 default h3264 (by omega)).trans rfl)
  obtain ⟨r3278, h3279, h⟩ := bs h
  have e3280 := (VC.args (Qas k 1 10000 ([(q1_0.getD a0.toNat default).Minutes] : List Int) _ h3279) (Qy3 q1_0 a0))
  obtain ⟨r3281, h3282, h⟩ := bs h
  have e3283 := (VC.args (X3 k (r3271, r3274, r3278) _ h3282) (Qy5 r3271 r3274 r3278))
  have e3284 := (an e3269 (ti (an h3264 (ti (an e3270 (an e3273 (ti (an (Xw k true 6 _ h3275) (an e3276 (ti (an h3264 (ti (an e3277 (ti (an e3280 (ti (an e3283 (ti tt))))))))))))))))))
  injection h with h; subst h
  exact Qq pm pn Try.func73 (r0 := vi r3281) (ans := [.reg (.n :: []), .reg (Q18 q0_0 q1_0 a0), .reg (Qy6 q1_0 a0 r3271 r3274 r3278 r3281)]) (fr := true) (by kernel_rfl) (an (an (ti tt) (an e3268 (an e3284 tt))) (ti tt)) (Wv.refl _)
 ·have e3285 := (show Qhb (kdV (.string ((q1_0.getD a0.toNat default).Stroke))) (flatMap (mpE v_23) q0_0) = true /\ lkM (.string ((q1_0.getD a0.toNat default).Stroke)) (flatMap (mpE v_23) q0_0) = none from ⟨(Qef v_23 ((q1_0.getD a0.toNat default).Stroke) q0_0), (Qsj v_23 ((q1_0.getD a0.toNat default).Stroke) q0_0 (Zm h3266))⟩)
  have e3286 := (an e3262 (an e3263 (ti (an h3264 (ti (an e3265 (an e3285 (ti (ti (ti (ti (ti tt))))))))))))
  have e3287 := (show Zg Try.prog 48 0 [VV.tr (flatMap Qa q1_0) q1_0.length] = some (VV.tr (flatMap Qa q1_0) q1_0.length) from (Xb ag48 rfl))
  have e3288 := (show Zg Try.prog 9 (a0.toNat * 3 + 0) (flatMap Qa q1_0) = some (vs ((q1_0.getD a0.toNat default).Mirror)) from (Xn ag9 Qa 3 0 Qx (by omega) q1_0 default h3264 (by omega)).trans rfl)
  obtain ⟨r3289, h3290, h⟩ := bs h
  have e3291 := (Qcv k ((q1_0.getD a0.toNat default).Mirror) _ h3290)
  obtain ⟨r3292, h3293, h⟩ := bs h
  have e3294 := (show Zg Try.prog 48 0 [VV.tr (flatMap Qa q1_0) q1_0.length] = some (VV.tr (flatMap Qa q1_0) q1_0.length) from (Xb ag48 rfl))
  have e3295 := (show Zg Try.prog 3 (a0.toNat * 3 + 2) (flatMap Qa q1_0) = some (vi ((q1_0.getD a0.toNat default).Minutes)) from (Xn ag3 Qa 3 2 Qx (by omega) q1_0 default h3264 (by omega)).trans rfl)
  obtain ⟨r3296, h3297, h⟩ := bs h
  have e3298 := (VC.args (Qas k 1 10000 ([(q1_0.getD a0.toNat default).Minutes] : List Int) _ h3297) (Qy3 q1_0 a0))
  obtain ⟨r3299, h3300, h⟩ := bs h
  have e3301 := (VC.args (X3 k (r3289, r3292, r3296) _ h3300) (Qy5 r3289 r3292 r3296))
  have e3302 := (an e3287 (ti (an h3264 (ti (an e3288 (an e3291 (ti (an (Xw k false 6 _ h3293) (an e3294 (ti (an h3264 (ti (an e3295 (ti (an e3298 (ti (an e3301 (ti tt))))))))))))))))))
  injection h with h; subst h
  exact Qq pm pn Try.func73 (r0 := vi r3299) (ans := [.reg (.n :: []), .reg (Q19 q0_0 q1_0 a0), .reg (Qy6 q1_0 a0 r3289 r3292 r3296 r3299)]) (fr := true) (by kernel_rfl) (an (an (ti tt) (an e3286 (an e3302 tt))) (ti tt)) (Wv.refl _)
def Qy7 (z0 : ((List (ByteArray × (List Int))) × (List Qb))) (z1 : Int) : List Ans := (.v (VV.fn 73 [VV.tp [VV.mt (flatMap (mpE v_23) z0.1)] 0, VV.tp [VV.tr (flatMap Qa z0.2) z0.2.length] 0]) :: .n :: .call (vi z1) :: .n :: [])
def Xh (q0_0 : Int) (q1_0 : ((List (ByteArray × (List Int))) × (List Qb))) (x6 : Int) : VS := ⟨mkA [(1, VV.tp [VV.fn 73 [VV.tp [VV.mt (flatMap (mpE v_23) q1_0.1)] 0, VV.tp [VV.tr (flatMap Qa q1_0.2) q1_0.2.length] 0]] 0), (5, vi q0_0), (6, vi x6)], [], .nil⟩
def X4 (q0_0 : Int) (q1_0 : ((List (ByteArray × (List Int))) × (List Qb))) (r : Int) : VS := ⟨mkA [(2, vi r)], [], .nil⟩
def X5 (q0_0 : Int) (q1_0 : ((List (ByteArray × (List Int))) × (List Qb))) (r : Unit) : VS := ⟨mkA [], [], .nil⟩
def Qy (k : Nat) (q0_0 : Int) (q1_0 : ((List (ByteArray × (List Int))) × (List Qb))) : Nat -> Int -> Option (Sum Int Unit)
 | 0, _ => none
 | fuel + 1, x6 => if x6 < q0_0 then ((Yx k x6 q1_0.1 q1_0.2).bind fun r3340 => (if r3340 = 0 then (Qy k q0_0 q1_0 fuel (w64 (x6 + 1))) else (some (.inl r3340)))) else (some (.inr ()))
theorem Qb0 (k : Nat) (q0_0 : Int) (q1_0 : ((List (ByteArray × (List Int))) × (List Qb))) : ∀ (fuel : Nat) (x6 : Int) (r : Sum Int Unit), Qy k q0_0 q1_0 fuel x6 = some r -> (match r with | .inl r => Y0 none Try.prog (szF Try.f86) (J5 Try.f86 0) (Xh q0_0 q1_0 x6) .ret (X4 q0_0 q1_0 r) | .inr r => Y0 none Try.prog (szF Try.f86) (J5 Try.f86 0) (Xh q0_0 q1_0 x6) (.exit 0) (X5 q0_0 q1_0 r)) := by
 intro fuel
 induction fuel with
 | zero => intro x6 r h; rw [Qy.eq_1] at h; cases h
 | succ fuel ih =>
  intro x6 r h
  rw [Qy.eq_2] at h
  rcases ifs h with ⟨h3338, h⟩ | ⟨h3338, h⟩
  ·have e3339 := (show Zg Try.prog 117 0 [VV.fn 73 [VV.tp [VV.mt (flatMap (mpE v_23) q1_0.1)] 0, VV.tp [VV.tr (flatMap Qa q1_0.2) q1_0.2.length] 0]] = some (VV.fn 73 [VV.tp [VV.mt (flatMap (mpE v_23) q1_0.1)] 0, VV.tp [VV.tr (flatMap Qa q1_0.2) q1_0.2.length] 0]) from (Xb Q2a rfl))
   obtain ⟨r3340, h3341, h⟩ := bs h
   have e3342 := (Qfk k x6 q1_0.1 q1_0.2 _ h3341)
   rcases ifs h with ⟨h3343, h⟩ | ⟨h3343, h⟩
   ·have h2 := ih _ _ h
    obtain ⟨q, hv, hq⟩ := pkR (rd := none) (P := Try.prog) (fn := Try.f86) (k := 0) (s := (Xh q0_0 q1_0 x6)) (ans := [.reg (.n :: []), .br true, .reg (.n :: .n :: []), .reg (Qy7 q1_0 r3340), .reg (.n :: .n :: []), .br false, .reg (.n :: .n :: [])]) (c := ⟨[(1, none), (5, none), (6, none)], [], []⟩) (e := .normal) (s1 := (Xh q0_0 q1_0 (w64 (x6 + 1)))) (an (an (ti tt) (an (an (dt h3338) tt) (an (an (ti (ti tt)) (an (an e3339 (ti (an e3342 (ti tt)))) (an (ti (ti tt)) (an (Qs (dt h3343)) tt)))) (ti (ti tt))))) (ti tt)) (by kernel_rfl)
    cases r with
    | inl r => exact Qw pm pn hv hq h2
    | inr r =>
     exact Qw pm pn hv hq h2
   ·injection h with h; subst h
    exact Qv (c := ⟨[(2, none)], [], []⟩) (s1 := (X4 q0_0 q1_0 r3340)) pm pn (ans := [.reg (.n :: []), .br true, .reg (.n :: .n :: []), .reg (Qy7 q1_0 r3340), .reg (.n :: .n :: []), .br true, .reg (.n :: .n :: [])]) (by kernel_rfl) (by intro e; cases e) (an (an (ti tt) (an (an (dt h3338) tt) (an (ti (ti tt)) (an (an e3339 (ti (an e3342 (ti tt)))) (an (ti (ti tt)) (an (Zj (df h3343)) (an (ti (ti tt)) tt))))))) (ti tt))
  ·injection h with h; subst h
   exact Qv (c := ⟨[], [], []⟩) (s1 := (X5 q0_0 q1_0 ())) pm pn (ans := [.reg (.n :: []), .br false]) (by kernel_rfl) (by intro e; cases e) (an (an (ti tt) (an (df h3338) tt)) (ti tt))
def Xz (k : Nat) (q0_0 : Int) (q1_0 : ((List (ByteArray × (List Int))) × (List Qb))) : Option Int :=
 (Qy k q0_0 q1_0 k 0).bind fun r3345 => (match r3345 with | .inl r3346 => (some r3346) | .inr r3347 => (some 0))
theorem Qcm (k : Nat) (q0_0 : Int) (q1_0 : ((List (ByteArray × (List Int))) × (List Qb))) (r : Int) (h : Xz k q0_0 q1_0 = some r) : VC Try.prog 86 [VV.tp [vi q0_0] 0, VV.tp [VV.fn 73 [VV.tp [VV.mt (flatMap (mpE v_23) q1_0.1)] 0, VV.tp [VV.tr (flatMap Qa q1_0.2) q1_0.2.length] 0]] 0] (vi r) := by
 unfold Xz at h
 have e3325 := (show Zg Try.prog 3 0 [vi q0_0] = some (vi q0_0) from (Xb ag3 rfl))
 obtain ⟨r3345, h3344, h⟩ := bs h
 have hph3344 := Qb0 k q0_0 q1_0 _ _ _ h3344
 cases r3345 with
 | inl r3346 =>
  dsimp only at h
  have e3348 := (an (ti tt) (VRun.loop hph3344))
  injection h with h; subst h
  exact Qq pm pn Try.func86 (r0 := vi r3346) (ans := [.reg (.n :: []), .reg (.v (vi q0_0) :: .n :: []), .sub ⟨[(1, none), (5, none), (6, none)], [], []⟩ .ret (X4 q0_0 q1_0 r3346)]) (fr := true) (by kernel_rfl) (an (an (ti tt) (an (an e3325 (ti tt)) e3348)) (ti tt)) (Wv.refl _)
 | inr r3347 =>
  dsimp only at h
  have e3349 := (an (ti tt) (VRun.loop hph3344))
  injection h with h; subst h
  exact Qq pm pn Try.func86 (r0 := vi 0) (ans := [.reg (.n :: []), .reg (.v (vi q0_0) :: .n :: []), .sub ⟨[(1, none), (5, none), (6, none)], [], []⟩ (.exit 0) (X5 q0_0 q1_0 r3347), .reg (.n :: [])]) (fr := true) (by kernel_rfl) (an (an (ti tt) (an (an (an e3325 (ti tt)) e3349) (an (ti tt) tt))) (ti tt)) (Wv.refl _)
def Qy8 (z0 : ((Bool × Int) × (Int × ((List (ByteArray × (List Int))) × (List Qb))))) : List Ans := (.n :: .v (VV.fn 86 [VV.tp [vi z0.2.1] 0, VV.tp [VV.fn 73 [VV.tp [VV.mt (flatMap (mpE v_23) z0.2.2.1)] 0, VV.tp [VV.tr (flatMap Qa z0.2.2.2) z0.2.2.2.length] 0]] 0]) :: .n :: [])
def Zh (k : Nat) (a0 : ((Bool × Int) × (Int × ((List (ByteArray × (List Int))) × (List Qb))))) : Option Int :=
 (Jt k a0.1.1 a0.1.2).bind fun r3356 => (if r3356 = 0 then ((Xz k a0.2.1 a0.2.2).bind fun r3362 => (if r3362 = 0 then (some 0) else (some r3362))) else (some r3356))
theorem Yj (k : Nat) (a0 : ((Bool × Int) × (Int × ((List (ByteArray × (List Int))) × (List Qb))))) (r : Int) (h : Zh k a0 = some r) : VC Try.prog 35 [VV.tr ([VV.fn 85 [VV.tp [vb a0.1.1] 0, VV.tp [vi a0.1.2] 0], VV.fn 86 [VV.tp [vi a0.2.1] 0, VV.tp [VV.fn 73 [VV.tp [VV.mt (flatMap (mpE v_23) a0.2.2.1)] 0, VV.tp [VV.tr (flatMap Qa a0.2.2.2) a0.2.2.2.length] 0]] 0]]) 2] (vi r) := by
 unfold Zh at h
 have e3354 := (show (0 : Int) <= 0 /\ (0 : Int) < ((2 : Nat) : Int) from ⟨by decide, by decide⟩)
 have e3355 := (show Zg Try.prog 86 ((0 : Int).toNat * 1) ([VV.fn 85 [VV.tp [vb a0.1.1] 0, VV.tp [vi a0.1.2] 0], VV.fn 86 [VV.tp [vi a0.2.1] 0, VV.tp [VV.fn 73 [VV.tp [VV.mt (flatMap (mpE v_23) a0.2.2.1)] 0, VV.tp [VV.tr (flatMap Qa a0.2.2.2) a0.2.2.2.length] 0]] 0]]) = some (VV.fn 85 [VV.tp [vb a0.1.1] 0, VV.tp [vi a0.1.2] 0]) from (Xb ag86 rfl))
 obtain ⟨r3356, h3357, h⟩ := bs h
 have e3358 := (Ju k a0.1.1 a0.1.2 _ h3357)
 rcases ifs h with ⟨h3359, h⟩ | ⟨h3359, h⟩
 ·have e3360 := (show (0 : Int) <= 1 /\ (1 : Int) < ((2 : Nat) : Int) from ⟨by decide, by decide⟩)
  have e3361 := (show Zg Try.prog 86 ((1 : Int).toNat * 1) ([VV.fn 85 [VV.tp [vb a0.1.1] 0, VV.tp [vi a0.1.2] 0], VV.fn 86 [VV.tp [vi a0.2.1] 0, VV.tp [VV.fn 73 [VV.tp [VV.mt (flatMap (mpE v_23) a0.2.2.1)] 0, VV.tp [VV.tr (flatMap Qa a0.2.2.2) a0.2.2.2.length] 0]] 0]]) = some (VV.fn 86 [VV.tp [vi a0.2.1] 0, VV.tp [VV.fn 73 [VV.tp [VV.mt (flatMap (mpE v_23) a0.2.2.1)] 0, VV.tp [VV.tr (flatMap Qa a0.2.2.2) a0.2.2.2.length] 0]] 0]) from (Xb ag86 rfl))
  obtain ⟨r3362, h3363, h⟩ := bs h
  have e3364 := (Qcm k a0.2.1 a0.2.2 _ h3363)
  rcases ifs h with ⟨h3365, h⟩ | ⟨h3365, h⟩
  ·injection h with h; subst h
   exact Qq pm pn Try.func35 (r0 := vi 0) (ans := [.reg (.n :: []), .reg (nN 3 []), .unr 4, .reg (.n :: []), .br true, .reg (.n :: .v (VV.fn 85 [VV.tp [vb a0.1.1] 0, VV.tp [vi a0.1.2] 0]) :: .n :: []), .reg (.n :: .call (vi r3356) :: .n :: []), .reg (.n :: .n :: []), .br false, .reg (.n :: .n :: []), .reg (.n :: []), .br true, .reg (Qy8 a0), .reg (.n :: .call (vi r3362) :: .n :: []), .reg (.n :: .n :: []), .br false, .reg (.n :: .n :: []), .reg (.n :: []), .br false, .reg (.n :: [])]) (fr := true) (by kernel_rfl) (an (an (ti tt) (an (an (ti (ti (ti tt))) (an (an (ti tt) (an (an (show (decide ((0 : Int) < 2)) = true from (dt (by decide))) tt) (an (an (an e3354 (an e3355 (ti tt))) (an (ti (an e3358 (ti tt))) (an (ti (ti tt)) (an (Qs (dt h3359)) tt)))) (ti (ti tt))))) (an (an (ti tt) (an (an (show (decide ((1 : Int) < 2)) = true from (dt (by decide))) tt) (an (an (an e3360 (an e3361 (ti tt))) (an (ti (an e3364 (ti tt))) (an (ti (ti tt)) (an (Qs (dt h3365)) tt)))) (ti (ti tt))))) (an (ti tt) (an (show (decide ((2 : Int) < 2)) = false from (df (by decide))) tt))))) (an (ti tt) tt))) (ti tt)) (Wv.refl _)
  ·injection h with h; subst h
   exact Qq pm pn Try.func35 (r0 := vi r3362) (ans := [.reg (.n :: []), .reg (nN 3 []), .unr 3, .reg (.n :: []), .br true, .reg (.n :: .v (VV.fn 85 [VV.tp [vb a0.1.1] 0, VV.tp [vi a0.1.2] 0]) :: .n :: []), .reg (.n :: .call (vi r3356) :: .n :: []), .reg (.n :: .n :: []), .br false, .reg (.n :: .n :: []), .reg (.n :: []), .br true, .reg (Qy8 a0), .reg (.n :: .call (vi r3362) :: .n :: []), .reg (.n :: .n :: []), .br true, .reg (.n :: .n :: [])]) (fr := true) (by kernel_rfl) (an (an (ti tt) (an (ti (ti (ti tt))) (an (an (ti tt) (an (an (show (decide ((0 : Int) < 2)) = true from (dt (by decide))) tt) (an (an (an e3354 (an e3355 (ti tt))) (an (ti (an e3358 (ti tt))) (an (ti (ti tt)) (an (Qs (dt h3359)) tt)))) (ti (ti tt))))) (an (ti tt) (an (an (show (decide ((1 : Int) < 2)) = true from (dt (by decide))) tt) (an (an e3360 (an e3361 (ti tt))) (an (ti (an e3364 (ti tt))) (an (ti (ti tt)) (an (Zj (df h3365)) (an (ti (ti tt)) tt)))))))))) (ti tt)) (Wv.refl _)
 ·injection h with h; subst h
  exact Qq pm pn Try.func35 (r0 := vi r3356) (ans := [.reg (.n :: []), .reg (nN 3 []), .unr 2, .reg (.n :: []), .br true, .reg (.n :: .v (VV.fn 85 [VV.tp [vb a0.1.1] 0, VV.tp [vi a0.1.2] 0]) :: .n :: []), .reg (.n :: .call (vi r3356) :: .n :: []), .reg (.n :: .n :: []), .br true, .reg (.n :: .n :: [])]) (fr := true) (by kernel_rfl) (an (an (ti tt) (an (ti (ti (ti tt))) (an (ti tt) (an (an (show (decide ((0 : Int) < 2)) = true from (dt (by decide))) tt) (an (an e3354 (an e3355 (ti tt))) (an (ti (an e3358 (ti tt))) (an (ti (ti tt)) (an (Zj (df h3359)) (an (ti (ti tt)) tt))))))))) (ti tt)) (Wv.refl _)
theorem Q2b (z0 : (Bool × Int)) (z1 : (Int × ((List (ByteArray × (List Int))) × (List Qb)))) : [VV.tr ([VV.fn 85 [VV.tp [vb (((z0, z1).1).1)] 0, VV.tp [vi (((z0, z1).1).2)] 0], VV.fn 86 [VV.tp [vi (((z0, z1).2).1)] 0, VV.tp [VV.fn 73 [VV.tp [VV.mt (flatMap (mpE v_23) ((((z0, z1).2).2).1))] 0, VV.tp [VV.tr (flatMap Qa ((((z0, z1).2).2).2)) (((((z0, z1).2).2).2).length)] 0]] 0]]) 2] = [VV.tr (List.drop 0 (List.map unfr [VV.fn 85 [VV.tp [vb z0.1] 0, VV.tp [vi z0.2] 0], VV.fn 86 [VV.tp [vi z1.1] 0, VV.tp [VV.fn 73 [VV.tp [VV.mt (flatMap (mpE v_23) z1.2.1)] 0, VV.tp [VV.tr (flatMap Qa z1.2.2) z1.2.2.length] 0]] 0]])) 2] := by first | rfl | (simp only [Jz, Zc, Zz, map_cons, map_nil, un_i, un_b, Jr, length_map, length_cons, length_nil, Qe, Zp]; done) | (simp only [Jz, Zc, Zz, map_cons, map_nil, un_i, un_b, Jr, length_map, length_cons, length_nil, Qe, Zp]; rfl) | (simp only [Jz, Zc, Zz, map_cons, map_nil, un_i, un_b, Jr, length_map, length_cons, length_nil, Qe, Zp, Qa, length_cons, length_nil, length_append]; done)
def Q2c (z0 : (List Qd)) (z1 : (List (ByteArray × (List Int)))) : List Ans := (.v (VV.tr (flatMap Qc z0) z0.length) :: .call (VV.mt (flatMap (mpE v_23) z1)) :: .n :: .n :: [])
def Q2d (z0 : (List Qb)) (z1 : (Bool × Int)) (z2 : (Int × ((List (ByteArray × (List Int))) × (List Qb)))) (z3 : Int) : List Ans := (.v (VV.tr (flatMap Qa z0) z0.length) :: .n :: .n :: .call (VV.fn 85 [VV.tp [vb z1.1] 0, VV.tp [vi z1.2] 0]) :: .v (VV.tr (flatMap Qa z0) z0.length) :: .n :: .n :: .call (VV.fn 86 [VV.tp [vi z2.1] 0, VV.tp [VV.fn 73 [VV.tp [VV.mt (flatMap (mpE v_23) z2.2.1)] 0, VV.tp [VV.tr (flatMap Qa z2.2.2) z2.2.2.length] 0]] 0]) :: .n :: .call (vi z3) :: .n :: [])
def J4 (k : Nat) (q0_0 : (List Qd)) (q1_0 : (List Qb)) : Option Int :=
 (Qa9 k q0_0).bind fun r3371 => ((Xd k (decide ((q1_0.length : Int) <= 200)) 8).bind fun r3375 => ((X9 k (q1_0.length : Int) (r3371, q1_0)).bind fun r3379 => ((Zh k (r3375, r3379)).bind fun r3382 => (some r3382))))
theorem Qb1 (k : Nat) (q0_0 : (List Qd)) (q1_0 : (List Qb)) (r : Int) (h : J4 k q0_0 q1_0 = some r) : VC Try.prog 71 [VV.tp [VV.tr (flatMap Qc q0_0) q0_0.length] 0, VV.tp [VV.tr (flatMap Qa q1_0) q1_0.length] 0] (vi r) := by
 unfold J4 at h
 have e3370 := (show Zg Try.prog 22 0 [VV.tr (flatMap Qc q0_0) q0_0.length] = some (VV.tr (flatMap Qc q0_0) q0_0.length) from (Xb ag22 rfl))
 obtain ⟨r3371, h3372, h⟩ := bs h
 have e3373 := (an e3370 (an (Qe1 k q0_0 _ h3372) (ti (ti tt))))
 have e3374 := (show Zg Try.prog 48 0 [VV.tr (flatMap Qa q1_0) q1_0.length] = some (VV.tr (flatMap Qa q1_0) q1_0.length) from (Xb ag48 rfl))
 obtain ⟨r3375, h3376, h⟩ := bs h
 have e3377 := (Xw k (decide ((q1_0.length : Int) <= 200)) 8 _ h3376)
 have e3378 := (show Zg Try.prog 48 0 [VV.tr (flatMap Qa q1_0) q1_0.length] = some (VV.tr (flatMap Qa q1_0) q1_0.length) from (Xb ag48 rfl))
 obtain ⟨r3379, h3380, h⟩ := bs h
 have e3381 := (VC.args (Qcn k (q1_0.length : Int) (r3371, q1_0) _ h3380) (Q17 q1_0 r3371))
 obtain ⟨r3382, h3383, h⟩ := bs h
 have e3384 := (VC.args (Yj k (r3375, r3379) _ h3383) (Q2b r3375 r3379))
 have e3385 := (an e3374 (ti (ti (an e3377 (an e3378 (ti (ti (an e3381 (ti (an e3384 (ti tt)))))))))))
 injection h with h; subst h
 exact Qq pm pn Try.func71 (r0 := vi r3382) (ans := [.reg (.n :: []), .reg (Q2c q0_0 r3371), .frz 0, .reg (Q2d q1_0 r3375 r3379 r3382)]) (fr := true) (by kernel_rfl) (an (an (ti tt) (an e3373 (an e3385 tt))) (ti tt)) (Wv.refl _)
def Qsm (z0 : ((List Qd) × ((List Int) × (List Int) × (List Qd)) × ((List Qd) × (List Qb)))) : List Ans := (.n :: .v (VV.fn 64 [VV.tp [VV.tr (flatMap Qc z0.1) z0.1.length] 0]) :: .n :: [])
def Qqw (z0 : ((List Qd) × ((List Int) × (List Int) × (List Qd)) × ((List Qd) × (List Qb)))) : List Ans := (.n :: .v (VV.fn 66 [VV.tp [VV.tr (List.map vi z0.2.1.1) z0.2.1.1.length, VV.tr (List.map vi z0.2.1.2.1) z0.2.1.2.1.length] 0, VV.tp [VV.tr (flatMap Qc z0.2.1.2.2) z0.2.1.2.2.length] 0]) :: .n :: [])
def Qvf (z0 : ((List Qd) × ((List Int) × (List Int) × (List Qd)) × ((List Qd) × (List Qb)))) : List Ans := (.n :: .v (VV.fn 71 [VV.tp [VV.tr (flatMap Qc z0.2.2.1) z0.2.2.1.length] 0, VV.tp [VV.tr (flatMap Qa z0.2.2.2) z0.2.2.2.length] 0]) :: .n :: [])
def Qu (k : Nat) (a0 : ((List Qd) × ((List Int) × (List Int) × (List Qd)) × ((List Qd) × (List Qb)))) : Option Int :=
 (Yy k a0.1).bind fun r3392 => (if r3392 = 0 then ((Y5 k a0.2.1.1 a0.2.1.2.1 a0.2.1.2.2).bind fun r3398 => (if r3398 = 0 then ((J4 k a0.2.2.1 a0.2.2.2).bind fun r3404 => (if r3404 = 0 then (some 0) else (some r3404))) else (some r3398))) else (some r3392))
theorem Jo (k : Nat) (a0 : ((List Qd) × ((List Int) × (List Int) × (List Qd)) × ((List Qd) × (List Qb)))) (r : Int) (h : Qu k a0 = some r) : VC Try.prog 35 [VV.tr ([VV.fn 64 [VV.tp [VV.tr (flatMap Qc a0.1) a0.1.length] 0], VV.fn 66 [VV.tp [VV.tr (List.map vi a0.2.1.1) a0.2.1.1.length, VV.tr (List.map vi a0.2.1.2.1) a0.2.1.2.1.length] 0, VV.tp [VV.tr (flatMap Qc a0.2.1.2.2) a0.2.1.2.2.length] 0], VV.fn 71 [VV.tp [VV.tr (flatMap Qc a0.2.2.1) a0.2.2.1.length] 0, VV.tp [VV.tr (flatMap Qa a0.2.2.2) a0.2.2.2.length] 0]]) 3] (vi r) := by
 unfold Qu at h
 have e3390 := (show (0 : Int) <= 0 /\ (0 : Int) < ((3 : Nat) : Int) from ⟨by decide, by decide⟩)
 have e3391 := (show Zg Try.prog 86 ((0 : Int).toNat * 1) ([VV.fn 64 [VV.tp [VV.tr (flatMap Qc a0.1) a0.1.length] 0], VV.fn 66 [VV.tp [VV.tr (List.map vi a0.2.1.1) a0.2.1.1.length, VV.tr (List.map vi a0.2.1.2.1) a0.2.1.2.1.length] 0, VV.tp [VV.tr (flatMap Qc a0.2.1.2.2) a0.2.1.2.2.length] 0], VV.fn 71 [VV.tp [VV.tr (flatMap Qc a0.2.2.1) a0.2.2.1.length] 0, VV.tp [VV.tr (flatMap Qa a0.2.2.2) a0.2.2.2.length] 0]]) = some (VV.fn 64 [VV.tp [VV.tr (flatMap Qc a0.1) a0.1.length] 0]) from (Xb ag86 rfl))
 obtain ⟨r3392, h3393, h⟩ := bs h
 have e3394 := (Qdm k a0.1 _ h3393)
 rcases ifs h with ⟨h3395, h⟩ | ⟨h3395, h⟩
 ·have e3396 := (show (0 : Int) <= 1 /\ (1 : Int) < ((3 : Nat) : Int) from ⟨by decide, by decide⟩)
  have e3397 := (show Zg Try.prog 86 ((1 : Int).toNat * 1) ([VV.fn 64 [VV.tp [VV.tr (flatMap Qc a0.1) a0.1.length] 0], VV.fn 66 [VV.tp [VV.tr (List.map vi a0.2.1.1) a0.2.1.1.length, VV.tr (List.map vi a0.2.1.2.1) a0.2.1.2.1.length] 0, VV.tp [VV.tr (flatMap Qc a0.2.1.2.2) a0.2.1.2.2.length] 0], VV.fn 71 [VV.tp [VV.tr (flatMap Qc a0.2.2.1) a0.2.2.1.length] 0, VV.tp [VV.tr (flatMap Qa a0.2.2.2) a0.2.2.2.length] 0]]) = some (VV.fn 66 [VV.tp [VV.tr (List.map vi a0.2.1.1) a0.2.1.1.length, VV.tr (List.map vi a0.2.1.2.1) a0.2.1.2.1.length] 0, VV.tp [VV.tr (flatMap Qc a0.2.1.2.2) a0.2.1.2.2.length] 0]) from (Xb ag86 rfl))
  obtain ⟨r3398, h3399, h⟩ := bs h
  have e3400 := (Qdt k a0.2.1.1 a0.2.1.2.1 a0.2.1.2.2 _ h3399)
  rcases ifs h with ⟨h3401, h⟩ | ⟨h3401, h⟩
  ·have e3402 := (show (0 : Int) <= 2 /\ (2 : Int) < ((3 : Nat) : Int) from ⟨by decide, by decide⟩)
   have e3403 := (show Zg Try.prog 86 ((2 : Int).toNat * 1) ([VV.fn 64 [VV.tp [VV.tr (flatMap Qc a0.1) a0.1.length] 0], VV.fn 66 [VV.tp [VV.tr (List.map vi a0.2.1.1) a0.2.1.1.length, VV.tr (List.map vi a0.2.1.2.1) a0.2.1.2.1.length] 0, VV.tp [VV.tr (flatMap Qc a0.2.1.2.2) a0.2.1.2.2.length] 0], VV.fn 71 [VV.tp [VV.tr (flatMap Qc a0.2.2.1) a0.2.2.1.length] 0, VV.tp [VV.tr (flatMap Qa a0.2.2.2) a0.2.2.2.length] 0]]) = some (VV.fn 71 [VV.tp [VV.tr (flatMap Qc a0.2.2.1) a0.2.2.1.length] 0, VV.tp [VV.tr (flatMap Qa a0.2.2.2) a0.2.2.2.length] 0]) from (Xb ag86 rfl))
   obtain ⟨r3404, h3405, h⟩ := bs h
   have e3406 := (Qb1 k a0.2.2.1 a0.2.2.2 _ h3405)
   rcases ifs h with ⟨h3407, h⟩ | ⟨h3407, h⟩
   ·injection h with h; subst h
    exact Qq pm pn Try.func35 (r0 := vi 0) (ans := [.reg (.n :: []), .reg (nN 3 []), .unr 5, .reg (.n :: []), .br true, .reg (Qsm a0), .reg (.n :: .call (vi r3392) :: .n :: []), .reg (.n :: .n :: []), .br false, .reg (.n :: .n :: []), .reg (.n :: []), .br true, .reg (Qqw a0), .reg (.n :: .call (vi r3398) :: .n :: []), .reg (.n :: .n :: []), .br false, .reg (.n :: .n :: []), .reg (.n :: []), .br true, .reg (Qvf a0), .reg (.n :: .call (vi r3404) :: .n :: []), .reg (.n :: .n :: []), .br false, .reg (.n :: .n :: []), .reg (.n :: []), .br false, .reg (.n :: [])]) (fr := true) (by kernel_rfl) (an (an (ti tt) (an (an (ti (ti (ti tt))) (an (an (ti tt) (an (an (show (decide ((0 : Int) < 3)) = true from (dt (by decide))) tt) (an (an (an e3390 (an e3391 (ti tt))) (an (ti (an e3394 (ti tt))) (an (ti (ti tt)) (an (Qs (dt h3395)) tt)))) (ti (ti tt))))) (an (an (ti tt) (an (an (show (decide ((1 : Int) < 3)) = true from (dt (by decide))) tt) (an (an (an e3396 (an e3397 (ti tt))) (an (ti (an e3400 (ti tt))) (an (ti (ti tt)) (an (Qs (dt h3401)) tt)))) (ti (ti tt))))) (an (an (ti tt) (an (an (show (decide ((2 : Int) < 3)) = true from (dt (by decide))) tt) (an (an (an e3402 (an e3403 (ti tt))) (an (ti (an e3406 (ti tt))) (an (ti (ti tt)) (an (Qs (dt h3407)) tt)))) (ti (ti tt))))) (an (ti tt) (an (show (decide ((3 : Int) < 3)) = false from (df (by decide))) tt)))))) (an (ti tt) tt))) (ti tt)) (Wv.refl _)
   ·injection h with h; subst h
    exact Qq pm pn Try.func35 (r0 := vi r3404) (ans := [.reg (.n :: []), .reg (nN 3 []), .unr 4, .reg (.n :: []), .br true, .reg (Qsm a0), .reg (.n :: .call (vi r3392) :: .n :: []), .reg (.n :: .n :: []), .br false, .reg (.n :: .n :: []), .reg (.n :: []), .br true, .reg (Qqw a0), .reg (.n :: .call (vi r3398) :: .n :: []), .reg (.n :: .n :: []), .br false, .reg (.n :: .n :: []), .reg (.n :: []), .br true, .reg (Qvf a0), .reg (.n :: .call (vi r3404) :: .n :: []), .reg (.n :: .n :: []), .br true, .reg (.n :: .n :: [])]) (fr := true) (by kernel_rfl) (an (an (ti tt) (an (ti (ti (ti tt))) (an (an (ti tt) (an (an (show (decide ((0 : Int) < 3)) = true from (dt (by decide))) tt) (an (an (an e3390 (an e3391 (ti tt))) (an (ti (an e3394 (ti tt))) (an (ti (ti tt)) (an (Qs (dt h3395)) tt)))) (ti (ti tt))))) (an (an (ti tt) (an (an (show (decide ((1 : Int) < 3)) = true from (dt (by decide))) tt) (an (an (an e3396 (an e3397 (ti tt))) (an (ti (an e3400 (ti tt))) (an (ti (ti tt)) (an (Qs (dt h3401)) tt)))) (ti (ti tt))))) (an (ti tt) (an (an (show (decide ((2 : Int) < 3)) = true from (dt (by decide))) tt) (an (an e3402 (an e3403 (ti tt))) (an (ti (an e3406 (ti tt))) (an (ti (ti tt)) (an (Zj (df h3407)) (an (ti (ti tt)) tt))))))))))) (ti tt)) (Wv.refl _)
  ·injection h with h; subst h
   exact Qq pm pn Try.func35 (r0 := vi r3398) (ans := [.reg (.n :: []), .reg (nN 3 []), .unr 3, .reg (.n :: []), .br true, .reg (Qsm a0), .reg (.n :: .call (vi r3392) :: .n :: []), .reg (.n :: .n :: []), .br false, .reg (.n :: .n :: []), .reg (.n :: []), .br true, .reg (Qqw a0), .reg (.n :: .call (vi r3398) :: .n :: []), .reg (.n :: .n :: []), .br true, .reg (.n :: .n :: [])]) (fr := true) (by kernel_rfl) (an (an (ti tt) (an (ti (ti (ti tt))) (an (an (ti tt) (an (an (show (decide ((0 : Int) < 3)) = true from (dt (by decide))) tt) (an (an (an e3390 (an e3391 (ti tt))) (an (ti (an e3394 (ti tt))) (an (ti (ti tt)) (an (Qs (dt h3395)) tt)))) (ti (ti tt))))) (an (ti tt) (an (an (show (decide ((1 : Int) < 3)) = true from (dt (by decide))) tt) (an (an e3396 (an e3397 (ti tt))) (an (ti (an e3400 (ti tt))) (an (ti (ti tt)) (an (Zj (df h3401)) (an (ti (ti tt)) tt)))))))))) (ti tt)) (Wv.refl _)
 ·injection h with h; subst h
  exact Qq pm pn Try.func35 (r0 := vi r3392) (ans := [.reg (.n :: []), .reg (nN 3 []), .unr 2, .reg (.n :: []), .br true, .reg (Qsm a0), .reg (.n :: .call (vi r3392) :: .n :: []), .reg (.n :: .n :: []), .br true, .reg (.n :: .n :: [])]) (fr := true) (by kernel_rfl) (an (an (ti tt) (an (ti (ti (ti tt))) (an (ti tt) (an (an (show (decide ((0 : Int) < 3)) = true from (dt (by decide))) tt) (an (an e3390 (an e3391 (ti tt))) (an (ti (an e3394 (ti tt))) (an (ti (ti tt)) (an (Zj (df h3395)) (an (ti (ti tt)) tt))))))))) (ti tt)) (Wv.refl _)
theorem Q2e (z0 : (List Qd)) (z1 : ((List Int) × (List Int) × (List Qd))) (z2 : ((List Qd) × (List Qb))) : [VV.tr ([VV.fn 64 [VV.tp [VV.tr (flatMap Qc ((z0, z1, z2).1)) (((z0, z1, z2).1).length)] 0], VV.fn 66 [VV.tp [VV.tr (List.map vi (((z0, z1, z2).2.1).1)) ((((z0, z1, z2).2.1).1).length), VV.tr (List.map vi (((z0, z1, z2).2.1).2.1)) ((((z0, z1, z2).2.1).2.1).length)] 0, VV.tp [VV.tr (flatMap Qc (((z0, z1, z2).2.1).2.2)) ((((z0, z1, z2).2.1).2.2).length)] 0], VV.fn 71 [VV.tp [VV.tr (flatMap Qc (((z0, z1, z2).2.2).1)) ((((z0, z1, z2).2.2).1).length)] 0, VV.tp [VV.tr (flatMap Qa (((z0, z1, z2).2.2).2)) ((((z0, z1, z2).2.2).2).length)] 0]]) 3] = [VV.tr (List.drop 0 (List.map unfr [VV.fn 64 [VV.tp [VV.tr (flatMap Qc z0) z0.length] 0], VV.fn 66 [VV.tp [VV.tr (List.map vi z1.1) z1.1.length, VV.tr (List.map vi z1.2.1) z1.2.1.length] 0, VV.tp [VV.tr (flatMap Qc z1.2.2) z1.2.2.length] 0], VV.fn 71 [VV.tp [VV.tr (flatMap Qc z2.1) z2.1.length] 0, VV.tp [VV.tr (flatMap Qa z2.2) z2.2.length] 0]])) 3] := by first | rfl | (simp only [Jz, Zc, map_cons, map_nil, un_i, Jr, length_map, length_cons, length_nil, Qm, Qe]; done) | (simp only [Jz, Zc, map_cons, map_nil, un_i, Jr, length_map, length_cons, length_nil, Qm, Qe]; rfl) | (simp only [Jz, Zc, map_cons, map_nil, un_i, Jr, length_map, length_cons, length_nil, Qm, Qe, Qc, Qa, length_cons, length_nil, length_append]; done)
def Zq (k : Nat) (a0 : (List Qb)) : Option (List Qb) :=
 if ([] : List Qb).length + a0.length <= 1000000000 then (some (([] : List Qb) ++ a0)) else none
theorem Qbh (k : Nat) (a0 : (List Qb)) (r : (List Qb)) (h : Zq k a0 = some r) : VC Try.prog 50 [VV.tr (flatMap Qa a0) a0.length] (VV.fw 3 (flatMap Qa r) r.length) := by
 unfold Zq at h
 rcases Nat.eq_zero_or_pos a0.length with hz0 | h3416
 ·obtain rfl := List.length_eq_zero_iff.1 hz0
  obtain ⟨hz1, h⟩ := ifn h
  injection h with h; subst h
  exact (show VC Try.prog 50 [VV.tr [] 0] (VV.fw 3 [] 0) from VC.Qy9 (pre := []) (post := []) (Qq pm pn Try.func50 (r0 := VV.c (.slice none 0 0)) (ans := [.reg (.n :: []), .reg (.n :: .n :: []), .br true, .reg (.n :: [])]) (fr := true) (by kernel_rfl) (an (an (ti tt) (an (ti (ti tt)) (an rt (an (ti tt) tt)))) (ti tt)) Wv.Qmb) (Qq pm pn Try.func50 (r0 := VV.fw 3 (List.drop 0 (List.map unfr ([] ++ []))) (0 + 0)) (ans := [.reg (.n :: []), .reg (.n :: .n :: []), .br false, .reg (nN 4 [])]) (fr := true) (by kernel_rfl) (an (an (ti tt) (an (an (ti (ti tt)) (an rf tt)) (an (ti (ti (an (show List.length ([] : List VV) = 0 * 3 /\ List.length ([] : List VV) = 0 * 3 /\ (0 + 0) * 40 <= 140737488355328 /\ 0 + 0 < 1099511627776 /\ List.all ([] : List VV) VV.still = true from by decide) (ti tt)))) tt))) (an (show List.all (([] : List VV) ++ []) new0 = true from rfl) tt)) (Wv.refl _)))
 ·obtain ⟨h3417, h⟩ := ifn h
  have e3418 := (show List.length [] = 0 * 3 /\ List.length (flatMap Qa a0) = a0.length * 3 /\ (0 + a0.length) * 40 <= 140737488355328 /\ 0 + a0.length < 1099511627776 /\ List.all (flatMap Qa a0) VV.still = true from ⟨(by rw [show [] = flatMap Qa ([] : List Qb) from rfl]; rw [Qar Qx] <;> simp), (by rw [Qar Qx] <;> simp), (by first | omega | (simp at h3417 ⊢; omega)), (by first | omega | (simp at h3417 ⊢; omega)), (by exact Yd _)⟩)
  injection h with h; subst h
  exact Qq pm pn Try.func50 (r0 := VV.fw 3 (List.drop 0 (List.map unfr ([] ++ (flatMap Qa a0)))) (0 + a0.length)) (ans := [.reg (.n :: []), .reg (.n :: .n :: []), .br false, .reg (nN 4 [])]) (fr := true) (by kernel_rfl) (an (an (ti tt) (an (an (ti (an h3416 tt)) (an rf tt)) (an (ti (ti (an e3418 (ti tt)))) tt))) (an (show List.all ([] ++ (flatMap Qa a0)) new0 = true from (by rw [show [] ++ (flatMap Qa a0) = flatMap Qa (([] : List Qb) ++ a0) from (by rw [show [] = flatMap Qa ([] : List Qb) from rfl]; exact List.flatMap_append.symm)]; exact Qc5 _)) tt)) (Wv.of_eq (by simp only [show [] ++ (flatMap Qa a0) = flatMap Qa (([] : List Qb) ++ a0) from (by rw [show [] = flatMap Qa ([] : List Qb) from rfl]; exact List.flatMap_append.symm), Jz, Zc, Zz, Xo, map_cons, map_nil, un_i, un_k, un_b, un_s, Jr, Qby, length_map, length_replicate, length_append, List.length_set, length_cons, length_nil, Nat.zero_add, Qm, Qr, Qk, Qj, Qn, Qo, Qe, Zp, Z8]))
def Qba (k : Nat) (a0 : (List Qd)) (a1 : Qg) (a2 : (List Qb)) (a3 : ByteArray) : Option ((List Qd) × (List Qb) × ByteArray × (List Int) × (List Int)) :=
 some (a0, a2, a3, a1.Low, a1.High)
theorem Qe2 (k : Nat) (a0 : (List Qd)) (a1 : Qg) (a2 : (List Qb)) (a3 : ByteArray) (r : ((List Qd) × (List Qb) × ByteArray × (List Int) × (List Int))) (h : Qba k a0 a1 a2 a3 = some r) : VC Try.prog 51 [VV.tr (flatMap Qc a0) a0.length, VV.ag (Ze a1), VV.tr (flatMap Qa a2) a2.length, vs a3] (VV.fn 74 [VV.tp [VV.tr (flatMap Qc r.1) r.1.length] 0, VV.tp [VV.tr (flatMap Qa r.2.1) r.2.1.length] 0, VV.tp [vs r.2.2.1] 0, VV.tp [VV.tr (List.map vi r.2.2.2.1) r.2.2.2.1.length, VV.tr (List.map vi r.2.2.2.2) r.2.2.2.2.length] 0]) := by
 unfold Qba at h
 injection h with h; subst h
 exact Qq pm pn Try.func51 (r0 := VV.fn 74 [VV.tp [VV.tr (flatMap Qc a0) a0.length] 0, VV.tp [VV.tr (flatMap Qa a2) a2.length] 0, VV.tp [vs a3] 0, VV.tp [VV.tr (List.map vi a1.Low) a1.Low.length, VV.tr (List.map vi a1.High) a1.High.length] 0]) (ans := [.reg (nN 5 []), .frz 0, .frz 1, .frz 2, .frz 3, .reg (.n :: .n :: [])]) (fr := false) (by kernel_rfl) (an (an (ti (ti (ti (ti (ti tt))))) (an (ti (ti tt)) tt)) (ti tt)) (Wv.of_eq rfl)
def Q0a (z0 : (List (ByteArray × (List Int)))) (z1 : (List Qb)) (z2 : Int) (z3 : Int) : List Ans := (.n :: .n :: .v (vi ((mget z0 ((z1.getD z2.toNat default).Stroke)).getD z3.toNat 0)) :: .n :: .n :: [])
def Q0b (z0 : (List (ByteArray × (List Int)))) (z1 : (List Qb)) (z2 : Int) : List Ans := (nN 3 (.v (VV.tr (List.map vi (mget z0 ((z1.getD z2.toNat default).Stroke))) ((mget z0 ((z1.getD z2.toNat default).Stroke)).length)) :: .n :: .n :: []))
def Qc6 (a1 : (List Qb)) (a2 : ByteArray) (x20 : Int) (x7 : (List (ByteArray × (List Int)))) (y0z : List Int) (x33 : Int) : VS := ⟨mkA [(2, vs a2), (7, VV.mt (flatMap (mpE v_23) x7)), (8, VV.rf 0 0 y0z.length), (10, VV.pt 1 0), (18, VV.tr (flatMap Qa a1) a1.length), (19, vi (a1.length : Int)), (20, vi x20), (31, VV.tr (List.map vi (mget x7 ((a1.getD x20.toNat default).Stroke))) ((mget x7 ((a1.getD x20.toNat default).Stroke)).length)), (32, vi ((mget x7 ((a1.getD x20.toNat default).Stroke)).length : Int)), (33, vi x33)], [some ⟨false, 1, List.map vi y0z⟩, some ⟨true, 1, Qa (a1.getD x20.toNat default)⟩], .nil⟩
def Qcw (a1 : (List Qb)) (a2 : ByteArray) (x20 : Int) (x7 : (List (ByteArray × (List Int)))) (r : (List (ByteArray × (List Int))) × (List Int)) : VS := ⟨mkA [(2, vs a2), (7, VV.mt (flatMap (mpE v_23) r.1)), (8, VV.rf 0 0 r.2.length), (18, VV.tr (flatMap Qa a1) a1.length), (19, vi (a1.length : Int)), (20, vi x20)], [some ⟨false, 1, List.map vi r.2⟩], .nil⟩
def J8 (k : Nat) (a1 : (List Qb)) (a2 : ByteArray) (x20 : Int) (x7 : (List (ByteArray × (List Int)))) : Nat -> (List Int) -> Int -> Option ((List (ByteArray × (List Int))) × (List Int))
 | 0, _, _ => none
 | fuel + 1, y0z, x33 => if x33 < ((mget x7 ((a1.getD x20.toNat default).Stroke)).length : Int) then (if 0 <= x33 /\ x33 < ((mget x7 ((a1.getD x20.toNat default).Stroke)).length : Int) then (if 0 <= x33 /\ x33 < (y0z.length : Int) then (J8 k a1 a2 x20 x7 fuel (y0z.set x33.toNat (w64 ((y0z.getD x33.toNat 0) + (w64 (((a1.getD x20.toNat default).Minutes) * ((mget x7 ((a1.getD x20.toNat default).Stroke)).getD x33.toNat 0)))))) (w64 (x33 + 1))) else none) else none) else (some (x7, y0z))
theorem Qhc (k : Nat) (a1 : (List Qb)) (a2 : ByteArray) (x20 : Int) (x7 : (List (ByteArray × (List Int)))) : ∀ (fuel : Nat) (y0z : List Int) (x33 : Int) (r : (List (ByteArray × (List Int))) × (List Int)), J8 k a1 a2 x20 x7 fuel y0z x33 = some r -> (Y0 none Try.prog (szF Try.f56) (J5 Try.f56 1) (Qc6 a1 a2 x20 x7 y0z x33) (.exit 2) (Qcw a1 a2 x20 x7 r)) := by
 intro fuel
 induction fuel with
 | zero => intro y0z x33 r h; rw [J8.eq_1] at h; cases h
 | succ fuel ih =>
  intro y0z x33 r h
  rw [J8.eq_2] at h
  rcases ifs h with ⟨h3654, h⟩ | ⟨h3654, h⟩
  ·obtain ⟨h3655, h⟩ := ifn h
   have e3656 := (show Zg Try.prog 3 (x33.toNat * 1) (List.map vi (mget x7 ((a1.getD x20.toNat default).Stroke))) = some (vi ((mget x7 ((a1.getD x20.toNat default).Stroke)).getD x33.toNat 0)) from Qb4 ag3 vi (mget x7 ((a1.getD x20.toNat default).Stroke)) 0 h3655 (by omega))
   obtain ⟨h3657, h⟩ := ifn h
   have e3658 := (show Zg Try.prog 3 (0 + x33.toNat * 1) (List.map vi y0z) = some (vi (y0z.getD x33.toNat 0)) from Qb4 ag3 vi y0z 0 h3657 (by omega))
   have e3659 := (show (0 + x33.toNat * 1) + 1 <= List.length (List.map vi y0z) from (by simp only [length_map]; omega))
   have e3660 := (ti (ti (an h3657 (an e3658 (ti (ti (ti (ti (ti (an h3657 (an e3659 tt)))))))))))
   have h2 := ih _ _ _ h
   obtain ⟨q, hv, hq⟩ := pkR (rd := none) (P := Try.prog) (fn := Try.f56) (k := 1) (s := (Qc6 a1 a2 x20 x7 y0z x33)) (ans := [.reg (.n :: []), .br true, .reg (Q0a x7 a1 x20 x33), .reg (nN 3 (.v (vi (y0z.getD x33.toNat 0)) :: nN 7 [])), .reg (.n :: .n :: [])]) (c := ⟨[(2, none), (7, none), (8, some (VV.rf 0 0 ((y0z.set x33.toNat (w64 ((y0z.getD x33.toNat 0) + (w64 (((a1.getD x20.toNat default).Minutes) * ((mget x7 ((a1.getD x20.toNat default).Stroke)).getD x33.toNat 0)))))).length))), (10, none), (18, none), (19, none), (20, none), (31, none), (32, none), (33, none)], [some (List.map vi (y0z.set x33.toNat (w64 ((y0z.getD x33.toNat 0) + (w64 (((a1.getD x20.toNat default).Minutes) * ((mget x7 ((a1.getD x20.toNat default).Stroke)).getD x33.toNat 0))))))), none], []⟩) (e := .normal) (s1 := (Qc6 a1 a2 x20 x7 (y0z.set x33.toNat (w64 ((y0z.getD x33.toNat 0) + (w64 (((a1.getD x20.toNat default).Minutes) * ((mget x7 ((a1.getD x20.toNat default).Stroke)).getD x33.toNat 0)))))) (w64 (x33 + 1)))) (an (an (ti tt) (an (an (dt h3654) tt) (an (an (ti (an h3655 (an e3656 (ti (ti tt))))) e3660) (ti (ti tt))))) (an (an (show Wv (VV.rf 0 0 y0z.length) (VV.rf 0 0 ((y0z.set x33.toNat (w64 ((y0z.getD x33.toNat 0) + (w64 (((a1.getD x20.toNat default).Minutes) * ((mget x7 ((a1.getD x20.toNat default).Stroke)).getD x33.toNat 0)))))).length)) from (Wv.of_eq (by simp))) tt) (an (show putT (0 + x33.toNat * 1) (List.map vi y0z) [vi (w64 ((y0z.getD x33.toNat 0) + (w64 (((a1.getD x20.toNat default).Minutes) * ((mget x7 ((a1.getD x20.toNat default).Stroke)).getD x33.toNat 0)))))] = List.map vi (y0z.set x33.toNat (w64 ((y0z.getD x33.toNat 0) + (w64 (((a1.getD x20.toNat default).Minutes) * ((mget x7 ((a1.getD x20.toNat default).Stroke)).getD x33.toNat 0)))))) from (by exact Qnz y0z h3657 (w64 ((y0z.getD x33.toNat 0) + (w64 (((a1.getD x20.toNat default).Minutes) * ((mget x7 ((a1.getD x20.toNat default).Stroke)).getD x33.toNat 0))))) (by omega))) tt))) (by kernel_rfl)
   exact Qw pm pn hv hq h2
  ·injection h with h; subst h
   exact Qv (c := ⟨[(2, none), (7, none), (8, none), (18, none), (19, none), (20, none)], [none], []⟩) (s1 := (Qcw a1 a2 x20 x7 (x7, y0z))) pm pn (ans := [.reg (.n :: []), .br false]) (by kernel_rfl) (by intro e; cases e) (an (an (ti tt) (an (df h3654) tt)) (ti tt))
def Qhy (a1 : (List Qb)) (a2 : ByteArray) (y0 : List Int) (x20 : Int) (x7 : (List (ByteArray × (List Int))))  : VS := ⟨mkA [(2, vs a2), (7, VV.mt (flatMap (mpE v_23) x7)), (8, VV.rf 0 0 y0.length), (10, VV.pt 1 0), (18, VV.tr (flatMap Qa a1) a1.length), (19, vi (a1.length : Int)), (20, vi x20), (31, VV.c (.slice none 0 0)), (32, vi 0), (33, vi 0)], [some ⟨false, 1, List.map vi y0⟩, some ⟨true, 1, Qa (a1.getD x20.toNat default)⟩], .nil⟩
def Qcx (a1 : (List Qb)) (a2 : ByteArray) (y0 : List Int) (x20 : Int) (x7 : (List (ByteArray × (List Int)))) (r : (List (ByteArray × (List Int)))) : VS := ⟨mkA [(2, vs a2), (7, VV.mt (flatMap (mpE v_23) r)), (8, VV.rf 0 0 y0.length), (18, VV.tr (flatMap Qa a1) a1.length), (19, vi (a1.length : Int)), (20, vi x20)], [some ⟨false, 1, List.map vi y0⟩], .nil⟩
def Qcq (k : Nat) (a1 : (List Qb)) (a2 : ByteArray) (y0 : List Int) (x20 : Int) (x7 : (List (ByteArray × (List Int)))) : Nat -> Option ((List (ByteArray × (List Int))))
 | 0 => none
 | fuel + 1 => some x7
theorem Qhd (k : Nat) (a1 : (List Qb)) (a2 : ByteArray) (y0 : List Int) (x20 : Int) (x7 : (List (ByteArray × (List Int)))) : ∀ (fuel : Nat)  (r : (List (ByteArray × (List Int)))), Qcq k a1 a2 y0 x20 x7 fuel  = some r -> (Y0 none Try.prog (szF Try.f56) (J5 Try.f56 1) (Qhy a1 a2 y0 x20 x7 ) (.exit 2) (Qcx a1 a2 y0 x20 x7 r)) := by
 intro fuel
 induction fuel with
 | zero => intro  r h; rw [Qcq.eq_1] at h; cases h
 | succ fuel ih =>
  intro  r h
  rw [Qcq.eq_2] at h
  injection h with h; subst h
  exact Qv (c := ⟨[(2, none), (7, none), (8, none), (18, none), (19, none), (20, none)], [none], []⟩) (s1 := (Qcx a1 a2 y0 x20 x7 x7)) pm pn (ans := [.reg (.n :: []), .br false]) (by kernel_rfl) (by intro e; cases e) (an (an (ti tt) (an (show (decide ((0 : Int) < 0)) = false from (df (by decide))) tt)) (ti tt))
def Yk (a1 : (List Qb)) (a2 : ByteArray) (y0 : List Int) (x20 : Int) (x7 : (List (ByteArray × (List Int)))) : VS := ⟨mkA [(2, vs a2), (7, VV.mt (flatMap (mpE v_23) x7)), (8, VV.rf 0 0 y0.length), (18, VV.tr (flatMap Qa a1) a1.length), (19, vi (a1.length : Int)), (20, vi x20)], [some ⟨false, 1, List.map vi y0⟩], .nil⟩
def Qcy (a1 : (List Qb)) (a2 : ByteArray) (r : (List Int)) : VS := ⟨mkA [(8, VV.rf 0 0 r.length)], [some ⟨false, 1, List.map vi r⟩], .nil⟩
def X0 (k : Nat) (a1 : (List Qb)) (a2 : ByteArray) : Nat -> (List Int) -> Int -> (List (ByteArray × (List Int))) -> Option ((List Int))
 | 0, _, _, _ => none
 | fuel + 1, y0, x20, x7 => if x20 < (a1.length : Int) then (if 0 <= x20 /\ x20 < (a1.length : Int) then (if ((a1.getD x20.toNat default).Mirror) = a2 then (if mhas x7 ((a1.getD x20.toNat default).Stroke) = true then ((J8 k a1 a2 x20 x7 k y0 0).bind fun r3662 => (X0 k a1 a2 fuel r3662.2 (w64 (x20 + 1)) r3662.1)) else ((Qcq k a1 a2 y0 x20 x7 k).bind fun r3666 => (X0 k a1 a2 fuel y0 (w64 (x20 + 1)) r3666))) else (X0 k a1 a2 fuel y0 (w64 (x20 + 1)) x7)) else none) else (some y0)
theorem Qhe (k : Nat) (a1 : (List Qb)) (a2 : ByteArray) : ∀ (fuel : Nat) (y0 : List Int) (x20 : Int) (x7 : (List (ByteArray × (List Int)))) (r : (List Int)), X0 k a1 a2 fuel y0 x20 x7 = some r -> (Y0 none Try.prog (szF Try.f56) (J5 Try.f56 0) (Yk a1 a2 y0 x20 x7) (.exit 0) (Qcy a1 a2 r)) := by
 intro fuel
 induction fuel with
 | zero => intro y0 x20 x7 r h; rw [X0.eq_1] at h; cases h
 | succ fuel ih =>
  intro y0 x20 x7 r h
  rw [X0.eq_2] at h
  rcases ifs h with ⟨h3634, h⟩ | ⟨h3634, h⟩
  ·obtain ⟨h3635, h⟩ := ifn h
   have e3636 := (show Zg Try.prog 50 (x20.toNat * 3) (flatMap Qa a1) = some (VV.ag (Qa (a1.getD x20.toNat default))) from Qkg ag50 Qa 3 sz50 Qx a1 default h3635 (by omega))
   rcases ifs h with ⟨h3637, h⟩ | ⟨h3637, h⟩
   ·rcases ifs h with ⟨h3638, h⟩ | ⟨h3638, h⟩
    ·have e3639 := (show Qhb (kdV (.string ((a1.getD x20.toNat default).Stroke))) (flatMap (mpE v_23) x7) = true /\ lkM (.string ((a1.getD x20.toNat default).Stroke)) (flatMap (mpE v_23) x7) = some (VV.tr (List.map vi (mget x7 ((a1.getD x20.toNat default).Stroke))) ((mget x7 ((a1.getD x20.toNat default).Stroke)).length)) from ⟨(Qef v_23 ((a1.getD x20.toNat default).Stroke) x7), (Qny v_23 ((a1.getD x20.toNat default).Stroke) x7 h3638)⟩)
     obtain ⟨r3662, h3661, h⟩ := bs h
     have hph3661 := Qhc k a1 a2 x20 x7 _ _ _ _ h3661
     have e3663 := (an (ti tt) (VRun.loop hph3661))
     have h2 := ih _ _ _ _ h
     obtain ⟨q, hv, hq⟩ := pkR (rd := none) (P := Try.prog) (fn := Try.f56) (k := 0) (s := (Yk a1 a2 y0 x20 x7)) (ans := [.reg (.n :: []), .br true, .reg (.n :: .v (VV.ag (Qa (a1.getD x20.toNat default))) :: .n :: .n :: []), .reg (nN 4 []), .br false, .reg (Q0b x7 a1 x20), .sub ⟨[(2, none), (7, none), (8, none), (10, none), (18, none), (19, none), (20, none), (31, none), (32, none), (33, none)], [none, none], []⟩ (.exit 2) (Qcw a1 a2 x20 x7 r3662), .reg (.n :: .n :: [])]) (c := ⟨[(2, none), (7, none), (8, none), (18, none), (19, none), (20, none)], [none], []⟩) (e := .normal) (s1 := (Yk a1 a2 r3662.2 (w64 (x20 + 1)) r3662.1)) (an (an (ti tt) (an (an (dt h3634) tt) (an (an (an h3635 (an e3636 (ti (ti tt)))) (an (an (ti (ti (ti (ti tt)))) (an (Qs (dt h3637)) tt)) (an (ti (ti (ti (an e3639 (ti (ti tt)))))) e3663))) (ti (ti tt))))) (ti tt)) (by kernel_rfl)
     exact Qw pm pn hv hq h2
    ·have e3664 := (show Qhb (kdV (.string ((a1.getD x20.toNat default).Stroke))) (flatMap (mpE v_23) x7) = true /\ lkM (.string ((a1.getD x20.toNat default).Stroke)) (flatMap (mpE v_23) x7) = none from ⟨(Qef v_23 ((a1.getD x20.toNat default).Stroke) x7), (Qsj v_23 ((a1.getD x20.toNat default).Stroke) x7 (Zm h3638))⟩)
     obtain ⟨r3666, h3665, h⟩ := bs h
     have hph3665 := Qhd k a1 a2 y0 x20 x7 _  _ h3665
     have e3667 := (an (ti tt) (VRun.loop hph3665))
     have h2 := ih _ _ _ _ h
     obtain ⟨q, hv, hq⟩ := pkR (rd := none) (P := Try.prog) (fn := Try.f56) (k := 0) (s := (Yk a1 a2 y0 x20 x7)) (ans := [.reg (.n :: []), .br true, .reg (.n :: .v (VV.ag (Qa (a1.getD x20.toNat default))) :: .n :: .n :: []), .reg (nN 4 []), .br false, .reg (nN 3 (.b false :: .n :: .n :: [])), .sub ⟨[(2, none), (7, none), (8, none), (10, none), (18, none), (19, none), (20, none), (31, none), (32, none), (33, none)], [none, none], []⟩ (.exit 2) (Qcx a1 a2 y0 x20 x7 r3666), .reg (.n :: .n :: [])]) (c := ⟨[(2, none), (7, none), (8, none), (18, none), (19, none), (20, none)], [none], []⟩) (e := .normal) (s1 := (Yk a1 a2 y0 (w64 (x20 + 1)) r3666)) (an (an (ti tt) (an (an (dt h3634) tt) (an (an (an h3635 (an e3636 (ti (ti tt)))) (an (an (ti (ti (ti (ti tt)))) (an (Qs (dt h3637)) tt)) (an (ti (ti (ti (an e3664 (ti (ti tt)))))) e3667))) (ti (ti tt))))) (ti tt)) (by kernel_rfl)
     exact Qw pm pn hv hq h2
   ·have h2 := ih _ _ _ _ h
    obtain ⟨q, hv, hq⟩ := pkR (rd := none) (P := Try.prog) (fn := Try.f56) (k := 0) (s := (Yk a1 a2 y0 x20 x7)) (ans := [.reg (.n :: []), .br true, .reg (.n :: .v (VV.ag (Qa (a1.getD x20.toNat default))) :: .n :: .n :: []), .reg (nN 4 []), .br true, .reg (.n :: .n :: [])]) (c := ⟨[(2, none), (7, none), (8, none), (18, none), (19, none), (20, none)], [none], []⟩) (e := .normal) (s1 := (Yk a1 a2 y0 (w64 (x20 + 1)) x7)) (an (an (ti tt) (an (an (dt h3634) tt) (an (an (an h3635 (an e3636 (ti (ti tt)))) (an (ti (ti (ti (ti tt)))) (an (Zj (df h3637)) tt))) (ti (ti tt))))) (ti tt)) (by kernel_rfl)
    exact Qw pm pn hv hq h2
  ·injection h with h; subst h
   exact Qv (c := ⟨[(8, none)], [none], []⟩) (s1 := (Qcy a1 a2 y0)) pm pn (ans := [.reg (.n :: []), .br false]) (by kernel_rfl) (by intro e; cases e) (an (an (ti tt) (an (df h3634) tt)) (ti tt))
def Q0c (z0 : (List (ByteArray × (List Int)))) (z1 : Int) : List Ans := (.n :: .call (VV.mt (flatMap (mpE v_23) z0)) :: .n :: .call (vi z1) :: nN 3 [])
theorem Qza (z0 : (List Int)) : VV.fw 1 (List.drop 0 (List.map unfr (List.map vi z0))) z0.length = VV.fw 1 (List.map vi z0) z0.length := by first | rfl | (simp only [Jz, Zc, map_cons, map_nil, un_i, length_map]; done) | (simp only [Jz, Zc, map_cons, map_nil, un_i, length_map]; rfl) | (simp only [Jz, Zc, map_cons, map_nil, un_i, length_map, length_cons, length_nil, length_append]; done)
def Qa4 (k : Nat) (a0 : (List Qd)) (a1 : (List Qb)) (a2 : ByteArray) : Option (List Int) :=
 (Qa9 k a0).bind fun r3556 => ((Qae k a0).bind fun r3558 => (if 0 <= r3558 /\ r3558 <= 1000000000 then ((X0 k a1 a2 k (List.replicate r3558.toNat (0 : Int)) 0 r3556).bind fun r3669 => (some r3669)) else none))
theorem Qgu (k : Nat) (a0 : (List Qd)) (a1 : (List Qb)) (a2 : ByteArray) (r : (List Int)) (h : Qa4 k a0 a1 a2 = some r) : VC Try.prog 56 [VV.tr (flatMap Qc a0) a0.length, VV.tr (flatMap Qa a1) a1.length, vs a2] (VV.fw 1 (List.map vi r) r.length) := by
 unfold Qa4 at h
 obtain ⟨r3556, h3557, h⟩ := bs h
 obtain ⟨r3558, h3559, h⟩ := bs h
 obtain ⟨h3560, h⟩ := ifn h
 have e3561 := (show 0 <= r3558 /\ r3558 = r3558 /\ (8 * r3558.toNat) <= 281474976710656 /\ r3558 < 1099511627776 from ⟨by omega, rfl, by omega, by omega⟩)
 have e3562 := (ti (an (Qe1 k a0 _ h3557) (ti (an (Yw k a0 _ h3559) (an e3561 (ti (ti tt)))))))
 obtain ⟨r3669, h3668, h⟩ := bs h
 have hph3668 := Qhe k a1 a2 _ _ _ _ _ h3668
 have e3670 := (an (an (an (show Wv (VV.rf 0 0 r3558.toNat) (VV.rf 0 0 ((List.replicate r3558.toNat (0 : Int)).length)) from (Wv.of_eq (by simp))) tt) (an (show List.replicate r3558.toNat (VV.c (.int .i64 0)) = List.map vi (List.replicate r3558.toNat (0 : Int)) from Qj3 _) tt)) (VRun.loop hph3668))
 injection h with h; subst h
 exact Qq pm pn Try.func56 (r0 := VV.fw 1 (List.drop 0 (List.map unfr (List.map vi r3669))) r3669.length) (ans := [.reg (.n :: []), .reg (Q0c r3556 r3558), .reg (nN 3 []), .sub ⟨[(2, none), (7, none), (8, some (VV.rf 0 0 ((List.replicate r3558.toNat (0 : Int)).length))), (18, none), (19, none), (20, none)], [some (List.map vi (List.replicate r3558.toNat (0 : Int)))], []⟩ (.exit 0) (Qcy a1 a2 r3669), .reg (.n :: .n :: [])]) (fr := true) (by kernel_rfl) (an (an (ti tt) (an e3562 (an (an (ti (ti (ti tt))) e3670) (an (ti (ti tt)) tt)))) (an (show List.all (List.map vi r3669) new0 = true from (by exact Qha _)) tt)) (Wv.of_eq (Qza r3669))
def Qvg (z0 : (List Int)) (z1 : Int) : List Ans := (.n :: .n :: .v (VV.tr (List.map vi z0) z0.length) :: .n :: .n :: .v (vi (z0.getD z1.toNat 0)) :: .n :: [])
def Wi (q3_0 : (List Int)) (q3_1 : (List Int)) (r3708 : (List Int)) (x12 : Int) : VS := ⟨mkA [(3, VV.tp [VV.tr (List.map vi q3_0) q3_0.length, VV.tr (List.map vi q3_1) q3_1.length] 0), (10, VV.fr (List.map vi r3708) r3708.length), (11, vi (r3708.length : Int)), (12, vi x12)], [], .nil⟩
def Qbi (q3_0 : (List Int)) (q3_1 : (List Int)) (r3708 : (List Int)) (r : Unit) : VS := ⟨mkA [(4, vi 26)], [], .nil⟩
def Qbj (q3_0 : (List Int)) (q3_1 : (List Int)) (r3708 : (List Int)) (r : Unit) : VS := ⟨mkA [], [], .nil⟩
def Z9 (k : Nat) (q3_0 : (List Int)) (q3_1 : (List Int)) (r3708 : (List Int)) : Nat -> Int -> Option (Sum Unit Unit)
 | 0, _ => none
 | fuel + 1, x12 => if x12 < (r3708.length : Int) then (if 0 <= x12 /\ x12 < (r3708.length : Int) then (if 0 <= x12 /\ x12 < (q3_1.length : Int) then (if (q3_1.getD x12.toNat 0) < (r3708.getD x12.toNat 0) then (some (.inl ())) else (Z9 k q3_0 q3_1 r3708 fuel (w64 (x12 + 1)))) else none) else none) else (some (.inr ()))
theorem Qfl (k : Nat) (q3_0 : (List Int)) (q3_1 : (List Int)) (r3708 : (List Int)) : ∀ (fuel : Nat) (x12 : Int) (r : Sum Unit Unit), Z9 k q3_0 q3_1 r3708 fuel x12 = some r -> (match r with | .inl r => Y0 none Try.prog (szF Try.f74) (J5 Try.f74 0) (Wi q3_0 q3_1 r3708 x12) .ret (Qbi q3_0 q3_1 r3708 r) | .inr r => Y0 none Try.prog (szF Try.f74) (J5 Try.f74 0) (Wi q3_0 q3_1 r3708 x12) (.exit 0) (Qbj q3_0 q3_1 r3708 r)) := by
 intro fuel
 induction fuel with
 | zero => intro x12 r h; rw [Z9.eq_1] at h; cases h
 | succ fuel ih =>
  intro x12 r h
  rw [Z9.eq_2] at h
  rcases ifs h with ⟨h3728, h⟩ | ⟨h3728, h⟩
  ·obtain ⟨h3729, h⟩ := ifn h
   have e3730 := (show Zg Try.prog 3 (x12.toNat * 1) (List.map vi r3708) = some (vi (r3708.getD x12.toNat 0)) from Qb4 ag3 vi r3708 0 h3729 (by omega))
   have e3731 := (show Zg Try.prog 23 1 [VV.tr (List.map vi q3_0) q3_0.length, VV.tr (List.map vi q3_1) q3_1.length] = some (VV.tr (List.map vi q3_1) q3_1.length) from (Xb ag23 rfl))
   obtain ⟨h3732, h⟩ := ifn h
   have e3733 := (show Zg Try.prog 3 (x12.toNat * 1) (List.map vi q3_1) = some (vi (q3_1.getD x12.toNat 0)) from Qb4 ag3 vi q3_1 0 h3732 (by omega))
   have e3734 := (ti (ti (an e3731 (ti (an h3732 (an e3733 (ti tt)))))))
   rcases ifs h with ⟨h3735, h⟩ | ⟨h3735, h⟩
   ·injection h with h; subst h
    exact Qv (c := ⟨[(4, none)], [], []⟩) (s1 := (Qbi q3_0 q3_1 r3708 ())) pm pn (ans := [.reg (.n :: []), .br true, .reg (.n :: .n :: .v (vi (r3708.getD x12.toNat 0)) :: .n :: .n :: []), .reg (Qvg q3_1 x12), .br true, .reg (.n :: [])]) (by kernel_rfl) (by intro e; cases e) (an (an (ti tt) (an (an (dt h3728) tt) (an (ti (an h3729 (an e3730 (ti (ti tt))))) (an e3734 (an (dt h3735) (an (ti tt) tt)))))) (ti tt))
   ·have h2 := ih _ _ h
    obtain ⟨q, hv, hq⟩ := pkR (rd := none) (P := Try.prog) (fn := Try.f74) (k := 0) (s := (Wi q3_0 q3_1 r3708 x12)) (ans := [.reg (.n :: []), .br true, .reg (.n :: .n :: .v (vi (r3708.getD x12.toNat 0)) :: .n :: .n :: []), .reg (Qvg q3_1 x12), .br false, .reg (.n :: .n :: [])]) (c := ⟨[(3, none), (10, none), (11, none), (12, none)], [], []⟩) (e := .normal) (s1 := (Wi q3_0 q3_1 r3708 (w64 (x12 + 1)))) (an (an (ti tt) (an (an (dt h3728) tt) (an (an (ti (an h3729 (an e3730 (ti (ti tt))))) (an e3734 (an (df h3735) tt))) (ti (ti tt))))) (ti tt)) (by kernel_rfl)
    cases r with
    | inl r => exact Qw pm pn hv hq h2
    | inr r =>
     exact Qw pm pn hv hq h2
  ·injection h with h; subst h
   exact Qv (c := ⟨[], [], []⟩) (s1 := (Qbj q3_0 q3_1 r3708 ())) pm pn (ans := [.reg (.n :: []), .br false]) (by kernel_rfl) (by intro e; cases e) (an (an (ti tt) (an (df h3728) tt)) (ti tt))
def Qvh (z0 : (List Qd)) (z1 : (List Qb)) (z2 : ByteArray) (z3 : (List Int)) : List Ans := (.v (VV.tr (flatMap Qc z0) z0.length) :: .v (VV.tr (flatMap Qa z1) z1.length) :: .v (vs z2) :: .call (VV.fr (List.map vi z3) z3.length) :: .n :: .n :: [])
def Yv (k : Nat) (q0_0 : (List Qd)) (q1_0 : (List Qb)) (q2_0 : ByteArray) (q3_0 : (List Int)) (q3_1 : (List Int)) : Option Int :=
 (Qa4 k q0_0 q1_0 q2_0).bind fun r3708 => ((Z9 k q3_0 q3_1 r3708 k 0).bind fun r3737 => (match r3737 with | .inl r3738 => (some 26) | .inr r3739 => (some 0)))
theorem Qd0 (k : Nat) (q0_0 : (List Qd)) (q1_0 : (List Qb)) (q2_0 : ByteArray) (q3_0 : (List Int)) (q3_1 : (List Int)) (r : Int) (h : Yv k q0_0 q1_0 q2_0 q3_0 q3_1 = some r) : VC Try.prog 74 [VV.tp [VV.tr (flatMap Qc q0_0) q0_0.length] 0, VV.tp [VV.tr (flatMap Qa q1_0) q1_0.length] 0, VV.tp [vs q2_0] 0, VV.tp [VV.tr (List.map vi q3_0) q3_0.length, VV.tr (List.map vi q3_1) q3_1.length] 0] (vi r) := by
 unfold Yv at h
 have e3705 := (show Zg Try.prog 22 0 [VV.tr (flatMap Qc q0_0) q0_0.length] = some (VV.tr (flatMap Qc q0_0) q0_0.length) from (Xb ag22 rfl))
 have e3706 := (show Zg Try.prog 48 0 [VV.tr (flatMap Qa q1_0) q1_0.length] = some (VV.tr (flatMap Qa q1_0) q1_0.length) from (Xb ag48 rfl))
 have e3707 := (show Zg Try.prog 9 0 [vs q2_0] = some (vs q2_0) from (Xb ag9 rfl))
 obtain ⟨r3708, h3709, h⟩ := bs h
 have e3710 := (show VC Try.prog 56 [VV.tr (flatMap Qc q0_0) q0_0.length, VV.tr (flatMap Qa q1_0) q1_0.length, vs q2_0] (VV.fr (List.map vi r3708) r3708.length) from (VC.weak (Qgu k q0_0 q1_0 q2_0 _ h3709) (Wv.fw rfl rfl)))
 have e3711 := (an e3705 (an e3706 (an e3707 (an e3710 (ti (ti tt))))))
 obtain ⟨r3737, h3736, h⟩ := bs h
 have hph3736 := Qfl k q3_0 q3_1 r3708 _ _ _ h3736
 cases r3737 with
 | inl r3738 =>
  dsimp only at h
  have e3740 := (an (ti tt) (VRun.loop hph3736))
  injection h with h; subst h
  exact Qq pm pn Try.func74 (r0 := vi 26) (ans := [.reg (.n :: []), .reg (Qvh q0_0 q1_0 q2_0 r3708), .sub ⟨[(3, none), (10, none), (11, none), (12, none)], [], []⟩ .ret (Qbi q3_0 q3_1 r3708 r3738)]) (fr := true) (by kernel_rfl) (an (an (ti tt) (an e3711 e3740)) (ti tt)) (Wv.refl _)
 | inr r3739 =>
  dsimp only at h
  have e3741 := (an (ti tt) (VRun.loop hph3736))
  injection h with h; subst h
  exact Qq pm pn Try.func74 (r0 := vi 0) (ans := [.reg (.n :: []), .reg (Qvh q0_0 q1_0 q2_0 r3708), .sub ⟨[(3, none), (10, none), (11, none), (12, none)], [], []⟩ (.exit 0) (Qbj q3_0 q3_1 r3708 r3739), .reg (.n :: [])]) (fr := true) (by kernel_rfl) (an (an (ti tt) (an (an e3711 e3741) (an (ti tt) tt))) (ti tt)) (Wv.refl _)
def Qqx (z0 : (((List Qd) × (List Qb)) × ((List Qd) × (List Qb) × ByteArray × (List Int) × (List Int)))) : List Ans := (.n :: .v (VV.fn 71 [VV.tp [VV.tr (flatMap Qc z0.1.1) z0.1.1.length] 0, VV.tp [VV.tr (flatMap Qa z0.1.2) z0.1.2.length] 0]) :: .n :: [])
def Qvi (z0 : (((List Qd) × (List Qb)) × ((List Qd) × (List Qb) × ByteArray × (List Int) × (List Int)))) : List Ans := (.n :: .v (VV.fn 74 [VV.tp [VV.tr (flatMap Qc z0.2.1) z0.2.1.length] 0, VV.tp [VV.tr (flatMap Qa z0.2.2.1) z0.2.2.1.length] 0, VV.tp [vs z0.2.2.2.1] 0, VV.tp [VV.tr (List.map vi z0.2.2.2.2.1) z0.2.2.2.2.1.length, VV.tr (List.map vi z0.2.2.2.2.2) z0.2.2.2.2.2.length] 0]) :: .n :: [])
def Zn (k : Nat) (a0 : (((List Qd) × (List Qb)) × ((List Qd) × (List Qb) × ByteArray × (List Int) × (List Int)))) : Option Int :=
 (J4 k a0.1.1 a0.1.2).bind fun r3748 => (if r3748 = 0 then ((Yv k a0.2.1 a0.2.2.1 a0.2.2.2.1 a0.2.2.2.2.1 a0.2.2.2.2.2).bind fun r3754 => (if r3754 = 0 then (some 0) else (some r3754))) else (some r3748))
theorem Y6 (k : Nat) (a0 : (((List Qd) × (List Qb)) × ((List Qd) × (List Qb) × ByteArray × (List Int) × (List Int)))) (r : Int) (h : Zn k a0 = some r) : VC Try.prog 35 [VV.tr ([VV.fn 71 [VV.tp [VV.tr (flatMap Qc a0.1.1) a0.1.1.length] 0, VV.tp [VV.tr (flatMap Qa a0.1.2) a0.1.2.length] 0], VV.fn 74 [VV.tp [VV.tr (flatMap Qc a0.2.1) a0.2.1.length] 0, VV.tp [VV.tr (flatMap Qa a0.2.2.1) a0.2.2.1.length] 0, VV.tp [vs a0.2.2.2.1] 0, VV.tp [VV.tr (List.map vi a0.2.2.2.2.1) a0.2.2.2.2.1.length, VV.tr (List.map vi a0.2.2.2.2.2) a0.2.2.2.2.2.length] 0]]) 2] (vi r) := by
 unfold Zn at h
 have e3746 := (show (0 : Int) <= 0 /\ (0 : Int) < ((2 : Nat) : Int) from ⟨by decide, by decide⟩)
 have e3747 := (show Zg Try.prog 86 ((0 : Int).toNat * 1) ([VV.fn 71 [VV.tp [VV.tr (flatMap Qc a0.1.1) a0.1.1.length] 0, VV.tp [VV.tr (flatMap Qa a0.1.2) a0.1.2.length] 0], VV.fn 74 [VV.tp [VV.tr (flatMap Qc a0.2.1) a0.2.1.length] 0, VV.tp [VV.tr (flatMap Qa a0.2.2.1) a0.2.2.1.length] 0, VV.tp [vs a0.2.2.2.1] 0, VV.tp [VV.tr (List.map vi a0.2.2.2.2.1) a0.2.2.2.2.1.length, VV.tr (List.map vi a0.2.2.2.2.2) a0.2.2.2.2.2.length] 0]]) = some (VV.fn 71 [VV.tp [VV.tr (flatMap Qc a0.1.1) a0.1.1.length] 0, VV.tp [VV.tr (flatMap Qa a0.1.2) a0.1.2.length] 0]) from (Xb ag86 rfl))
 obtain ⟨r3748, h3749, h⟩ := bs h
 have e3750 := (Qb1 k a0.1.1 a0.1.2 _ h3749)
 rcases ifs h with ⟨h3751, h⟩ | ⟨h3751, h⟩
 ·have e3752 := (show (0 : Int) <= 1 /\ (1 : Int) < ((2 : Nat) : Int) from ⟨by decide, by decide⟩)
  have e3753 := (show Zg Try.prog 86 ((1 : Int).toNat * 1) ([VV.fn 71 [VV.tp [VV.tr (flatMap Qc a0.1.1) a0.1.1.length] 0, VV.tp [VV.tr (flatMap Qa a0.1.2) a0.1.2.length] 0], VV.fn 74 [VV.tp [VV.tr (flatMap Qc a0.2.1) a0.2.1.length] 0, VV.tp [VV.tr (flatMap Qa a0.2.2.1) a0.2.2.1.length] 0, VV.tp [vs a0.2.2.2.1] 0, VV.tp [VV.tr (List.map vi a0.2.2.2.2.1) a0.2.2.2.2.1.length, VV.tr (List.map vi a0.2.2.2.2.2) a0.2.2.2.2.2.length] 0]]) = some (VV.fn 74 [VV.tp [VV.tr (flatMap Qc a0.2.1) a0.2.1.length] 0, VV.tp [VV.tr (flatMap Qa a0.2.2.1) a0.2.2.1.length] 0, VV.tp [vs a0.2.2.2.1] 0, VV.tp [VV.tr (List.map vi a0.2.2.2.2.1) a0.2.2.2.2.1.length, VV.tr (List.map vi a0.2.2.2.2.2) a0.2.2.2.2.2.length] 0]) from (Xb ag86 rfl))
  obtain ⟨r3754, h3755, h⟩ := bs h
  have e3756 := (Qd0 k a0.2.1 a0.2.2.1 a0.2.2.2.1 a0.2.2.2.2.1 a0.2.2.2.2.2 _ h3755)
  rcases ifs h with ⟨h3757, h⟩ | ⟨h3757, h⟩
  ·injection h with h; subst h
   exact Qq pm pn Try.func35 (r0 := vi 0) (ans := [.reg (.n :: []), .reg (nN 3 []), .unr 4, .reg (.n :: []), .br true, .reg (Qqx a0), .reg (.n :: .call (vi r3748) :: .n :: []), .reg (.n :: .n :: []), .br false, .reg (.n :: .n :: []), .reg (.n :: []), .br true, .reg (Qvi a0), .reg (.n :: .call (vi r3754) :: .n :: []), .reg (.n :: .n :: []), .br false, .reg (.n :: .n :: []), .reg (.n :: []), .br false, .reg (.n :: [])]) (fr := true) (by kernel_rfl) (an (an (ti tt) (an (an (ti (ti (ti tt))) (an (an (ti tt) (an (an (show (decide ((0 : Int) < 2)) = true from (dt (by decide))) tt) (an (an (an e3746 (an e3747 (ti tt))) (an (ti (an e3750 (ti tt))) (an (ti (ti tt)) (an (Qs (dt h3751)) tt)))) (ti (ti tt))))) (an (an (ti tt) (an (an (show (decide ((1 : Int) < 2)) = true from (dt (by decide))) tt) (an (an (an e3752 (an e3753 (ti tt))) (an (ti (an e3756 (ti tt))) (an (ti (ti tt)) (an (Qs (dt h3757)) tt)))) (ti (ti tt))))) (an (ti tt) (an (show (decide ((2 : Int) < 2)) = false from (df (by decide))) tt))))) (an (ti tt) tt))) (ti tt)) (Wv.refl _)
  ·injection h with h; subst h
   exact Qq pm pn Try.func35 (r0 := vi r3754) (ans := [.reg (.n :: []), .reg (nN 3 []), .unr 3, .reg (.n :: []), .br true, .reg (Qqx a0), .reg (.n :: .call (vi r3748) :: .n :: []), .reg (.n :: .n :: []), .br false, .reg (.n :: .n :: []), .reg (.n :: []), .br true, .reg (Qvi a0), .reg (.n :: .call (vi r3754) :: .n :: []), .reg (.n :: .n :: []), .br true, .reg (.n :: .n :: [])]) (fr := true) (by kernel_rfl) (an (an (ti tt) (an (ti (ti (ti tt))) (an (an (ti tt) (an (an (show (decide ((0 : Int) < 2)) = true from (dt (by decide))) tt) (an (an (an e3746 (an e3747 (ti tt))) (an (ti (an e3750 (ti tt))) (an (ti (ti tt)) (an (Qs (dt h3751)) tt)))) (ti (ti tt))))) (an (ti tt) (an (an (show (decide ((1 : Int) < 2)) = true from (dt (by decide))) tt) (an (an e3752 (an e3753 (ti tt))) (an (ti (an e3756 (ti tt))) (an (ti (ti tt)) (an (Zj (df h3757)) (an (ti (ti tt)) tt)))))))))) (ti tt)) (Wv.refl _)
 ·injection h with h; subst h
  exact Qq pm pn Try.func35 (r0 := vi r3748) (ans := [.reg (.n :: []), .reg (nN 3 []), .unr 2, .reg (.n :: []), .br true, .reg (Qqx a0), .reg (.n :: .call (vi r3748) :: .n :: []), .reg (.n :: .n :: []), .br true, .reg (.n :: .n :: [])]) (fr := true) (by kernel_rfl) (an (an (ti tt) (an (ti (ti (ti tt))) (an (ti tt) (an (an (show (decide ((0 : Int) < 2)) = true from (dt (by decide))) tt) (an (an e3746 (an e3747 (ti tt))) (an (ti (an e3750 (ti tt))) (an (ti (ti tt)) (an (Zj (df h3751)) (an (ti (ti tt)) tt))))))))) (ti tt)) (Wv.refl _)
theorem Q2f (z0 : ((List Qd) × (List Qb))) (z1 : ((List Qd) × (List Qb) × ByteArray × (List Int) × (List Int))) : [VV.tr ([VV.fn 71 [VV.tp [VV.tr (flatMap Qc (((z0, z1).1).1)) ((((z0, z1).1).1).length)] 0, VV.tp [VV.tr (flatMap Qa (((z0, z1).1).2)) ((((z0, z1).1).2).length)] 0], VV.fn 74 [VV.tp [VV.tr (flatMap Qc (((z0, z1).2).1)) ((((z0, z1).2).1).length)] 0, VV.tp [VV.tr (flatMap Qa (((z0, z1).2).2.1)) ((((z0, z1).2).2.1).length)] 0, VV.tp [vs (((z0, z1).2).2.2.1)] 0, VV.tp [VV.tr (List.map vi (((z0, z1).2).2.2.2.1)) ((((z0, z1).2).2.2.2.1).length), VV.tr (List.map vi (((z0, z1).2).2.2.2.2)) ((((z0, z1).2).2.2.2.2).length)] 0]]) 2] = [VV.tr (List.drop 0 (List.map unfr [VV.fn 71 [VV.tp [VV.tr (flatMap Qc z0.1) z0.1.length] 0, VV.tp [VV.tr (flatMap Qa z0.2) z0.2.length] 0], VV.fn 74 [VV.tp [VV.tr (flatMap Qc z1.1) z1.1.length] 0, VV.tp [VV.tr (flatMap Qa z1.2.1) z1.2.1.length] 0, VV.tp [vs z1.2.2.1] 0, VV.tp [VV.tr (List.map vi z1.2.2.2.1) z1.2.2.2.1.length, VV.tr (List.map vi z1.2.2.2.2) z1.2.2.2.2.length] 0]])) 2] := by first | rfl | (simp only [Jz, Zc, Xo, map_cons, map_nil, un_i, un_s, Jr, length_map, length_cons, length_nil, Qm, Qe]; done) | (simp only [Jz, Zc, Xo, map_cons, map_nil, un_i, un_s, Jr, length_map, length_cons, length_nil, Qm, Qe]; rfl) | (simp only [Jz, Zc, Xo, map_cons, map_nil, un_i, un_s, Jr, length_map, length_cons, length_nil, Qm, Qe, Qc, Qa, length_cons, length_nil, length_append]; done)
def Qqy (z0 : (List Qd)) (z1 : ((List Int) × (List Int) × (List Qd))) (z2 : ((List Qd) × (List Qb))) (z3 : Int) : List Ans := (.n :: .call (VV.fn 64 [VV.tp [VV.tr (flatMap Qc z0) z0.length] 0]) :: .n :: .n :: .call (VV.fn 66 [VV.tp [VV.tr (List.map vi z1.1) z1.1.length, VV.tr (List.map vi z1.2.1) z1.2.1.length] 0, VV.tp [VV.tr (flatMap Qc z1.2.2) z1.2.2.length] 0]) :: .n :: .n :: .call (VV.fn 71 [VV.tp [VV.tr (flatMap Qc z2.1) z2.1.length] 0, VV.tp [VV.tr (flatMap Qa z2.2) z2.2.length] 0]) :: .n :: .call (vi z3) :: .n :: [])
def Qvj (z0 : (List Qb)) : List Ans := (.n :: .own (flatMap Qa z0) z0.length none (VV.fw 3 (flatMap Qa z0) z0.length) :: .n :: .v VV.any :: .n :: .n :: [])
def Qvk (z0 : ((List Qd) × (List Qb))) (z1 : ((List Qd) × (List Qb) × ByteArray × (List Int) × (List Int))) (z2 : Int) : List Ans := (.n :: .n :: .call (VV.fn 71 [VV.tp [VV.tr (flatMap Qc z0.1) z0.1.length] 0, VV.tp [VV.tr (flatMap Qa z0.2) z0.2.length] 0]) :: nN 5 (.call (VV.fn 74 [VV.tp [VV.tr (flatMap Qc z1.1) z1.1.length] 0, VV.tp [VV.tr (flatMap Qa z1.2.1) z1.2.1.length] 0, VV.tp [vs z1.2.2.1] 0, VV.tp [VV.tr (List.map vi z1.2.2.2.1) z1.2.2.2.1.length, VV.tr (List.map vi z1.2.2.2.2) z1.2.2.2.2.length] 0]) :: .n :: .call (vi z2) :: .n :: []))
def Qb5 (k : Nat) (a0 : (List Qd)) (a1 : Qg) (a2 : (List Qb)) (a3 : Qb) : Option ((List Qb) × Int) :=
 (Wx k a0).bind fun r3763 => ((Qap k a0 a1).bind fun r3765 => ((Yi k a0 a2).bind fun r3767 => ((Qu k (r3763, r3765, r3767)).bind fun r3770 => (if r3770 = 0 then ((Zq k a2).bind fun r3775 => (if r3775.length + ([a3] : List Qb).length <= 1000000000 then ((Yi k a0 (r3775 ++ ([a3] : List Qb))).bind fun r3780 => ((Qba k a0 a1 (r3775 ++ ([a3] : List Qb)) a3.Mirror).bind fun r3783 => ((Zn k (r3780, r3783)).bind fun r3786 => (if r3786 = 0 then (some (r3775 ++ ([a3] : List Qb), 0)) else (some ([], r3786)))))) else none)) else (some ([], r3770))))))
theorem Qhx (k : Nat) (a0 : (List Qd)) (a1 : Qg) (a2 : (List Qb)) (a3 : Qb) (r : ((List Qb) × Int)) (h : Qb5 k a0 a1 a2 a3 = some r) : VC Try.prog 20 [VV.tr (flatMap Qc a0) a0.length, VV.ag (Ze a1), VV.tr (flatMap Qa a2) a2.length, VV.ag (Qa a3)] (VV.tu [VV.tr (flatMap Qa r.1) r.1.length, vi r.2]) := by
 unfold Qb5 at h
 obtain ⟨r3763, h3764, h⟩ := bs h
 obtain ⟨r3765, h3766, h⟩ := bs h
 obtain ⟨r3767, h3768, h⟩ := bs h
 have e3769 := (Qch k a0 a2 _ h3768)
 obtain ⟨r3770, h3771, h⟩ := bs h
 have e3772 := (VC.args (Jo k (r3763, r3765, r3767) _ h3771) (Q2e r3763 r3765 r3767))
 have e3773 := (ti (an (Qd1 k a0 _ h3764) (ti (ti (an (Qer k a0 a1 _ h3766) (ti (ti (an e3769 (ti (an e3772 (ti tt)))))))))))
 rcases ifs h with ⟨h3774, h⟩ | ⟨h3774, h⟩
 ·obtain ⟨r3775, h3776, h⟩ := bs h
  have e3777 := (show VC Try.prog 50 [VV.tr (flatMap Qa a2) a2.length] (VV.fw 3 (flatMap Qa r3775) r3775.length) /\ (flatMap Qa r3775 = flatMap Qa r3775 /\ r3775.length = r3775.length) /\ List.all (flatMap Qa r3775) VV.isC = true /\ (r3775.length = 0 -> flatMap Qa r3775 = []) from ⟨Qbh k a2 _ h3776, ⟨rfl, rfl⟩, Qia _, fun h => by rw [List.length_eq_zero_iff.1 h]; rfl⟩)
  obtain ⟨h3778, h⟩ := ifn h
  have e3779 := (show List.length (flatMap Qa r3775) = r3775.length * 3 /\ List.length [vs a3.Mirror, vs a3.Stroke, vi a3.Minutes] = 1 * 3 /\ (r3775.length + 1) * 40 <= 140737488355328 /\ r3775.length + 1 < 1099511627776 /\ List.all [vs a3.Mirror, vs a3.Stroke, vi a3.Minutes] VV.still = true from ⟨(by rw [Qar Qx] <;> simp), (by rw [show [vs a3.Mirror, vs a3.Stroke, vi a3.Minutes] = flatMap Qa ([a3] : List Qb) from rfl]; rw [Qar Qx] <;> simp), (by first | omega | (simp at h3778 ⊢; omega)), (by first | omega | (simp at h3778 ⊢; omega)), (by rw [show [vs a3.Mirror, vs a3.Stroke, vi a3.Minutes] = flatMap Qa ([a3] : List Qb) from rfl]; exact Yd _)⟩)
  obtain ⟨r3780, h3781, h⟩ := bs h
  have e3782 := (show VC Try.prog 49 [VV.tr (flatMap Qc a0) a0.length, VV.tr (List.drop 0 (List.map unfr ((flatMap Qa r3775) ++ [vs a3.Mirror, vs a3.Stroke, vi a3.Minutes]))) (r3775.length + 1)] (VV.fn 71 [VV.tp [VV.tr (flatMap Qc r3780.1) r3780.1.length] 0, VV.tp [VV.tr (flatMap Qa r3780.2) r3780.2.length] 0]) from (VC.args (Qch k a0 (r3775 ++ ([a3] : List Qb)) _ h3781) (by simp only [show List.drop 0 (List.map unfr ((flatMap Qa r3775) ++ [vs a3.Mirror, vs a3.Stroke, vi a3.Minutes])) = flatMap Qa (r3775 ++ ([a3] : List Qb)) from (by first | rfl | (simp only [show (flatMap Qa r3775) ++ [vs a3.Mirror, vs a3.Stroke, vi a3.Minutes] = flatMap Qa (r3775 ++ ([a3] : List Qb)) from (by rw [show [vs a3.Mirror, vs a3.Stroke, vi a3.Minutes] = flatMap Qa ([a3] : List Qb) from rfl]; exact List.flatMap_append.symm), Jz, Zc, Zz, Xo, map_cons, map_nil, un_i, un_k, un_b, un_s, Jr, Qby, length_map, length_replicate, length_append, List.length_set, length_cons, length_nil, Nat.zero_add, Qm, Qr, Qk, Qj, Qn, Qo, Qe, Zp, Z8]; done) | (simp only [show (flatMap Qa r3775) ++ [vs a3.Mirror, vs a3.Stroke, vi a3.Minutes] = flatMap Qa (r3775 ++ ([a3] : List Qb)) from (by rw [show [vs a3.Mirror, vs a3.Stroke, vi a3.Minutes] = flatMap Qa ([a3] : List Qb) from rfl]; exact List.flatMap_append.symm), Jz, Zc, Zz, Xo, map_cons, map_nil, un_i, un_k, un_b, un_s, Jr, Qby, length_map, length_replicate, length_append, List.length_set, length_cons, length_nil, Nat.zero_add, Qm, Qr, Qk, Qj, Qn, Qo, Qe, Zp, Z8]; rfl) | (simp only [show (flatMap Qa r3775) ++ [vs a3.Mirror, vs a3.Stroke, vi a3.Minutes] = flatMap Qa (r3775 ++ ([a3] : List Qb)) from (by rw [show [vs a3.Mirror, vs a3.Stroke, vi a3.Minutes] = flatMap Qa ([a3] : List Qb) from rfl]; exact List.flatMap_append.symm), Jz, Zc, Zz, Xo, map_cons, map_nil, un_i, un_k, un_b, un_s, Jr, Qby, length_map, length_replicate, length_append, List.length_set, length_cons, length_nil, Nat.zero_add, Qm, Qr, Qk, Qj, Qn, Qo, Qe, Zp, Z8, Qa, length_cons, length_nil, length_append]; done)), Jz, Zc, Zz, Xo, map_cons, map_nil, un_i, un_k, un_b, un_s, Jr, Qby, length_map, length_replicate, length_append, List.length_set, length_cons, length_nil, Nat.zero_add, Qm, Qr, Qk, Qj, Qn, Qo, Qe, Zp, Z8]; done)))
  obtain ⟨r3783, h3784, h⟩ := bs h
  have e3785 := (show VC Try.prog 51 [VV.tr (flatMap Qc a0) a0.length, VV.ag (Ze a1), VV.tr (List.drop 0 (List.map unfr ((flatMap Qa r3775) ++ [vs a3.Mirror, vs a3.Stroke, vi a3.Minutes]))) (r3775.length + 1), vs a3.Mirror] (VV.fn 74 [VV.tp [VV.tr (flatMap Qc r3783.1) r3783.1.length] 0, VV.tp [VV.tr (flatMap Qa r3783.2.1) r3783.2.1.length] 0, VV.tp [vs r3783.2.2.1] 0, VV.tp [VV.tr (List.map vi r3783.2.2.2.1) r3783.2.2.2.1.length, VV.tr (List.map vi r3783.2.2.2.2) r3783.2.2.2.2.length] 0]) from (VC.args (Qe2 k a0 a1 (r3775 ++ ([a3] : List Qb)) a3.Mirror _ h3784) (by simp only [show List.drop 0 (List.map unfr ((flatMap Qa r3775) ++ [vs a3.Mirror, vs a3.Stroke, vi a3.Minutes])) = flatMap Qa (r3775 ++ ([a3] : List Qb)) from (by first | rfl | (simp only [show (flatMap Qa r3775) ++ [vs a3.Mirror, vs a3.Stroke, vi a3.Minutes] = flatMap Qa (r3775 ++ ([a3] : List Qb)) from (by rw [show [vs a3.Mirror, vs a3.Stroke, vi a3.Minutes] = flatMap Qa ([a3] : List Qb) from rfl]; exact List.flatMap_append.symm), Jz, Zc, Zz, Xo, map_cons, map_nil, un_i, un_k, un_b, un_s, Jr, Qby, length_map, length_replicate, length_append, List.length_set, length_cons, length_nil, Nat.zero_add, Qm, Qr, Qk, Qj, Qn, Qo, Qe, Zp, Z8]; done) | (simp only [show (flatMap Qa r3775) ++ [vs a3.Mirror, vs a3.Stroke, vi a3.Minutes] = flatMap Qa (r3775 ++ ([a3] : List Qb)) from (by rw [show [vs a3.Mirror, vs a3.Stroke, vi a3.Minutes] = flatMap Qa ([a3] : List Qb) from rfl]; exact List.flatMap_append.symm), Jz, Zc, Zz, Xo, map_cons, map_nil, un_i, un_k, un_b, un_s, Jr, Qby, length_map, length_replicate, length_append, List.length_set, length_cons, length_nil, Nat.zero_add, Qm, Qr, Qk, Qj, Qn, Qo, Qe, Zp, Z8]; rfl) | (simp only [show (flatMap Qa r3775) ++ [vs a3.Mirror, vs a3.Stroke, vi a3.Minutes] = flatMap Qa (r3775 ++ ([a3] : List Qb)) from (by rw [show [vs a3.Mirror, vs a3.Stroke, vi a3.Minutes] = flatMap Qa ([a3] : List Qb) from rfl]; exact List.flatMap_append.symm), Jz, Zc, Zz, Xo, map_cons, map_nil, un_i, un_k, un_b, un_s, Jr, Qby, length_map, length_replicate, length_append, List.length_set, length_cons, length_nil, Nat.zero_add, Qm, Qr, Qk, Qj, Qn, Qo, Qe, Zp, Z8, Qa, length_cons, length_nil, length_append]; done)), Jz, Zc, Zz, Xo, map_cons, map_nil, un_i, un_k, un_b, un_s, Jr, Qby, length_map, length_replicate, length_append, List.length_set, length_cons, length_nil, Nat.zero_add, Qm, Qr, Qk, Qj, Qn, Qo, Qe, Zp, Z8]; done)))
  obtain ⟨r3786, h3787, h⟩ := bs h
  have e3788 := (VC.args (Y6 k (r3780, r3783) _ h3787) (Q2f r3780 r3783))
  have e3789 := (ti (ti (an e3782 (ti (ti (ti (ti (ti (an e3785 (ti (an e3788 (ti tt))))))))))))
  rcases ifs h with ⟨h3790, h⟩ | ⟨h3790, h⟩
  ·injection h with h; subst h
   exact Qq pm pn Try.func20 (r0 := VV.tu [VV.tr (List.drop 0 (List.map unfr ((flatMap Qa r3775) ++ [vs a3.Mirror, vs a3.Stroke, vi a3.Minutes]))) (r3775.length + 1), vi 0]) (ans := [.reg (nN 4 []), .reg (Qqy r3763 r3765 r3767 r3770), .reg (.n :: .n :: []), .br false, .reg (Qvj r3775), .frs 3, .reg (Qvk r3780 r3783 r3786), .reg (.n :: .n :: []), .br false, .reg (nN 3 [])]) (fr := false) (by kernel_rfl) (an (an (ti (ti (ti (ti tt)))) (an (an e3773 (an (ti (ti tt)) (an (Qs (dt h3774)) tt))) (an (ti (an e3777 (ti (ti (an e3779 (ti tt)))))) (an (show List.all ((flatMap Qa r3775) ++ [vs a3.Mirror, vs a3.Stroke, vi a3.Minutes]) VV.still = true from (by rw [show (flatMap Qa r3775) ++ [vs a3.Mirror, vs a3.Stroke, vi a3.Minutes] = flatMap Qa (r3775 ++ ([a3] : List Qb)) from (by rw [show [vs a3.Mirror, vs a3.Stroke, vi a3.Minutes] = flatMap Qa ([a3] : List Qb) from rfl]; exact List.flatMap_append.symm)]; exact Yd _)) (an (an e3789 (an (ti (ti tt)) (an (Qs (dt h3790)) tt))) (an (ti (ti (ti tt))) tt)))))) (ti (ti tt))) (Wv.of_eq (by simp only [show List.drop 0 (List.map unfr ((flatMap Qa r3775) ++ [vs a3.Mirror, vs a3.Stroke, vi a3.Minutes])) = flatMap Qa (r3775 ++ ([a3] : List Qb)) from (by simp only [show (flatMap Qa r3775) ++ [vs a3.Mirror, vs a3.Stroke, vi a3.Minutes] = flatMap Qa (r3775 ++ ([a3] : List Qb)) from (by rw [show [vs a3.Mirror, vs a3.Stroke, vi a3.Minutes] = flatMap Qa ([a3] : List Qb) from rfl]; exact List.flatMap_append.symm), Jz, Zc, Zz, Xo, map_cons, map_nil, un_i, un_k, un_b, un_s, Jr, Qby, length_map, length_replicate, length_append, List.length_set, length_cons, length_nil, Nat.zero_add, Qm, Qr, Qk, Qj, Qn, Qo, Qe, Zp, Z8]; done), Jz, Zc, Zz, Xo, map_cons, map_nil, un_i, un_k, un_b, un_s, Jr, Qby, length_map, length_replicate, length_append, List.length_set, length_cons, length_nil, Nat.zero_add, Qm, Qr, Qk, Qj, Qn, Qo, Qe, Zp, Z8]))
  ·injection h with h; subst h
   exact Qq pm pn Try.func20 (r0 := VV.tu [VV.c (.slice none 0 0), vi r3786]) (ans := [.reg (nN 4 []), .reg (Qqy r3763 r3765 r3767 r3770), .reg (.n :: .n :: []), .br false, .reg (Qvj r3775), .frs 3, .reg (Qvk r3780 r3783 r3786), .reg (.n :: .n :: []), .br true, .reg (nN 3 [])]) (fr := false) (by kernel_rfl) (an (an (ti (ti (ti (ti tt)))) (an (an e3773 (an (ti (ti tt)) (an (Qs (dt h3774)) tt))) (an (ti (an e3777 (ti (ti (an e3779 (ti tt)))))) (an (show List.all ((flatMap Qa r3775) ++ [vs a3.Mirror, vs a3.Stroke, vi a3.Minutes]) VV.still = true from (by rw [show (flatMap Qa r3775) ++ [vs a3.Mirror, vs a3.Stroke, vi a3.Minutes] = flatMap Qa (r3775 ++ ([a3] : List Qb)) from (by rw [show [vs a3.Mirror, vs a3.Stroke, vi a3.Minutes] = flatMap Qa ([a3] : List Qb) from rfl]; exact List.flatMap_append.symm)]; exact Yd _)) (an e3789 (an (ti (ti tt)) (an (Zj (df h3790)) (an (ti (ti (ti tt))) tt)))))))) (ti (ti tt))) (Wv.tuL (.cons (Wv.nil (k := 0)) (.cons (Wv.refl _) .nil)))
 ·injection h with h; subst h
  exact Qq pm pn Try.func20 (r0 := VV.tu [VV.c (.slice none 0 0), vi r3770]) (ans := [.reg (nN 4 []), .reg (Qqy r3763 r3765 r3767 r3770), .reg (.n :: .n :: []), .br true, .reg (nN 3 [])]) (fr := false) (by kernel_rfl) (an (an (ti (ti (ti (ti tt)))) (an e3773 (an (ti (ti tt)) (an (Zj (df h3774)) (an (ti (ti (ti tt))) tt))))) (ti (ti tt))) (Wv.tuL (.cons (Wv.nil (k := 0)) (.cons (Wv.refl _) .nil)))
def Qjn (z0 : ((List Qd) × ((List Int) × (List Int) × (List Qd)) × ((List Qd) × (List Qb)) × (Bool × Int) × ((List Qd) × (List Qb) × ByteArray × (List Int) × (List Int)))) : List Ans := (.n :: .v (VV.fn 64 [VV.tp [VV.tr (flatMap Qc z0.1) z0.1.length] 0]) :: .n :: [])
def Qlb (z0 : ((List Qd) × ((List Int) × (List Int) × (List Qd)) × ((List Qd) × (List Qb)) × (Bool × Int) × ((List Qd) × (List Qb) × ByteArray × (List Int) × (List Int)))) : List Ans := (.n :: .v (VV.fn 66 [VV.tp [VV.tr (List.map vi z0.2.1.1) z0.2.1.1.length, VV.tr (List.map vi z0.2.1.2.1) z0.2.1.2.1.length] 0, VV.tp [VV.tr (flatMap Qc z0.2.1.2.2) z0.2.1.2.2.length] 0]) :: .n :: [])
def Qn0 (z0 : ((List Qd) × ((List Int) × (List Int) × (List Qd)) × ((List Qd) × (List Qb)) × (Bool × Int) × ((List Qd) × (List Qb) × ByteArray × (List Int) × (List Int)))) : List Ans := (.n :: .v (VV.fn 71 [VV.tp [VV.tr (flatMap Qc z0.2.2.1.1) z0.2.2.1.1.length] 0, VV.tp [VV.tr (flatMap Qa z0.2.2.1.2) z0.2.2.1.2.length] 0]) :: .n :: [])
def Qvl (z0 : ((List Qd) × ((List Int) × (List Int) × (List Qd)) × ((List Qd) × (List Qb)) × (Bool × Int) × ((List Qd) × (List Qb) × ByteArray × (List Int) × (List Int)))) : List Ans := (.n :: .v (VV.fn 74 [VV.tp [VV.tr (flatMap Qc z0.2.2.2.2.1) z0.2.2.2.2.1.length] 0, VV.tp [VV.tr (flatMap Qa z0.2.2.2.2.2.1) z0.2.2.2.2.2.1.length] 0, VV.tp [vs z0.2.2.2.2.2.2.1] 0, VV.tp [VV.tr (List.map vi z0.2.2.2.2.2.2.2.1) z0.2.2.2.2.2.2.2.1.length, VV.tr (List.map vi z0.2.2.2.2.2.2.2.2) z0.2.2.2.2.2.2.2.2.length] 0]) :: .n :: [])
def Qp (k : Nat) (a0 : ((List Qd) × ((List Int) × (List Int) × (List Qd)) × ((List Qd) × (List Qb)) × (Bool × Int) × ((List Qd) × (List Qb) × ByteArray × (List Int) × (List Int)))) : Option Int :=
 (Yy k a0.1).bind fun r3835 => (if r3835 = 0 then ((Y5 k a0.2.1.1 a0.2.1.2.1 a0.2.1.2.2).bind fun r3841 => (if r3841 = 0 then ((J4 k a0.2.2.1.1 a0.2.2.1.2).bind fun r3847 => (if r3847 = 0 then ((Jt k a0.2.2.2.1.1 a0.2.2.2.1.2).bind fun r3853 => (if r3853 = 0 then ((Yv k a0.2.2.2.2.1 a0.2.2.2.2.2.1 a0.2.2.2.2.2.2.1 a0.2.2.2.2.2.2.2.1 a0.2.2.2.2.2.2.2.2).bind fun r3859 => (if r3859 = 0 then (some 0) else (some r3859))) else (some r3853))) else (some r3847))) else (some r3841))) else (some r3835))
theorem Xc (k : Nat) (a0 : ((List Qd) × ((List Int) × (List Int) × (List Qd)) × ((List Qd) × (List Qb)) × (Bool × Int) × ((List Qd) × (List Qb) × ByteArray × (List Int) × (List Int)))) (r : Int) (h : Qp k a0 = some r) : VC Try.prog 35 [VV.tr ([VV.fn 64 [VV.tp [VV.tr (flatMap Qc a0.1) a0.1.length] 0], VV.fn 66 [VV.tp [VV.tr (List.map vi a0.2.1.1) a0.2.1.1.length, VV.tr (List.map vi a0.2.1.2.1) a0.2.1.2.1.length] 0, VV.tp [VV.tr (flatMap Qc a0.2.1.2.2) a0.2.1.2.2.length] 0], VV.fn 71 [VV.tp [VV.tr (flatMap Qc a0.2.2.1.1) a0.2.2.1.1.length] 0, VV.tp [VV.tr (flatMap Qa a0.2.2.1.2) a0.2.2.1.2.length] 0], VV.fn 85 [VV.tp [vb a0.2.2.2.1.1] 0, VV.tp [vi a0.2.2.2.1.2] 0], VV.fn 74 [VV.tp [VV.tr (flatMap Qc a0.2.2.2.2.1) a0.2.2.2.2.1.length] 0, VV.tp [VV.tr (flatMap Qa a0.2.2.2.2.2.1) a0.2.2.2.2.2.1.length] 0, VV.tp [vs a0.2.2.2.2.2.2.1] 0, VV.tp [VV.tr (List.map vi a0.2.2.2.2.2.2.2.1) a0.2.2.2.2.2.2.2.1.length, VV.tr (List.map vi a0.2.2.2.2.2.2.2.2) a0.2.2.2.2.2.2.2.2.length] 0]]) 5] (vi r) := by
 unfold Qp at h
 have e3833 := (show (0 : Int) <= 0 /\ (0 : Int) < ((5 : Nat) : Int) from ⟨by decide, by decide⟩)
 have e3834 := (show Zg Try.prog 86 ((0 : Int).toNat * 1) ([VV.fn 64 [VV.tp [VV.tr (flatMap Qc a0.1) a0.1.length] 0], VV.fn 66 [VV.tp [VV.tr (List.map vi a0.2.1.1) a0.2.1.1.length, VV.tr (List.map vi a0.2.1.2.1) a0.2.1.2.1.length] 0, VV.tp [VV.tr (flatMap Qc a0.2.1.2.2) a0.2.1.2.2.length] 0], VV.fn 71 [VV.tp [VV.tr (flatMap Qc a0.2.2.1.1) a0.2.2.1.1.length] 0, VV.tp [VV.tr (flatMap Qa a0.2.2.1.2) a0.2.2.1.2.length] 0], VV.fn 85 [VV.tp [vb a0.2.2.2.1.1] 0, VV.tp [vi a0.2.2.2.1.2] 0], VV.fn 74 [VV.tp [VV.tr (flatMap Qc a0.2.2.2.2.1) a0.2.2.2.2.1.length] 0, VV.tp [VV.tr (flatMap Qa a0.2.2.2.2.2.1) a0.2.2.2.2.2.1.length] 0, VV.tp [vs a0.2.2.2.2.2.2.1] 0, VV.tp [VV.tr (List.map vi a0.2.2.2.2.2.2.2.1) a0.2.2.2.2.2.2.2.1.length, VV.tr (List.map vi a0.2.2.2.2.2.2.2.2) a0.2.2.2.2.2.2.2.2.length] 0]]) = some (VV.fn 64 [VV.tp [VV.tr (flatMap Qc a0.1) a0.1.length] 0]) from (Xb ag86 rfl))
 obtain ⟨r3835, h3836, h⟩ := bs h
 have e3837 := (Qdm k a0.1 _ h3836)
 rcases ifs h with ⟨h3838, h⟩ | ⟨h3838, h⟩
 ·have e3839 := (show (0 : Int) <= 1 /\ (1 : Int) < ((5 : Nat) : Int) from ⟨by decide, by decide⟩)
  have e3840 := (show Zg Try.prog 86 ((1 : Int).toNat * 1) ([VV.fn 64 [VV.tp [VV.tr (flatMap Qc a0.1) a0.1.length] 0], VV.fn 66 [VV.tp [VV.tr (List.map vi a0.2.1.1) a0.2.1.1.length, VV.tr (List.map vi a0.2.1.2.1) a0.2.1.2.1.length] 0, VV.tp [VV.tr (flatMap Qc a0.2.1.2.2) a0.2.1.2.2.length] 0], VV.fn 71 [VV.tp [VV.tr (flatMap Qc a0.2.2.1.1) a0.2.2.1.1.length] 0, VV.tp [VV.tr (flatMap Qa a0.2.2.1.2) a0.2.2.1.2.length] 0], VV.fn 85 [VV.tp [vb a0.2.2.2.1.1] 0, VV.tp [vi a0.2.2.2.1.2] 0], VV.fn 74 [VV.tp [VV.tr (flatMap Qc a0.2.2.2.2.1) a0.2.2.2.2.1.length] 0, VV.tp [VV.tr (flatMap Qa a0.2.2.2.2.2.1) a0.2.2.2.2.2.1.length] 0, VV.tp [vs a0.2.2.2.2.2.2.1] 0, VV.tp [VV.tr (List.map vi a0.2.2.2.2.2.2.2.1) a0.2.2.2.2.2.2.2.1.length, VV.tr (List.map vi a0.2.2.2.2.2.2.2.2) a0.2.2.2.2.2.2.2.2.length] 0]]) = some (VV.fn 66 [VV.tp [VV.tr (List.map vi a0.2.1.1) a0.2.1.1.length, VV.tr (List.map vi a0.2.1.2.1) a0.2.1.2.1.length] 0, VV.tp [VV.tr (flatMap Qc a0.2.1.2.2) a0.2.1.2.2.length] 0]) from (Xb ag86 rfl))
  obtain ⟨r3841, h3842, h⟩ := bs h
  have e3843 := (Qdt k a0.2.1.1 a0.2.1.2.1 a0.2.1.2.2 _ h3842)
  rcases ifs h with ⟨h3844, h⟩ | ⟨h3844, h⟩
  ·have e3845 := (show (0 : Int) <= 2 /\ (2 : Int) < ((5 : Nat) : Int) from ⟨by decide, by decide⟩)
   have e3846 := (show Zg Try.prog 86 ((2 : Int).toNat * 1) ([VV.fn 64 [VV.tp [VV.tr (flatMap Qc a0.1) a0.1.length] 0], VV.fn 66 [VV.tp [VV.tr (List.map vi a0.2.1.1) a0.2.1.1.length, VV.tr (List.map vi a0.2.1.2.1) a0.2.1.2.1.length] 0, VV.tp [VV.tr (flatMap Qc a0.2.1.2.2) a0.2.1.2.2.length] 0], VV.fn 71 [VV.tp [VV.tr (flatMap Qc a0.2.2.1.1) a0.2.2.1.1.length] 0, VV.tp [VV.tr (flatMap Qa a0.2.2.1.2) a0.2.2.1.2.length] 0], VV.fn 85 [VV.tp [vb a0.2.2.2.1.1] 0, VV.tp [vi a0.2.2.2.1.2] 0], VV.fn 74 [VV.tp [VV.tr (flatMap Qc a0.2.2.2.2.1) a0.2.2.2.2.1.length] 0, VV.tp [VV.tr (flatMap Qa a0.2.2.2.2.2.1) a0.2.2.2.2.2.1.length] 0, VV.tp [vs a0.2.2.2.2.2.2.1] 0, VV.tp [VV.tr (List.map vi a0.2.2.2.2.2.2.2.1) a0.2.2.2.2.2.2.2.1.length, VV.tr (List.map vi a0.2.2.2.2.2.2.2.2) a0.2.2.2.2.2.2.2.2.length] 0]]) = some (VV.fn 71 [VV.tp [VV.tr (flatMap Qc a0.2.2.1.1) a0.2.2.1.1.length] 0, VV.tp [VV.tr (flatMap Qa a0.2.2.1.2) a0.2.2.1.2.length] 0]) from (Xb ag86 rfl))
   obtain ⟨r3847, h3848, h⟩ := bs h
   have e3849 := (Qb1 k a0.2.2.1.1 a0.2.2.1.2 _ h3848)
   rcases ifs h with ⟨h3850, h⟩ | ⟨h3850, h⟩
   ·have e3851 := (show (0 : Int) <= 3 /\ (3 : Int) < ((5 : Nat) : Int) from ⟨by decide, by decide⟩)
    have e3852 := (show Zg Try.prog 86 ((3 : Int).toNat * 1) ([VV.fn 64 [VV.tp [VV.tr (flatMap Qc a0.1) a0.1.length] 0], VV.fn 66 [VV.tp [VV.tr (List.map vi a0.2.1.1) a0.2.1.1.length, VV.tr (List.map vi a0.2.1.2.1) a0.2.1.2.1.length] 0, VV.tp [VV.tr (flatMap Qc a0.2.1.2.2) a0.2.1.2.2.length] 0], VV.fn 71 [VV.tp [VV.tr (flatMap Qc a0.2.2.1.1) a0.2.2.1.1.length] 0, VV.tp [VV.tr (flatMap Qa a0.2.2.1.2) a0.2.2.1.2.length] 0], VV.fn 85 [VV.tp [vb a0.2.2.2.1.1] 0, VV.tp [vi a0.2.2.2.1.2] 0], VV.fn 74 [VV.tp [VV.tr (flatMap Qc a0.2.2.2.2.1) a0.2.2.2.2.1.length] 0, VV.tp [VV.tr (flatMap Qa a0.2.2.2.2.2.1) a0.2.2.2.2.2.1.length] 0, VV.tp [vs a0.2.2.2.2.2.2.1] 0, VV.tp [VV.tr (List.map vi a0.2.2.2.2.2.2.2.1) a0.2.2.2.2.2.2.2.1.length, VV.tr (List.map vi a0.2.2.2.2.2.2.2.2) a0.2.2.2.2.2.2.2.2.length] 0]]) = some (VV.fn 85 [VV.tp [vb a0.2.2.2.1.1] 0, VV.tp [vi a0.2.2.2.1.2] 0]) from (Xb ag86 rfl))
    obtain ⟨r3853, h3854, h⟩ := bs h
    have e3855 := (Ju k a0.2.2.2.1.1 a0.2.2.2.1.2 _ h3854)
    rcases ifs h with ⟨h3856, h⟩ | ⟨h3856, h⟩
    ·have e3857 := (show (0 : Int) <= 4 /\ (4 : Int) < ((5 : Nat) : Int) from ⟨by decide, by decide⟩)
     have e3858 := (show Zg Try.prog 86 ((4 : Int).toNat * 1) ([VV.fn 64 [VV.tp [VV.tr (flatMap Qc a0.1) a0.1.length] 0], VV.fn 66 [VV.tp [VV.tr (List.map vi a0.2.1.1) a0.2.1.1.length, VV.tr (List.map vi a0.2.1.2.1) a0.2.1.2.1.length] 0, VV.tp [VV.tr (flatMap Qc a0.2.1.2.2) a0.2.1.2.2.length] 0], VV.fn 71 [VV.tp [VV.tr (flatMap Qc a0.2.2.1.1) a0.2.2.1.1.length] 0, VV.tp [VV.tr (flatMap Qa a0.2.2.1.2) a0.2.2.1.2.length] 0], VV.fn 85 [VV.tp [vb a0.2.2.2.1.1] 0, VV.tp [vi a0.2.2.2.1.2] 0], VV.fn 74 [VV.tp [VV.tr (flatMap Qc a0.2.2.2.2.1) a0.2.2.2.2.1.length] 0, VV.tp [VV.tr (flatMap Qa a0.2.2.2.2.2.1) a0.2.2.2.2.2.1.length] 0, VV.tp [vs a0.2.2.2.2.2.2.1] 0, VV.tp [VV.tr (List.map vi a0.2.2.2.2.2.2.2.1) a0.2.2.2.2.2.2.2.1.length, VV.tr (List.map vi a0.2.2.2.2.2.2.2.2) a0.2.2.2.2.2.2.2.2.length] 0]]) = some (VV.fn 74 [VV.tp [VV.tr (flatMap Qc a0.2.2.2.2.1) a0.2.2.2.2.1.length] 0, VV.tp [VV.tr (flatMap Qa a0.2.2.2.2.2.1) a0.2.2.2.2.2.1.length] 0, VV.tp [vs a0.2.2.2.2.2.2.1] 0, VV.tp [VV.tr (List.map vi a0.2.2.2.2.2.2.2.1) a0.2.2.2.2.2.2.2.1.length, VV.tr (List.map vi a0.2.2.2.2.2.2.2.2) a0.2.2.2.2.2.2.2.2.length] 0]) from (Xb ag86 rfl))
     obtain ⟨r3859, h3860, h⟩ := bs h
     have e3861 := (Qd0 k a0.2.2.2.2.1 a0.2.2.2.2.2.1 a0.2.2.2.2.2.2.1 a0.2.2.2.2.2.2.2.1 a0.2.2.2.2.2.2.2.2 _ h3860)
     rcases ifs h with ⟨h3862, h⟩ | ⟨h3862, h⟩
     ·injection h with h; subst h
      exact Qq pm pn Try.func35 (r0 := vi 0) (ans := [.reg (.n :: []), .reg (nN 3 []), .unr 7, .reg (.n :: []), .br true, .reg (Qjn a0), .reg (.n :: .call (vi r3835) :: .n :: []), .reg (.n :: .n :: []), .br false, .reg (.n :: .n :: []), .reg (.n :: []), .br true, .reg (Qlb a0), .reg (.n :: .call (vi r3841) :: .n :: []), .reg (.n :: .n :: []), .br false, .reg (.n :: .n :: []), .reg (.n :: []), .br true, .reg (Qn0 a0), .reg (.n :: .call (vi r3847) :: .n :: []), .reg (.n :: .n :: []), .br false, .reg (.n :: .n :: []), .reg (.n :: []), .br true, .reg (.n :: .v (VV.fn 85 [VV.tp [vb a0.2.2.2.1.1] 0, VV.tp [vi a0.2.2.2.1.2] 0]) :: .n :: []), .reg (.n :: .call (vi r3853) :: .n :: []), .reg (.n :: .n :: []), .br false, .reg (.n :: .n :: []), .reg (.n :: []), .br true, .reg (Qvl a0), .reg (.n :: .call (vi r3859) :: .n :: []), .reg (.n :: .n :: []), .br false, .reg (.n :: .n :: []), .reg (.n :: []), .br false, .reg (.n :: [])]) (fr := true) (by kernel_rfl) (an (an (ti tt) (an (an (ti (ti (ti tt))) (an (an (ti tt) (an (an (show (decide ((0 : Int) < 5)) = true from (dt (by decide))) tt) (an (an (an e3833 (an e3834 (ti tt))) (an (ti (an e3837 (ti tt))) (an (ti (ti tt)) (an (Qs (dt h3838)) tt)))) (ti (ti tt))))) (an (an (ti tt) (an (an (show (decide ((1 : Int) < 5)) = true from (dt (by decide))) tt) (an (an (an e3839 (an e3840 (ti tt))) (an (ti (an e3843 (ti tt))) (an (ti (ti tt)) (an (Qs (dt h3844)) tt)))) (ti (ti tt))))) (an (an (ti tt) (an (an (show (decide ((2 : Int) < 5)) = true from (dt (by decide))) tt) (an (an (an e3845 (an e3846 (ti tt))) (an (ti (an e3849 (ti tt))) (an (ti (ti tt)) (an (Qs (dt h3850)) tt)))) (ti (ti tt))))) (an (an (ti tt) (an (an (show (decide ((3 : Int) < 5)) = true from (dt (by decide))) tt) (an (an (an e3851 (an e3852 (ti tt))) (an (ti (an e3855 (ti tt))) (an (ti (ti tt)) (an (Qs (dt h3856)) tt)))) (ti (ti tt))))) (an (an (ti tt) (an (an (show (decide ((4 : Int) < 5)) = true from (dt (by decide))) tt) (an (an (an e3857 (an e3858 (ti tt))) (an (ti (an e3861 (ti tt))) (an (ti (ti tt)) (an (Qs (dt h3862)) tt)))) (ti (ti tt))))) (an (ti tt) (an (show (decide ((5 : Int) < 5)) = false from (df (by decide))) tt)))))))) (an (ti tt) tt))) (ti tt)) (Wv.refl _)
     ·injection h with h; subst h
      exact Qq pm pn Try.func35 (r0 := vi r3859) (ans := [.reg (.n :: []), .reg (nN 3 []), .unr 6, .reg (.n :: []), .br true, .reg (Qjn a0), .reg (.n :: .call (vi r3835) :: .n :: []), .reg (.n :: .n :: []), .br false, .reg (.n :: .n :: []), .reg (.n :: []), .br true, .reg (Qlb a0), .reg (.n :: .call (vi r3841) :: .n :: []), .reg (.n :: .n :: []), .br false, .reg (.n :: .n :: []), .reg (.n :: []), .br true, .reg (Qn0 a0), .reg (.n :: .call (vi r3847) :: .n :: []), .reg (.n :: .n :: []), .br false, .reg (.n :: .n :: []), .reg (.n :: []), .br true, .reg (.n :: .v (VV.fn 85 [VV.tp [vb a0.2.2.2.1.1] 0, VV.tp [vi a0.2.2.2.1.2] 0]) :: .n :: []), .reg (.n :: .call (vi r3853) :: .n :: []), .reg (.n :: .n :: []), .br false, .reg (.n :: .n :: []), .reg (.n :: []), .br true, .reg (Qvl a0), .reg (.n :: .call (vi r3859) :: .n :: []), .reg (.n :: .n :: []), .br true, .reg (.n :: .n :: [])]) (fr := true) (by kernel_rfl) (an (an (ti tt) (an (ti (ti (ti tt))) (an (an (ti tt) (an (an (show (decide ((0 : Int) < 5)) = true from (dt (by decide))) tt) (an (an (an e3833 (an e3834 (ti tt))) (an (ti (an e3837 (ti tt))) (an (ti (ti tt)) (an (Qs (dt h3838)) tt)))) (ti (ti tt))))) (an (an (ti tt) (an (an (show (decide ((1 : Int) < 5)) = true from (dt (by decide))) tt) (an (an (an e3839 (an e3840 (ti tt))) (an (ti (an e3843 (ti tt))) (an (ti (ti tt)) (an (Qs (dt h3844)) tt)))) (ti (ti tt))))) (an (an (ti tt) (an (an (show (decide ((2 : Int) < 5)) = true from (dt (by decide))) tt) (an (an (an e3845 (an e3846 (ti tt))) (an (ti (an e3849 (ti tt))) (an (ti (ti tt)) (an (Qs (dt h3850)) tt)))) (ti (ti tt))))) (an (an (ti tt) (an (an (show (decide ((3 : Int) < 5)) = true from (dt (by decide))) tt) (an (an (an e3851 (an e3852 (ti tt))) (an (ti (an e3855 (ti tt))) (an (ti (ti tt)) (an (Qs (dt h3856)) tt)))) (ti (ti tt))))) (an (ti tt) (an (an (show (decide ((4 : Int) < 5)) = true from (dt (by decide))) tt) (an (an e3857 (an e3858 (ti tt))) (an (ti (an e3861 (ti tt))) (an (ti (ti tt)) (an (Zj (df h3862)) (an (ti (ti tt)) tt))))))))))))) (ti tt)) (Wv.refl _)
    ·injection h with h; subst h
     exact Qq pm pn Try.func35 (r0 := vi r3853) (ans := [.reg (.n :: []), .reg (nN 3 []), .unr 5, .reg (.n :: []), .br true, .reg (Qjn a0), .reg (.n :: .call (vi r3835) :: .n :: []), .reg (.n :: .n :: []), .br false, .reg (.n :: .n :: []), .reg (.n :: []), .br true, .reg (Qlb a0), .reg (.n :: .call (vi r3841) :: .n :: []), .reg (.n :: .n :: []), .br false, .reg (.n :: .n :: []), .reg (.n :: []), .br true, .reg (Qn0 a0), .reg (.n :: .call (vi r3847) :: .n :: []), .reg (.n :: .n :: []), .br false, .reg (.n :: .n :: []), .reg (.n :: []), .br true, .reg (.n :: .v (VV.fn 85 [VV.tp [vb a0.2.2.2.1.1] 0, VV.tp [vi a0.2.2.2.1.2] 0]) :: .n :: []), .reg (.n :: .call (vi r3853) :: .n :: []), .reg (.n :: .n :: []), .br true, .reg (.n :: .n :: [])]) (fr := true) (by kernel_rfl) (an (an (ti tt) (an (ti (ti (ti tt))) (an (an (ti tt) (an (an (show (decide ((0 : Int) < 5)) = true from (dt (by decide))) tt) (an (an (an e3833 (an e3834 (ti tt))) (an (ti (an e3837 (ti tt))) (an (ti (ti tt)) (an (Qs (dt h3838)) tt)))) (ti (ti tt))))) (an (an (ti tt) (an (an (show (decide ((1 : Int) < 5)) = true from (dt (by decide))) tt) (an (an (an e3839 (an e3840 (ti tt))) (an (ti (an e3843 (ti tt))) (an (ti (ti tt)) (an (Qs (dt h3844)) tt)))) (ti (ti tt))))) (an (an (ti tt) (an (an (show (decide ((2 : Int) < 5)) = true from (dt (by decide))) tt) (an (an (an e3845 (an e3846 (ti tt))) (an (ti (an e3849 (ti tt))) (an (ti (ti tt)) (an (Qs (dt h3850)) tt)))) (ti (ti tt))))) (an (ti tt) (an (an (show (decide ((3 : Int) < 5)) = true from (dt (by decide))) tt) (an (an e3851 (an e3852 (ti tt))) (an (ti (an e3855 (ti tt))) (an (ti (ti tt)) (an (Zj (df h3856)) (an (ti (ti tt)) tt)))))))))))) (ti tt)) (Wv.refl _)
   ·injection h with h; subst h
    exact Qq pm pn Try.func35 (r0 := vi r3847) (ans := [.reg (.n :: []), .reg (nN 3 []), .unr 4, .reg (.n :: []), .br true, .reg (Qjn a0), .reg (.n :: .call (vi r3835) :: .n :: []), .reg (.n :: .n :: []), .br false, .reg (.n :: .n :: []), .reg (.n :: []), .br true, .reg (Qlb a0), .reg (.n :: .call (vi r3841) :: .n :: []), .reg (.n :: .n :: []), .br false, .reg (.n :: .n :: []), .reg (.n :: []), .br true, .reg (Qn0 a0), .reg (.n :: .call (vi r3847) :: .n :: []), .reg (.n :: .n :: []), .br true, .reg (.n :: .n :: [])]) (fr := true) (by kernel_rfl) (an (an (ti tt) (an (ti (ti (ti tt))) (an (an (ti tt) (an (an (show (decide ((0 : Int) < 5)) = true from (dt (by decide))) tt) (an (an (an e3833 (an e3834 (ti tt))) (an (ti (an e3837 (ti tt))) (an (ti (ti tt)) (an (Qs (dt h3838)) tt)))) (ti (ti tt))))) (an (an (ti tt) (an (an (show (decide ((1 : Int) < 5)) = true from (dt (by decide))) tt) (an (an (an e3839 (an e3840 (ti tt))) (an (ti (an e3843 (ti tt))) (an (ti (ti tt)) (an (Qs (dt h3844)) tt)))) (ti (ti tt))))) (an (ti tt) (an (an (show (decide ((2 : Int) < 5)) = true from (dt (by decide))) tt) (an (an e3845 (an e3846 (ti tt))) (an (ti (an e3849 (ti tt))) (an (ti (ti tt)) (an (Zj (df h3850)) (an (ti (ti tt)) tt))))))))))) (ti tt)) (Wv.refl _)
  ·injection h with h; subst h
   exact Qq pm pn Try.func35 (r0 := vi r3841) (ans := [.reg (.n :: []), .reg (nN 3 []), .unr 3, .reg (.n :: []), .br true, .reg (Qjn a0), .reg (.n :: .call (vi r3835) :: .n :: []), .reg (.n :: .n :: []), .br false, .reg (.n :: .n :: []), .reg (.n :: []), .br true, .reg (Qlb a0), .reg (.n :: .call (vi r3841) :: .n :: []), .reg (.n :: .n :: []), .br true, .reg (.n :: .n :: [])]) (fr := true) (by kernel_rfl) (an (an (ti tt) (an (ti (ti (ti tt))) (an (an (ti tt) (an (an (show (decide ((0 : Int) < 5)) = true from (dt (by decide))) tt) (an (an (an e3833 (an e3834 (ti tt))) (an (ti (an e3837 (ti tt))) (an (ti (ti tt)) (an (Qs (dt h3838)) tt)))) (ti (ti tt))))) (an (ti tt) (an (an (show (decide ((1 : Int) < 5)) = true from (dt (by decide))) tt) (an (an e3839 (an e3840 (ti tt))) (an (ti (an e3843 (ti tt))) (an (ti (ti tt)) (an (Zj (df h3844)) (an (ti (ti tt)) tt)))))))))) (ti tt)) (Wv.refl _)
 ·injection h with h; subst h
  exact Qq pm pn Try.func35 (r0 := vi r3835) (ans := [.reg (.n :: []), .reg (nN 3 []), .unr 2, .reg (.n :: []), .br true, .reg (Qjn a0), .reg (.n :: .call (vi r3835) :: .n :: []), .reg (.n :: .n :: []), .br true, .reg (.n :: .n :: [])]) (fr := true) (by kernel_rfl) (an (an (ti tt) (an (ti (ti (ti tt))) (an (ti tt) (an (an (show (decide ((0 : Int) < 5)) = true from (dt (by decide))) tt) (an (an e3833 (an e3834 (ti tt))) (an (ti (an e3837 (ti tt))) (an (ti (ti tt)) (an (Zj (df h3838)) (an (ti (ti tt)) tt))))))))) (ti tt)) (Wv.refl _)
theorem Q2g (z0 : (List Qd)) (z1 : ((List Int) × (List Int) × (List Qd))) (z2 : ((List Qd) × (List Qb))) (z3 : (Bool × Int)) (z4 : ((List Qd) × (List Qb) × ByteArray × (List Int) × (List Int))) : [VV.tr ([VV.fn 64 [VV.tp [VV.tr (flatMap Qc ((z0, z1, z2, z3, z4).1)) (((z0, z1, z2, z3, z4).1).length)] 0], VV.fn 66 [VV.tp [VV.tr (List.map vi (((z0, z1, z2, z3, z4).2.1).1)) ((((z0, z1, z2, z3, z4).2.1).1).length), VV.tr (List.map vi (((z0, z1, z2, z3, z4).2.1).2.1)) ((((z0, z1, z2, z3, z4).2.1).2.1).length)] 0, VV.tp [VV.tr (flatMap Qc (((z0, z1, z2, z3, z4).2.1).2.2)) ((((z0, z1, z2, z3, z4).2.1).2.2).length)] 0], VV.fn 71 [VV.tp [VV.tr (flatMap Qc (((z0, z1, z2, z3, z4).2.2.1).1)) ((((z0, z1, z2, z3, z4).2.2.1).1).length)] 0, VV.tp [VV.tr (flatMap Qa (((z0, z1, z2, z3, z4).2.2.1).2)) ((((z0, z1, z2, z3, z4).2.2.1).2).length)] 0], VV.fn 85 [VV.tp [vb (((z0, z1, z2, z3, z4).2.2.2.1).1)] 0, VV.tp [vi (((z0, z1, z2, z3, z4).2.2.2.1).2)] 0], VV.fn 74 [VV.tp [VV.tr (flatMap Qc (((z0, z1, z2, z3, z4).2.2.2.2).1)) ((((z0, z1, z2, z3, z4).2.2.2.2).1).length)] 0, VV.tp [VV.tr (flatMap Qa (((z0, z1, z2, z3, z4).2.2.2.2).2.1)) ((((z0, z1, z2, z3, z4).2.2.2.2).2.1).length)] 0, VV.tp [vs (((z0, z1, z2, z3, z4).2.2.2.2).2.2.1)] 0, VV.tp [VV.tr (List.map vi (((z0, z1, z2, z3, z4).2.2.2.2).2.2.2.1)) ((((z0, z1, z2, z3, z4).2.2.2.2).2.2.2.1).length), VV.tr (List.map vi (((z0, z1, z2, z3, z4).2.2.2.2).2.2.2.2)) ((((z0, z1, z2, z3, z4).2.2.2.2).2.2.2.2).length)] 0]]) 5] = [VV.tr (List.drop 0 (List.map unfr [VV.fn 64 [VV.tp [VV.tr (flatMap Qc z0) z0.length] 0], VV.fn 66 [VV.tp [VV.tr (List.map vi z1.1) z1.1.length, VV.tr (List.map vi z1.2.1) z1.2.1.length] 0, VV.tp [VV.tr (flatMap Qc z1.2.2) z1.2.2.length] 0], VV.fn 71 [VV.tp [VV.tr (flatMap Qc z2.1) z2.1.length] 0, VV.tp [VV.tr (flatMap Qa z2.2) z2.2.length] 0], VV.fn 85 [VV.tp [vb z3.1] 0, VV.tp [vi z3.2] 0], VV.fn 74 [VV.tp [VV.tr (flatMap Qc z4.1) z4.1.length] 0, VV.tp [VV.tr (flatMap Qa z4.2.1) z4.2.1.length] 0, VV.tp [vs z4.2.2.1] 0, VV.tp [VV.tr (List.map vi z4.2.2.2.1) z4.2.2.2.1.length, VV.tr (List.map vi z4.2.2.2.2) z4.2.2.2.2.length] 0]])) 5] := by first | rfl | (simp only [Jz, Zc, Zz, Xo, map_cons, map_nil, un_i, un_b, un_s, Jr, length_map, length_cons, length_nil, Qm, Qe]; done) | (simp only [Jz, Zc, Zz, Xo, map_cons, map_nil, un_i, un_b, un_s, Jr, length_map, length_cons, length_nil, Qm, Qe]; rfl) | (simp only [Jz, Zc, Zz, Xo, map_cons, map_nil, un_i, un_b, un_s, Jr, length_map, length_cons, length_nil, Qm, Qe, Qc, Qa, length_cons, length_nil, length_append]; done)
def Yo (k : Nat) (a0 : (List Int)) : Option (List Int) :=
 if ([] : List Int).length + a0.length <= 1000000000 then (some (([] : List Int) ++ a0)) else none
theorem Qdb (k : Nat) (a0 : (List Int)) (r : (List Int)) (h : Yo k a0 = some r) : VC Try.prog 55 [VV.tr (List.map vi a0) a0.length] (VV.fw 1 (List.map vi r) r.length) := by
 unfold Yo at h
 rcases Nat.eq_zero_or_pos a0.length with hz0 | h3871
 ·obtain rfl := List.length_eq_zero_iff.1 hz0
  obtain ⟨hz1, h⟩ := ifn h
  injection h with h; subst h
  exact (show VC Try.prog 55 [VV.tr [] 0] (VV.fw 1 [] 0) from VC.Qy9 (pre := []) (post := []) (Qq pm pn Try.func55 (r0 := VV.c (.slice none 0 0)) (ans := [.reg (.n :: []), .reg (.n :: .n :: []), .br true, .reg (.n :: [])]) (fr := true) (by kernel_rfl) (an (an (ti tt) (an (ti (ti tt)) (an rt (an (ti tt) tt)))) (ti tt)) Wv.Qmb) (Qq pm pn Try.func55 (r0 := VV.fw 1 (List.drop 0 (List.map unfr ([] ++ []))) (0 + 0)) (ans := [.reg (.n :: []), .reg (.n :: .n :: []), .br false, .reg (nN 4 [])]) (fr := true) (by kernel_rfl) (an (an (ti tt) (an (an (ti (ti tt)) (an rf tt)) (an (ti (ti (an (show List.length ([] : List VV) = 0 * 1 /\ List.length ([] : List VV) = 0 * 1 /\ (0 + 0) * 8 <= 140737488355328 /\ 0 + 0 < 1099511627776 /\ List.all ([] : List VV) VV.still = true from by decide) (ti tt)))) tt))) (an (show List.all (([] : List VV) ++ []) new0 = true from rfl) tt)) (Wv.refl _)))
 ·obtain ⟨h3872, h⟩ := ifn h
  have e3873 := (show List.length [] = 0 * 1 /\ List.length (List.map vi a0) = a0.length * 1 /\ (0 + a0.length) * 8 <= 140737488355328 /\ 0 + a0.length < 1099511627776 /\ List.all (List.map vi a0) VV.still = true from ⟨(by rw [show [] = List.map vi ([] : List Int) from rfl]; simp), (by simp), (by first | omega | (simp at h3872 ⊢; omega)), (by first | omega | (simp at h3872 ⊢; omega)), (by exact Qki _)⟩)
  injection h with h; subst h
  exact Qq pm pn Try.func55 (r0 := VV.fw 1 (List.drop 0 (List.map unfr ([] ++ (List.map vi a0)))) (0 + a0.length)) (ans := [.reg (.n :: []), .reg (.n :: .n :: []), .br false, .reg (nN 4 [])]) (fr := true) (by kernel_rfl) (an (an (ti tt) (an (an (ti (an h3871 tt)) (an rf tt)) (an (ti (ti (an e3873 (ti tt)))) tt))) (an (show List.all ([] ++ (List.map vi a0)) new0 = true from (by rw [show [] ++ (List.map vi a0) = List.map vi (([] : List Int) ++ a0) from (by rw [show [] = List.map vi ([] : List Int) from rfl]; exact List.map_append.symm)]; exact Qha _)) tt)) (Wv.of_eq (by simp only [show [] ++ (List.map vi a0) = List.map vi (([] : List Int) ++ a0) from (by rw [show [] = List.map vi ([] : List Int) from rfl]; exact List.map_append.symm), Jz, Zc, Zz, Xo, map_cons, map_nil, un_i, un_k, un_b, un_s, Jr, Qby, length_map, length_replicate, length_append, List.length_set, length_cons, length_nil, Nat.zero_add, Qm, Qr, Qk, Qj, Qn, Qo, Qe, Zp, Z8]))
def Qcz (a1 : Qg) (r3920 : (List Qd)) (r3922 : ((List Int) × (List Int) × (List Qd))) (r3924 : ((List Qd) × (List Qb))) (r3927 : (Bool × Int)) (r3929 : ((List Qd) × (List Qb) × ByteArray × (List Int) × (List Int))) (r3944 : (List Int)) (y3 : List Int) (y4 : List Int) (x47 : Int) : VS := ⟨mkA [(8, VV.pt 1 0), (11, VV.pt 5 0), (45, VV.fr (List.map vi r3944) r3944.length), (46, vi (r3944.length : Int)), (47, vi x47)], [some ⟨true, 1, Ze a1⟩, some ⟨true, 1, [VV.c (.slice none 0 0), VV.c (.slice none 0 0)]⟩, some ⟨false, 1, [VV.fn 64 [VV.tp [VV.tr (flatMap Qc r3920) r3920.length] 0], VV.fn 66 [VV.tp [VV.tr (List.map vi r3922.1) r3922.1.length, VV.tr (List.map vi r3922.2.1) r3922.2.1.length] 0, VV.tp [VV.tr (flatMap Qc r3922.2.2) r3922.2.2.length] 0], VV.fn 71 [VV.tp [VV.tr (flatMap Qc r3924.1) r3924.1.length] 0, VV.tp [VV.tr (flatMap Qa r3924.2) r3924.2.length] 0], VV.fn 85 [VV.tp [vb r3927.1] 0, VV.tp [vi r3927.2] 0], VV.fn 74 [VV.tp [VV.tr (flatMap Qc r3929.1) r3929.1.length] 0, VV.tp [VV.tr (flatMap Qa r3929.2.1) r3929.2.1.length] 0, VV.tp [vs r3929.2.2.1] 0, VV.tp [VV.tr (List.map vi r3929.2.2.2.1) r3929.2.2.2.1.length, VV.tr (List.map vi r3929.2.2.2.2) r3929.2.2.2.2.length] 0]]⟩, some ⟨false, 1, List.map vi y3⟩, some ⟨false, 1, List.map vi y4⟩, some ⟨true, 1, [VV.rf 3 0 y3.length, VV.rf 4 0 y4.length]⟩], .nil⟩
def Qco (a1 : Qg) (r3920 : (List Qd)) (r3922 : ((List Int) × (List Int) × (List Qd))) (r3924 : ((List Qd) × (List Qb))) (r3927 : (Bool × Int)) (r3929 : ((List Qd) × (List Qb) × ByteArray × (List Int) × (List Int))) (r3944 : (List Int)) (r : (List Int) × (List Int)) : VS := ⟨mkA [(8, VV.pt 1 0), (11, VV.pt 5 0)], [some ⟨true, 1, Ze a1⟩, some ⟨true, 1, [VV.c (.slice none 0 0), VV.c (.slice none 0 0)]⟩, some ⟨false, 1, [VV.fn 64 [VV.tp [VV.tr (flatMap Qc r3920) r3920.length] 0], VV.fn 66 [VV.tp [VV.tr (List.map vi r3922.1) r3922.1.length, VV.tr (List.map vi r3922.2.1) r3922.2.1.length] 0, VV.tp [VV.tr (flatMap Qc r3922.2.2) r3922.2.2.length] 0], VV.fn 71 [VV.tp [VV.tr (flatMap Qc r3924.1) r3924.1.length] 0, VV.tp [VV.tr (flatMap Qa r3924.2) r3924.2.length] 0], VV.fn 85 [VV.tp [vb r3927.1] 0, VV.tp [vi r3927.2] 0], VV.fn 74 [VV.tp [VV.tr (flatMap Qc r3929.1) r3929.1.length] 0, VV.tp [VV.tr (flatMap Qa r3929.2.1) r3929.2.1.length] 0, VV.tp [vs r3929.2.2.1] 0, VV.tp [VV.tr (List.map vi r3929.2.2.2.1) r3929.2.2.2.1.length, VV.tr (List.map vi r3929.2.2.2.2) r3929.2.2.2.2.length] 0]]⟩, some ⟨false, 1, List.map vi r.1⟩, some ⟨false, 1, List.map vi r.2⟩, some ⟨true, 1, [VV.rf 3 0 r.1.length, VV.rf 4 0 r.2.length]⟩], .nil⟩
def X6 (k : Nat) (a1 : Qg) (r3920 : (List Qd)) (r3922 : ((List Int) × (List Int) × (List Qd))) (r3924 : ((List Qd) × (List Qb))) (r3927 : (Bool × Int)) (r3929 : ((List Qd) × (List Qb) × ByteArray × (List Int) × (List Int))) (r3944 : (List Int)) : Nat -> (List Int) -> (List Int) -> Int -> Option ((List Int) × (List Int))
 | 0, _, _, _ => none
 | fuel + 1, y3, y4, x47 => if x47 < (r3944.length : Int) then (if 0 <= x47 /\ x47 < (r3944.length : Int) then (if 0 <= x47 /\ x47 < (y3.length : Int) then (if 0 <= x47 /\ x47 < (y4.length : Int) then (X6 k a1 r3920 r3922 r3924 r3927 r3929 r3944 fuel (y3.set x47.toNat (maxI 0 (w64 ((y3.getD x47.toNat 0) - (r3944.getD x47.toNat 0))))) (y4.set x47.toNat (w64 ((y4.getD x47.toNat 0) - (r3944.getD x47.toNat 0)))) (w64 (x47 + 1))) else none) else none) else none) else (some (y3, y4))
theorem Qgz (k : Nat) (a1 : Qg) (r3920 : (List Qd)) (r3922 : ((List Int) × (List Int) × (List Qd))) (r3924 : ((List Qd) × (List Qb))) (r3927 : (Bool × Int)) (r3929 : ((List Qd) × (List Qb) × ByteArray × (List Int) × (List Int))) (r3944 : (List Int)) : ∀ (fuel : Nat) (y3 : List Int) (y4 : List Int) (x47 : Int) (r : (List Int) × (List Int)), X6 k a1 r3920 r3922 r3924 r3927 r3929 r3944 fuel y3 y4 x47 = some r -> (Y0 none Try.prog (szF Try.f23) (J5 Try.f23 0) (Qcz a1 r3920 r3922 r3924 r3927 r3929 r3944 y3 y4 x47) (.exit 0) (Qco a1 r3920 r3922 r3924 r3927 r3929 r3944 r)) := by
 intro fuel
 induction fuel with
 | zero => intro y3 y4 x47 r h; rw [X6.eq_1] at h; cases h
 | succ fuel ih =>
  intro y3 y4 x47 r h
  rw [X6.eq_2] at h
  rcases ifs h with ⟨h3969, h⟩ | ⟨h3969, h⟩
  ·obtain ⟨h3970, h⟩ := ifn h
   have e3971 := (show Zg Try.prog 3 (x47.toNat * 1) (List.map vi r3944) = some (vi (r3944.getD x47.toNat 0)) from Qb4 ag3 vi r3944 0 h3970 (by omega))
   obtain ⟨h3972, h⟩ := ifn h
   have e3973 := (show Zg Try.prog 3 (0 + x47.toNat * 1) (List.map vi y3) = some (vi (y3.getD x47.toNat 0)) from Qb4 ag3 vi y3 0 h3972 (by omega))
   have e3974 := (show (0 + x47.toNat * 1) + 1 <= List.length (List.map vi y3) from (by simp only [length_map]; omega))
   have e3975 := (ti (ti (ti (ti (ti (ti (an h3972 (an e3973 (ti (ti (ti (an h3972 (an e3974 tt)))))))))))))
   obtain ⟨h3976, h⟩ := ifn h
   have e3977 := (show Zg Try.prog 3 (0 + x47.toNat * 1) (List.map vi y4) = some (vi (y4.getD x47.toNat 0)) from Qb4 ag3 vi y4 0 h3976 (by omega))
   have e3978 := (show (0 + x47.toNat * 1) + 1 <= List.length (List.map vi y4) from (by simp only [length_map]; omega))
   have e3979 := (ti (ti (ti (an h3976 (an e3977 (ti (ti (an h3976 (an e3978 tt)))))))))
   have h2 := ih _ _ _ _ h
   obtain ⟨q, hv, hq⟩ := pkR (rd := none) (P := Try.prog) (fn := Try.f23) (k := 0) (s := (Qcz a1 r3920 r3922 r3924 r3927 r3929 r3944 y3 y4 x47)) (ans := [.reg (.n :: []), .br true, .reg (.n :: .n :: .v (vi (r3944.getD x47.toNat 0)) :: .n :: .n :: []), .reg (nN 7 (.v (vi (y3.getD x47.toNat 0)) :: nN 5 [])), .reg (nN 4 (.v (vi (y4.getD x47.toNat 0)) :: nN 4 [])), .reg (.n :: .n :: [])]) (c := ⟨[(8, none), (11, none), (45, none), (46, none), (47, none)], [none, none, none, some (List.map vi (y3.set x47.toNat (maxI 0 (w64 ((y3.getD x47.toNat 0) - (r3944.getD x47.toNat 0)))))), some (List.map vi (y4.set x47.toNat (w64 ((y4.getD x47.toNat 0) - (r3944.getD x47.toNat 0))))), some [VV.rf 3 0 ((y3.set x47.toNat (maxI 0 (w64 ((y3.getD x47.toNat 0) - (r3944.getD x47.toNat 0))))).length), VV.rf 4 0 ((y4.set x47.toNat (w64 ((y4.getD x47.toNat 0) - (r3944.getD x47.toNat 0)))).length)]], []⟩) (e := .normal) (s1 := (Qcz a1 r3920 r3922 r3924 r3927 r3929 r3944 (y3.set x47.toNat (maxI 0 (w64 ((y3.getD x47.toNat 0) - (r3944.getD x47.toNat 0))))) (y4.set x47.toNat (w64 ((y4.getD x47.toNat 0) - (r3944.getD x47.toNat 0)))) (w64 (x47 + 1)))) (an (an (ti tt) (an (an (dt h3969) tt) (an (an (ti (an h3970 (an e3971 (ti (ti tt))))) (an e3975 e3979)) (ti (ti tt))))) (ti (an (show putT (0 + x47.toNat * 1) (List.map vi y3) [vi (maxI 0 (w64 ((y3.getD x47.toNat 0) - (r3944.getD x47.toNat 0))))] = List.map vi (y3.set x47.toNat (maxI 0 (w64 ((y3.getD x47.toNat 0) - (r3944.getD x47.toNat 0))))) from (by exact Qnz y3 h3972 (maxI 0 (w64 ((y3.getD x47.toNat 0) - (r3944.getD x47.toNat 0)))) (by omega))) (an (show putT (0 + x47.toNat * 1) (List.map vi y4) [vi (w64 ((y4.getD x47.toNat 0) - (r3944.getD x47.toNat 0)))] = List.map vi (y4.set x47.toNat (w64 ((y4.getD x47.toNat 0) - (r3944.getD x47.toNat 0)))) from (by exact Qnz y4 h3976 (w64 ((y4.getD x47.toNat 0) - (r3944.getD x47.toNat 0))) (by omega))) (an (show [VV.rf 3 0 y3.length, VV.rf 4 0 y4.length] = [VV.rf 3 0 ((y3.set x47.toNat (maxI 0 (w64 ((y3.getD x47.toNat 0) - (r3944.getD x47.toNat 0))))).length), VV.rf 4 0 ((y4.set x47.toNat (w64 ((y4.getD x47.toNat 0) - (r3944.getD x47.toNat 0)))).length)] from (by first | rfl | simp)) tt))))) (by kernel_rfl)
   exact Qw pm pn hv hq h2
  ·injection h with h; subst h
   exact Qv (c := ⟨[(8, none), (11, none)], [none, none, none, none, none, none], []⟩) (s1 := (Qco a1 r3920 r3922 r3924 r3927 r3929 r3944 (y3, y4))) pm pn (ans := [.reg (.n :: []), .br false]) (by kernel_rfl) (by intro e; cases e) (an (an (ti tt) (an (df h3969) tt)) (ti tt))
def Qvm (z0 : (List Qd)) (z1 : ((List Int) × (List Int) × (List Qd))) (z2 : ((List Qd) × (List Qb))) (z3 : (Bool × Int)) (z4 : ((List Qd) × (List Qb) × ByteArray × (List Int) × (List Int))) (z5 : Int) : List Ans := (.n :: .call (VV.fn 64 [VV.tp [VV.tr (flatMap Qc z0) z0.length] 0]) :: .n :: .n :: .call (VV.fn 66 [VV.tp [VV.tr (List.map vi z1.1) z1.1.length, VV.tr (List.map vi z1.2.1) z1.2.1.length] 0, VV.tp [VV.tr (flatMap Qc z1.2.2) z1.2.2.length] 0]) :: .n :: .n :: .call (VV.fn 71 [VV.tp [VV.tr (flatMap Qc z2.1) z2.1.length] 0, VV.tp [VV.tr (flatMap Qa z2.2) z2.2.length] 0]) :: .n :: .call (VV.fn 85 [VV.tp [vb z3.1] 0, VV.tp [vi z3.2] 0]) :: nN 4 (.call (VV.fn 74 [VV.tp [VV.tr (flatMap Qc z4.1) z4.1.length] 0, VV.tp [VV.tr (flatMap Qa z4.2.1) z4.2.1.length] 0, VV.tp [vs z4.2.2.1] 0, VV.tp [VV.tr (List.map vi z4.2.2.2.1) z4.2.2.2.1.length, VV.tr (List.map vi z4.2.2.2.2) z4.2.2.2.2.length] 0]) :: .n :: .call (vi z5) :: .n :: []))
def Q0d (z0 : (List Int)) (z1 : (List Int)) : List Ans := (.n :: .n :: .own (List.map vi z0) z0.length none (VV.fw 1 (List.map vi z0) z0.length) :: .n :: .n :: .own (List.map vi z1) z1.length none (VV.fw 1 (List.map vi z1) z1.length) :: nN 3 [])
theorem Q2h (z0 : (List Int) × (List Int)) : VV.tu [VV.ag [VV.fw 1 (List.drop 0 (List.map unfr (List.map vi z0.1))) z0.1.length, VV.fw 1 (List.drop 0 (List.map unfr (List.map vi z0.2))) z0.2.length], vi 0] = VV.tu [VV.ag [VV.fw 1 (List.map vi ((⟨z0.1, z0.2⟩ : Qg).Low)) (((⟨z0.1, z0.2⟩ : Qg).Low).length), VV.fw 1 (List.map vi ((⟨z0.1, z0.2⟩ : Qg).High)) (((⟨z0.1, z0.2⟩ : Qg).High).length)], vi 0] := by first | rfl | (simp only [Jz, Zc, map_cons, map_nil, un_i, length_map, length_cons, length_nil]; done) | (simp only [Jz, Zc, map_cons, map_nil, un_i, length_map, length_cons, length_nil]; rfl) | (simp only [Jz, Zc, map_cons, map_nil, un_i, length_map, length_cons, length_nil, length_cons, length_nil, length_append]; done)
def Qbw (k : Nat) (a0 : (List Qd)) (a1 : Qg) (a2 : (List Qb)) (a3 : ByteArray) : Option (Qg × Int) :=
 (Wx k a0).bind fun r3920 => ((Qap k a0 a1).bind fun r3922 => ((Yi k a0 a2).bind fun r3924 => ((Y7 k a3).bind fun r3927 => ((Qba k a0 a1 a2 a3).bind fun r3929 => ((Qp k (r3920, r3922, r3924, r3927, r3929)).bind fun r3932 => (if r3932 = 0 then ((Yo k a1.Low).bind fun r3937 => ((Yo k a1.High).bind fun r3940 => ((Qa4 k a0 a2 a3).bind fun r3944 => ((X6 k a1 r3920 r3922 r3924 r3927 r3929 r3944 k r3937 r3940 0).bind fun r3981 => (some ((⟨r3981.1, r3981.2⟩ : Qg), 0)))))) else (some ((⟨[], []⟩ : Qg), r3932))))))))
theorem Qjf (k : Nat) (a0 : (List Qd)) (a1 : Qg) (a2 : (List Qb)) (a3 : ByteArray) (r : (Qg × Int)) (h : Qbw k a0 a1 a2 a3 = some r) : VC Try.prog 23 [VV.tr (flatMap Qc a0) a0.length, VV.ag (Ze a1), VV.tr (flatMap Qa a2) a2.length, vs a3] (VV.tu [VV.ag [VV.fw 1 (List.map vi r.1.Low) r.1.Low.length, VV.fw 1 (List.map vi r.1.High) r.1.High.length], vi r.2]) := by
 unfold Qbw at h
 obtain ⟨r3920, h3921, h⟩ := bs h
 obtain ⟨r3922, h3923, h⟩ := bs h
 obtain ⟨r3924, h3925, h⟩ := bs h
 have e3926 := (Qch k a0 a2 _ h3925)
 obtain ⟨r3927, h3928, h⟩ := bs h
 obtain ⟨r3929, h3930, h⟩ := bs h
 have e3931 := (Qe2 k a0 a1 a2 a3 _ h3930)
 obtain ⟨r3932, h3933, h⟩ := bs h
 have e3934 := (VC.args (Xc k (r3920, r3922, r3924, r3927, r3929) _ h3933) (Q2g r3920 r3922 r3924 r3927 r3929))
 have e3935 := (ti (an (Qd1 k a0 _ h3921) (ti (ti (an (Qer k a0 a1 _ h3923) (ti (ti (an e3926 (ti (an (Qcv k a3 _ h3928) (ti (ti (ti (ti (an e3931 (ti (an e3934 (ti tt))))))))))))))))))
 rcases ifs h with ⟨h3936, h⟩ | ⟨h3936, h⟩
 ·obtain ⟨r3937, h3938, h⟩ := bs h
  have e3939 := (show VC Try.prog 55 [VV.tr (List.map vi a1.Low) a1.Low.length] (VV.fw 1 (List.map vi r3937) r3937.length) /\ (List.map vi r3937 = List.map vi r3937 /\ r3937.length = r3937.length) /\ List.all (List.map vi r3937) VV.isC = true /\ (r3937.length = 0 -> List.map vi r3937 = []) from ⟨Qdb k a1.Low _ h3938, ⟨rfl, rfl⟩, Qzb _, fun h => by rw [List.length_eq_zero_iff.1 h]; rfl⟩)
  obtain ⟨r3940, h3941, h⟩ := bs h
  have e3942 := (show VC Try.prog 55 [VV.tr (List.map vi a1.High) a1.High.length] (VV.fw 1 (List.map vi r3940) r3940.length) /\ (List.map vi r3940 = List.map vi r3940 /\ r3940.length = r3940.length) /\ List.all (List.map vi r3940) VV.isC = true /\ (r3940.length = 0 -> List.map vi r3940 = []) from ⟨Qdb k a1.High _ h3941, ⟨rfl, rfl⟩, Qzb _, fun h => by rw [List.length_eq_zero_iff.1 h]; rfl⟩)
  have e3943 := (ti (ti (an e3939 (ti (ti (an e3942 (ti (ti (ti tt)))))))))
  obtain ⟨r3944, h3945, h⟩ := bs h
  have e3946 := (show VC Try.prog 56 [VV.tr (flatMap Qc a0) a0.length, VV.tr (flatMap Qa a2) a2.length, vs a3] (VV.fr (List.map vi r3944) r3944.length) from (VC.weak (Qgu k a0 a2 a3 _ h3945) (Wv.fw rfl rfl)))
  obtain ⟨r3981, h3980, h⟩ := bs h
  have hph3980 := Qgz k a1 r3920 r3922 r3924 r3927 r3929 r3944 _ _ _ _ _ h3980
  have e3982 := (an (ti tt) (VRun.loop hph3980))
  injection h with h; subst h
  exact Qq pm pn Try.func23 (r0 := VV.tu [VV.ag [VV.fw 1 (List.drop 0 (List.map unfr (List.map vi r3981.1))) r3981.1.length, VV.fw 1 (List.drop 0 (List.map unfr (List.map vi r3981.2))) r3981.2.length], vi 0]) (ans := [.reg (nN 3 []), .reg (Qvm r3920 r3922 r3924 r3927 r3929 r3932), .reg (.n :: .n :: []), .br false, .reg (Q0d r3937 r3940), .reg (nN 3 (.call (VV.fr (List.map vi r3944) r3944.length) :: .n :: .n :: [])), .sub ⟨[(8, none), (11, none), (45, none), (46, none), (47, none)], [none, none, none, none, none, none], []⟩ (.exit 0) (Qco a1 r3920 r3922 r3924 r3927 r3929 r3944 r3981), .reg (nN 3 [])]) (fr := true) (by kernel_rfl) (an (an (ti (ti (ti tt))) (an e3935 (an (an (ti (ti tt)) (an (Qs (dt h3936)) tt)) (an e3943 (an (an (ti (ti (ti (an e3946 (ti (ti tt)))))) e3982) (an (ti (ti (ti tt))) tt)))))) (an (ti (an (show List.all (List.map vi r3981.1) new0 = true from (by exact Qha _)) (an (show List.all (List.map vi r3981.2) new0 = true from (by exact Qha _)) tt))) (ti tt))) (Wv.of_eq (Q2h r3981))
 ·injection h with h; subst h
  exact Qq pm pn Try.func23 (r0 := VV.tu [VV.ag [VV.c (.slice none 0 0), VV.c (.slice none 0 0)], vi r3932]) (ans := [.reg (nN 3 []), .reg (Qvm r3920 r3922 r3924 r3927 r3929 r3932), .reg (.n :: .n :: []), .br true, .reg (nN 4 [])]) (fr := true) (by kernel_rfl) (an (an (ti (ti (ti tt))) (an e3935 (an (ti (ti tt)) (an (Zj (df h3936)) (an (ti (ti (ti (ti tt)))) tt))))) (an (ti (ti (ti tt))) (ti tt))) (Wv.tuL (.cons (Wv.agL (.cons Wv.Qmb (.cons Wv.Qmb .nil))) (.cons (Wv.refl _) .nil)))
def Ym (a0 : (List Qd)) (a1 : (List Qb)) (x5 : Int) : VS := ⟨mkA [(0, VV.tr (flatMap Qc a0) a0.length), (1, VV.tr (flatMap Qa a1) a1.length), (5, vi x5)], [], .nil⟩
def Jk (a0 : (List Qd)) (a1 : (List Qb)) (r : Int) : VS := ⟨mkA [(4, vi r)], [], .nil⟩
def Wy (a0 : (List Qd)) (a1 : (List Qb)) (r : Unit) : VS := ⟨mkA [], [], .nil⟩
def Zy (k : Nat) (a0 : (List Qd)) (a1 : (List Qb)) : Nat -> Int -> Option (Sum Int Unit)
 | 0, _ => none
 | fuel + 1, x5 => if x5 < (a1.length : Int) then (if 0 <= x5 /\ x5 < (a1.length : Int) then ((Yh k ((a1.getD x5.toNat default).Mirror)).bind fun r4094 => (if r4094 = true then ((Xf k a0 ((a1.getD x5.toNat default).Stroke)).bind fun r4100 => (if r4100 < 0 then (some (.inl 6)) else ((Jc k ((a1.getD x5.toNat default).Minutes) 1 10000).bind fun r4106 => (if r4106 = true then (Zy k a0 a1 fuel (w64 (x5 + 1))) else (some (.inl 2)))))) else (some (.inl 4)))) else none) else (some (.inr ()))
theorem Qea (k : Nat) (a0 : (List Qd)) (a1 : (List Qb)) : ∀ (fuel : Nat) (x5 : Int) (r : Sum Int Unit), Zy k a0 a1 fuel x5 = some r -> (match r with | .inl r => Y0 none Try.prog (szF Try.f24) (J5 Try.f24 0) (Ym a0 a1 x5) .ret (Jk a0 a1 r) | .inr r => Y0 none Try.prog (szF Try.f24) (J5 Try.f24 0) (Ym a0 a1 x5) (.exit 0) (Wy a0 a1 r)) := by
 intro fuel
 induction fuel with
 | zero => intro x5 r h; rw [Zy.eq_1] at h; cases h
 | succ fuel ih =>
  intro x5 r h
  rw [Zy.eq_2] at h
  rcases ifs h with ⟨h4091, h⟩ | ⟨h4091, h⟩
  ·obtain ⟨h4092, h⟩ := ifn h
   have e4093 := (show Zg Try.prog 9 (x5.toNat * 3 + 0) (flatMap Qa a1) = some (vs ((a1.getD x5.toNat default).Mirror)) from (Xn ag9 Qa 3 0 Qx (by omega) a1 default h4092 (by omega)).trans rfl)
   obtain ⟨r4094, h4095, h⟩ := bs h
   have e4096 := (Qcb k ((a1.getD x5.toNat default).Mirror) _ h4095)
   have e4097 := (ti (ti (an h4092 (ti (an e4093 (an e4096 (ti tt)))))))
   rcases ifs h with ⟨h4098, h⟩ | ⟨h4098, h⟩
   ·have e4099 := (show Zg Try.prog 9 (x5.toNat * 3 + 1) (flatMap Qa a1) = some (vs ((a1.getD x5.toNat default).Stroke)) from (Xn ag9 Qa 3 1 Qx (by omega) a1 default h4092 (by omega)).trans rfl)
    obtain ⟨r4100, h4101, h⟩ := bs h
    have e4102 := (Qbt k a0 ((a1.getD x5.toNat default).Stroke) _ h4101)
    have e4103 := (ti (ti (ti (an h4092 (ti (an e4099 (an e4102 (ti tt))))))))
    rcases ifs h with ⟨h4104, h⟩ | ⟨h4104, h⟩
    ·injection h with h; subst h
     exact Qv (c := ⟨[(4, none)], [], []⟩) (s1 := (Jk a0 a1 6)) pm pn (ans := [.reg (nN 4 []), .br true, .reg (nN 4 (.v (vs ((a1.getD x5.toNat default).Mirror)) :: .call (vb r4094) :: .n :: [])), .br false, .reg (nN 5 (.v (vs ((a1.getD x5.toNat default).Stroke)) :: .call (vi r4100) :: .n :: [])), .br true, .reg (.n :: [])]) (by kernel_rfl) (by intro e; cases e) (an (an (an (ti (ti (ti (ti tt)))) (an (dt h4091) tt)) (an (an e4097 (an (Qs h4098) tt)) (an e4103 (an (dt h4104) (an (ti tt) tt))))) (ti tt))
    ·have e4105 := (show Zg Try.prog 3 (x5.toNat * 3 + 2) (flatMap Qa a1) = some (vi ((a1.getD x5.toNat default).Minutes)) from (Xn ag3 Qa 3 2 Qx (by omega) a1 default h4092 (by omega)).trans rfl)
     obtain ⟨r4106, h4107, h⟩ := bs h
     have e4108 := (Y4 k ((a1.getD x5.toNat default).Minutes) 1 10000 _ h4107)
     have e4109 := (ti (ti (an h4092 (ti (an e4105 (an e4108 (ti tt)))))))
     rcases ifs h with ⟨h4110, h⟩ | ⟨h4110, h⟩
     ·have h2 := ih _ _ h
      obtain ⟨q, hv, hq⟩ := pkR (rd := none) (P := Try.prog) (fn := Try.f24) (k := 0) (s := (Ym a0 a1 x5)) (ans := [.reg (nN 4 []), .br true, .reg (nN 4 (.v (vs ((a1.getD x5.toNat default).Mirror)) :: .call (vb r4094) :: .n :: [])), .br false, .reg (nN 5 (.v (vs ((a1.getD x5.toNat default).Stroke)) :: .call (vi r4100) :: .n :: [])), .br false, .reg (nN 4 (.v (vi ((a1.getD x5.toNat default).Minutes)) :: .call (vb r4106) :: .n :: [])), .br false, .reg (nN 3 [])]) (c := ⟨[(0, none), (1, none), (5, none)], [], []⟩) (e := .normal) (s1 := (Ym a0 a1 (w64 (x5 + 1)))) (an (an (an (ti (ti (ti (ti tt)))) (an (dt h4091) tt)) (an (an (an e4097 (an (Qs h4098) tt)) (an (an e4103 (an (df h4104) tt)) (an e4109 (an (Qs h4110) tt)))) (ti (ti (ti tt))))) (ti tt)) (by kernel_rfl)
      cases r with
      | inl r => exact Qw pm pn hv hq h2
      | inr r =>
       exact Qw pm pn hv hq h2
     ·injection h with h; subst h
      exact Qv (c := ⟨[(4, none)], [], []⟩) (s1 := (Jk a0 a1 2)) pm pn (ans := [.reg (nN 4 []), .br true, .reg (nN 4 (.v (vs ((a1.getD x5.toNat default).Mirror)) :: .call (vb r4094) :: .n :: [])), .br false, .reg (nN 5 (.v (vs ((a1.getD x5.toNat default).Stroke)) :: .call (vi r4100) :: .n :: [])), .br false, .reg (nN 4 (.v (vi ((a1.getD x5.toNat default).Minutes)) :: .call (vb r4106) :: .n :: [])), .br true, .reg (.n :: [])]) (by kernel_rfl) (by intro e; cases e) (an (an (an (ti (ti (ti (ti tt)))) (an (dt h4091) tt)) (an (an e4097 (an (Qs h4098) tt)) (an (an e4103 (an (df h4104) tt)) (an e4109 (an (Zj (Zm h4110)) (an (ti tt) tt)))))) (ti tt))
   ·injection h with h; subst h
    exact Qv (c := ⟨[(4, none)], [], []⟩) (s1 := (Jk a0 a1 4)) pm pn (ans := [.reg (nN 4 []), .br true, .reg (nN 4 (.v (vs ((a1.getD x5.toNat default).Mirror)) :: .call (vb r4094) :: .n :: [])), .br true, .reg (.n :: [])]) (by kernel_rfl) (by intro e; cases e) (an (an (an (ti (ti (ti (ti tt)))) (an (dt h4091) tt)) (an e4097 (an (Zj (Zm h4098)) (an (ti tt) tt)))) (ti tt))
  ·injection h with h; subst h
   exact Qv (c := ⟨[], [], []⟩) (s1 := (Wy a0 a1 ())) pm pn (ans := [.reg (nN 4 []), .br false]) (by kernel_rfl) (by intro e; cases e) (an (an (ti (ti (ti (ti tt)))) (an (df h4091) tt)) (ti tt))
def Js (k : Nat) (a0 : (List Qd)) (a1 : (List Qb)) : Option Int :=
 if 200 < (a1.length : Int) then (some 8) else ((Zy k a0 a1 k 0).bind fun r4112 => (match r4112 with | .inl r4113 => (some r4113) | .inr r4114 => (some 0)))
theorem Qbr (k : Nat) (a0 : (List Qd)) (a1 : (List Qb)) (r : Int) (h : Js k a0 a1 = some r) : VC Try.prog 24 [VV.tr (flatMap Qc a0) a0.length, VV.tr (flatMap Qa a1) a1.length] (vi r) := by
 unfold Js at h
 rcases ifs h with ⟨h4050, h⟩ | ⟨h4050, h⟩
 ·injection h with h; subst h
  exact Qq pm pn Try.func24 (r0 := vi 8) (ans := [.reg (.n :: []), .reg (nN 3 []), .br true, .reg (.n :: [])]) (fr := true) (by kernel_rfl) (an (an (ti tt) (an (ti (ti (ti tt))) (an (dt h4050) (an (ti tt) tt)))) (ti tt)) (Wv.refl _)
 ·obtain ⟨r4112, h4111, h⟩ := bs h
  have hph4111 := Qea k a0 a1 _ _ _ h4111
  cases r4112 with
  | inl r4113 =>
   dsimp only at h
   have e4115 := (an (ti tt) (VRun.loop hph4111))
   injection h with h; subst h
   exact Qq pm pn Try.func24 (r0 := vi r4113) (ans := [.reg (.n :: []), .reg (nN 3 []), .br false, .reg (.n :: []), .sub ⟨[(0, none), (1, none), (5, none)], [], []⟩ .ret (Jk a0 a1 r4113)]) (fr := true) (by kernel_rfl) (an (an (ti tt) (an (an (ti (ti (ti tt))) (an (df h4050) tt)) (an (ti tt) e4115))) (ti tt)) (Wv.refl _)
  | inr r4114 =>
   dsimp only at h
   have e4116 := (an (ti tt) (VRun.loop hph4111))
   injection h with h; subst h
   exact Qq pm pn Try.func24 (r0 := vi 0) (ans := [.reg (.n :: []), .reg (nN 3 []), .br false, .reg (.n :: []), .sub ⟨[(0, none), (1, none), (5, none)], [], []⟩ (.exit 0) (Wy a0 a1 r4114), .reg (.n :: [])]) (fr := true) (by kernel_rfl) (an (an (ti tt) (an (an (ti (ti (ti tt))) (an (df h4050) tt)) (an (an (ti tt) e4116) (an (ti tt) tt)))) (ti tt)) (Wv.refl _)
def Q0e (z0 : List Int) (z1 : Int) (z2 : (List Qb)) (z3 : Int) (z4 : (List Qd)) (z5 : Int) : List Ans := (nN 5 (.v (vi (z0.getD z1.toNat 0)) :: nN 4 (.v (vi ((z2.getD z3.toNat default).Minutes)) :: nN 4 (.v (VV.tr (List.map vi ((z4.getD z5.toNat default).Wear)) (((z4.getD z5.toNat default).Wear).length)) :: .n :: .n :: .v (vi (((z4.getD z5.toNat default).Wear).getD z1.toNat 0)) :: nN 4 []))))
def Qa5 (a0 : (List Qd)) (a1 : (List Qb)) (a2 : ByteArray) (x8 : Int) (r4389 : Int) (y0z : List Int) (x10 : Int) : VS := ⟨mkA [(0, VV.tr (flatMap Qc a0) a0.length), (1, VV.tr (flatMap Qa a1) a1.length), (2, vs a2), (7, VV.rf 0 0 y0z.length), (8, vi x8), (9, vi r4389), (10, vi x10)], [some ⟨false, 1, List.map vi y0z⟩], .nil⟩
def Qat (a0 : (List Qd)) (a1 : (List Qb)) (a2 : ByteArray) (x8 : Int) (r4389 : Int) (r : (List Int)) : VS := ⟨mkA [(0, VV.tr (flatMap Qc a0) a0.length), (1, VV.tr (flatMap Qa a1) a1.length), (2, vs a2), (7, VV.rf 0 0 r.length), (8, vi x8)], [some ⟨false, 1, List.map vi r⟩], .nil⟩
def Xa (k : Nat) (a0 : (List Qd)) (a1 : (List Qb)) (a2 : ByteArray) (x8 : Int) (r4389 : Int) : Nat -> (List Int) -> Int -> Option ((List Int))
 | 0, _, _ => none
 | fuel + 1, y0z, x10 => if x10 < ((y0z.length : Nat) : Int) then (if 0 <= x10 /\ x10 < (y0z.length : Int) then (if 0 <= x8 /\ x8 < (a1.length : Int) then (if 0 <= r4389 /\ r4389 < (a0.length : Int) then (if 0 <= x10 /\ x10 < (((a0.getD r4389.toNat default).Wear).length : Int) then (Xa k a0 a1 a2 x8 r4389 fuel (y0z.set x10.toNat (w64 ((y0z.getD x10.toNat 0) + (w64 (((a1.getD x8.toNat default).Minutes) * (((a0.getD r4389.toNat default).Wear).getD x10.toNat 0)))))) (w64 (x10 + 1))) else none) else none) else none) else none) else (some y0z)
theorem Qex (k : Nat) (a0 : (List Qd)) (a1 : (List Qb)) (a2 : ByteArray) (x8 : Int) (r4389 : Int) : ∀ (fuel : Nat) (y0z : List Int) (x10 : Int) (r : (List Int)), Xa k a0 a1 a2 x8 r4389 fuel y0z x10 = some r -> (Y0 none Try.prog (szF Try.f53) (J5 Try.f53 1) (Qa5 a0 a1 a2 x8 r4389 y0z x10) (.exit 2) (Qat a0 a1 a2 x8 r4389 r)) := by
 intro fuel
 induction fuel with
 | zero => intro y0z x10 r h; rw [Xa.eq_1] at h; cases h
 | succ fuel ih =>
  intro y0z x10 r h
  rw [Xa.eq_2] at h
  rcases ifs h with ⟨h4415, h⟩ | ⟨h4415, h⟩
  ·obtain ⟨h4416, h⟩ := ifn h
   have e4417 := (show Zg Try.prog 3 (0 + x10.toNat * 1) (List.map vi y0z) = some (vi (y0z.getD x10.toNat 0)) from Qb4 ag3 vi y0z 0 h4416 (by omega))
   obtain ⟨h4418, h⟩ := ifn h
   have e4419 := (show Zg Try.prog 3 (x8.toNat * 3 + 2) (flatMap Qa a1) = some (vi ((a1.getD x8.toNat default).Minutes)) from (Xn ag3 Qa 3 2 Qx (by omega) a1 default h4418 (by omega)).trans rfl)
   obtain ⟨h4420, h⟩ := ifn h
   have e4421 := (show Zg Try.prog 23 (r4389.toNat * 2 + 1) (flatMap Qc a0) = some (VV.tr (List.map vi ((a0.getD r4389.toNat default).Wear)) (((a0.getD r4389.toNat default).Wear).length)) from (Xn ag23 Qc 2 1 Q7 (by omega) a0 default h4420 (by omega)).trans rfl)
   obtain ⟨h4422, h⟩ := ifn h
   have e4423 := (show Zg Try.prog 3 (x10.toNat * 1) (List.map vi ((a0.getD r4389.toNat default).Wear)) = some (vi (((a0.getD r4389.toNat default).Wear).getD x10.toNat 0)) from Qb4 ag3 vi ((a0.getD r4389.toNat default).Wear) 0 h4422 (by omega))
   have e4424 := (show (0 + x10.toNat * 1) + 1 <= List.length (List.map vi y0z) from (by simp only [length_map]; omega))
   have e4425 := (ti (ti (ti (ti (an h4416 (an e4417 (ti (ti (an h4418 (ti (an e4419 (ti (ti (an h4420 (ti (an e4421 (ti (an h4422 (an e4423 (ti (ti (an h4416 (an e4424 tt)))))))))))))))))))))))
   have h2 := ih _ _ _ h
   obtain ⟨q, hv, hq⟩ := pkR (rd := none) (P := Try.prog) (fn := Try.f53) (k := 1) (s := (Qa5 a0 a1 a2 x8 r4389 y0z x10)) (ans := [.reg (nN 4 []), .br true, .reg (Q0e y0z x10 a1 x8 a0 r4389), .reg (nN 3 [])]) (c := ⟨[(0, none), (1, none), (2, none), (7, some (VV.rf 0 0 ((y0z.set x10.toNat (w64 ((y0z.getD x10.toNat 0) + (w64 (((a1.getD x8.toNat default).Minutes) * (((a0.getD r4389.toNat default).Wear).getD x10.toNat 0)))))).length))), (8, none), (9, none), (10, none)], [some (List.map vi (y0z.set x10.toNat (w64 ((y0z.getD x10.toNat 0) + (w64 (((a1.getD x8.toNat default).Minutes) * (((a0.getD r4389.toNat default).Wear).getD x10.toNat 0)))))))], []⟩) (e := .normal) (s1 := (Qa5 a0 a1 a2 x8 r4389 (y0z.set x10.toNat (w64 ((y0z.getD x10.toNat 0) + (w64 (((a1.getD x8.toNat default).Minutes) * (((a0.getD r4389.toNat default).Wear).getD x10.toNat 0)))))) (w64 (x10 + 1)))) (an (an (an (ti (ti (ti (ti tt)))) (an (dt h4415) tt)) (an e4425 (ti (ti (ti tt))))) (an (an (show Wv (VV.rf 0 0 y0z.length) (VV.rf 0 0 ((y0z.set x10.toNat (w64 ((y0z.getD x10.toNat 0) + (w64 (((a1.getD x8.toNat default).Minutes) * (((a0.getD r4389.toNat default).Wear).getD x10.toNat 0)))))).length)) from (Wv.of_eq (by simp))) tt) (an (show putT (0 + x10.toNat * 1) (List.map vi y0z) [vi (w64 ((y0z.getD x10.toNat 0) + (w64 (((a1.getD x8.toNat default).Minutes) * (((a0.getD r4389.toNat default).Wear).getD x10.toNat 0)))))] = List.map vi (y0z.set x10.toNat (w64 ((y0z.getD x10.toNat 0) + (w64 (((a1.getD x8.toNat default).Minutes) * (((a0.getD r4389.toNat default).Wear).getD x10.toNat 0)))))) from (by exact Qnz y0z h4416 (w64 ((y0z.getD x10.toNat 0) + (w64 (((a1.getD x8.toNat default).Minutes) * (((a0.getD r4389.toNat default).Wear).getD x10.toNat 0))))) (by omega))) tt))) (by kernel_rfl)
   exact Qw pm pn hv hq h2
  ·injection h with h; subst h
   exact Qv (c := ⟨[(0, none), (1, none), (2, none), (7, none), (8, none)], [none], []⟩) (s1 := (Qat a0 a1 a2 x8 r4389 y0z)) pm pn (ans := [.reg (nN 4 []), .br false]) (by kernel_rfl) (by intro e; cases e) (an (an (ti (ti (ti (ti tt)))) (an (df h4415) tt)) (ti tt))
def J9 (a0 : (List Qd)) (a1 : (List Qb)) (a2 : ByteArray) (y0 : List Int) (x8 : Int) : VS := ⟨mkA [(0, VV.tr (flatMap Qc a0) a0.length), (1, VV.tr (flatMap Qa a1) a1.length), (2, vs a2), (7, VV.rf 0 0 y0.length), (8, vi x8)], [some ⟨false, 1, List.map vi y0⟩], .nil⟩
def Qau (a0 : (List Qd)) (a1 : (List Qb)) (a2 : ByteArray) (r : (List Int)) : VS := ⟨mkA [(7, VV.rf 0 0 r.length)], [some ⟨false, 1, List.map vi r⟩], .nil⟩
def Zx (k : Nat) (a0 : (List Qd)) (a1 : (List Qb)) (a2 : ByteArray) : Nat -> (List Int) -> Int -> Option ((List Int))
 | 0, _, _ => none
 | fuel + 1, y0, x8 => if x8 < (a1.length : Int) then (if 0 <= x8 /\ x8 < (a1.length : Int) then (if ((a1.getD x8.toNat default).Mirror) = a2 then ((Xf k a0 ((a1.getD x8.toNat default).Stroke)).bind fun r4389 => ((Xa k a0 a1 a2 x8 r4389 k y0 0).bind fun r4427 => (Zx k a0 a1 a2 fuel r4427 (w64 (x8 + 1))))) else (Zx k a0 a1 a2 fuel y0 (w64 (x8 + 1)))) else none) else (some y0)
theorem Qey (k : Nat) (a0 : (List Qd)) (a1 : (List Qb)) (a2 : ByteArray) : ∀ (fuel : Nat) (y0 : List Int) (x8 : Int) (r : (List Int)), Zx k a0 a1 a2 fuel y0 x8 = some r -> (Y0 none Try.prog (szF Try.f53) (J5 Try.f53 0) (J9 a0 a1 a2 y0 x8) (.exit 0) (Qau a0 a1 a2 r)) := by
 intro fuel
 induction fuel with
 | zero => intro y0 x8 r h; rw [Zx.eq_1] at h; cases h
 | succ fuel ih =>
  intro y0 x8 r h
  rw [Zx.eq_2] at h
  rcases ifs h with ⟨h4383, h⟩ | ⟨h4383, h⟩
  ·obtain ⟨h4384, h⟩ := ifn h
   have e4385 := (show Zg Try.prog 9 (x8.toNat * 3 + 0) (flatMap Qa a1) = some (vs ((a1.getD x8.toNat default).Mirror)) from (Xn ag9 Qa 3 0 Qx (by omega) a1 default h4384 (by omega)).trans rfl)
   have e4386 := (ti (ti (an h4384 (ti (an e4385 (ti (ti tt)))))))
   rcases ifs h with ⟨h4387, h⟩ | ⟨h4387, h⟩
   ·have e4388 := (show Zg Try.prog 9 (x8.toNat * 3 + 1) (flatMap Qa a1) = some (vs ((a1.getD x8.toNat default).Stroke)) from (Xn ag9 Qa 3 1 Qx (by omega) a1 default h4384 (by omega)).trans rfl)
    obtain ⟨r4389, h4390, h⟩ := bs h
    have e4391 := (Qbt k a0 ((a1.getD x8.toNat default).Stroke) _ h4390)
    have e4392 := (ti (ti (ti (an h4384 (ti (an e4388 (an e4391 (ti tt))))))))
    obtain ⟨r4427, h4426, h⟩ := bs h
    have hph4426 := Qex k a0 a1 a2 x8 r4389 _ _ _ _ h4426
    have e4428 := (an (ti tt) (VRun.loop hph4426))
    have h2 := ih _ _ _ h
    obtain ⟨q, hv, hq⟩ := pkR (rd := none) (P := Try.prog) (fn := Try.f53) (k := 0) (s := (J9 a0 a1 a2 y0 x8)) (ans := [.reg (nN 4 []), .br true, .reg (nN 4 (.v (vs ((a1.getD x8.toNat default).Mirror)) :: .n :: .n :: [])), .br false, .reg (nN 5 (.v (vs ((a1.getD x8.toNat default).Stroke)) :: .call (vi r4389) :: .n :: [])), .reg (.n :: []), .sub ⟨[(0, none), (1, none), (2, none), (7, none), (8, none), (9, none), (10, none)], [none], []⟩ (.exit 2) (Qat a0 a1 a2 x8 r4389 r4427), .reg (nN 3 [])]) (c := ⟨[(0, none), (1, none), (2, none), (7, none), (8, none)], [none], []⟩) (e := .normal) (s1 := (J9 a0 a1 a2 r4427 (w64 (x8 + 1)))) (an (an (an (ti (ti (ti (ti tt)))) (an (dt h4383) tt)) (an (an (an e4386 (an (Qs (dt h4387)) tt)) (an e4392 (an (ti tt) e4428))) (ti (ti (ti tt))))) (ti tt)) (by kernel_rfl)
    exact Qw pm pn hv hq h2
   ·have h2 := ih _ _ _ h
    obtain ⟨q, hv, hq⟩ := pkR (rd := none) (P := Try.prog) (fn := Try.f53) (k := 0) (s := (J9 a0 a1 a2 y0 x8)) (ans := [.reg (nN 4 []), .br true, .reg (nN 4 (.v (vs ((a1.getD x8.toNat default).Mirror)) :: .n :: .n :: [])), .br true, .reg (nN 3 [])]) (c := ⟨[(0, none), (1, none), (2, none), (7, none), (8, none)], [none], []⟩) (e := .normal) (s1 := (J9 a0 a1 a2 y0 (w64 (x8 + 1)))) (an (an (an (ti (ti (ti (ti tt)))) (an (dt h4383) tt)) (an (an e4386 (an (Zj (df h4387)) tt)) (ti (ti (ti tt))))) (ti tt)) (by kernel_rfl)
    exact Qw pm pn hv hq h2
  ·injection h with h; subst h
   exact Qv (c := ⟨[(7, none)], [none], []⟩) (s1 := (Qau a0 a1 a2 y0)) pm pn (ans := [.reg (nN 4 []), .br false]) (by kernel_rfl) (by intro e; cases e) (an (an (ti (ti (ti (ti tt)))) (an (df h4383) tt)) (ti tt))
def Q0f (z0 : (List Qd)) : List Ans := (nN 3 (.v (VV.tr (List.map vi ((z0.getD ((0 : Int)).toNat default).Wear)) (((z0.getD ((0 : Int)).toNat default).Wear).length)) :: nN 3 []))
def Jp (k : Nat) (a0 : (List Qd)) (a1 : (List Qb)) (a2 : ByteArray) : Option (List Int) :=
 if (0 : Int) <= 0 /\ 0 < (a0.length : Int) then (if 0 <= (((a0.getD ((0 : Int)).toNat default).Wear).length : Int) /\ (((a0.getD ((0 : Int)).toNat default).Wear).length : Int) <= 1000000000 then ((Zx k a0 a1 a2 k (List.replicate (((a0.getD ((0 : Int)).toNat default).Wear).length : Int).toNat (0 : Int)) 0).bind fun r4430 => (some r4430)) else none) else none
theorem Qdn (k : Nat) (a0 : (List Qd)) (a1 : (List Qb)) (a2 : ByteArray) (r : (List Int)) (h : Jp k a0 a1 a2 = some r) : VC Try.prog 53 [VV.tr (flatMap Qc a0) a0.length, VV.tr (flatMap Qa a1) a1.length, vs a2] (VV.fw 1 (List.map vi r) r.length) := by
 unfold Jp at h
 obtain ⟨h4283, h⟩ := ifn h
 have e4284 := (show Zg Try.prog 23 (((0 : Int)).toNat * 2 + 1) (flatMap Qc a0) = some (VV.tr (List.map vi ((a0.getD ((0 : Int)).toNat default).Wear)) (((a0.getD ((0 : Int)).toNat default).Wear).length)) from (Xn ag23 Qc 2 1 Q7 (by omega) a0 default h4283 (by omega)).trans rfl)
 obtain ⟨h4285, h⟩ := ifn h
 have e4286 := (show 0 <= (((a0.getD ((0 : Int)).toNat default).Wear).length : Int) /\ (((a0.getD ((0 : Int)).toNat default).Wear).length : Int) = (((a0.getD ((0 : Int)).toNat default).Wear).length : Int) /\ (8 * (((a0.getD ((0 : Int)).toNat default).Wear).length : Int).toNat) <= 281474976710656 /\ (((a0.getD ((0 : Int)).toNat default).Wear).length : Int) < 1099511627776 from ⟨by omega, rfl, by omega, by omega⟩)
 have e4287 := (ti (an h4283 (ti (an e4284 (ti (an e4286 (ti tt)))))))
 obtain ⟨r4430, h4429, h⟩ := bs h
 have hph4429 := Qey k a0 a1 a2 _ _ _ _ h4429
 have e4431 := (an (an (an (show Wv (VV.rf 0 0 ((((a0.getD ((0 : Int)).toNat default).Wear).length : Int).toNat)) (VV.rf 0 0 ((List.replicate (((a0.getD ((0 : Int)).toNat default).Wear).length : Int).toNat (0 : Int)).length)) from (Wv.of_eq (by simp))) tt) (an (show List.replicate (((a0.getD ((0 : Int)).toNat default).Wear).length : Int).toNat (VV.c (.int .i64 0)) = List.map vi (List.replicate (((a0.getD ((0 : Int)).toNat default).Wear).length : Int).toNat (0 : Int)) from Qj3 _) tt)) (VRun.loop hph4429))
 injection h with h; subst h
 exact Qq pm pn Try.func53 (r0 := VV.fw 1 (List.drop 0 (List.map unfr (List.map vi r4430))) r4430.length) (ans := [.reg (.n :: []), .reg (Q0f a0), .reg (.n :: []), .sub ⟨[(0, none), (1, none), (2, none), (7, some (VV.rf 0 0 ((List.replicate (((a0.getD ((0 : Int)).toNat default).Wear).length : Int).toNat (0 : Int)).length))), (8, none)], [some (List.map vi (List.replicate (((a0.getD ((0 : Int)).toNat default).Wear).length : Int).toNat (0 : Int)))], []⟩ (.exit 0) (Qau a0 a1 a2 r4430), .reg (.n :: .n :: [])]) (fr := true) (by kernel_rfl) (an (an (ti tt) (an e4287 (an (an (ti tt) e4431) (an (ti (ti tt)) tt)))) (an (show List.all (List.map vi r4430) new0 = true from (by exact Qha _)) tt)) (Wv.of_eq (Qza r4430))
def Qvn (z0 : (List Int)) (z1 : Int) (z2 : Qg) : List Ans := (nN 3 (.v (vi (z0.getD z1.toNat 0)) :: nN 4 (.v (vi (z2.High.getD z1.toNat 0)) :: .n :: [])))
def Wj (a0 : Qg) (a1 : (List Int)) (x5 : Int) : VS := ⟨mkA [(1, VV.tr (List.map vi a1) a1.length), (2, VV.pt 0 0), (5, vi x5)], [some ⟨true, 1, Ze a0⟩], .nil⟩
def Qbk (a0 : Qg) (a1 : (List Int)) (r : Unit) : VS := ⟨mkA [(4, vb true)], [], .nil⟩
def Qbl (a0 : Qg) (a1 : (List Int)) (r : Unit) : VS := ⟨mkA [], [], .nil⟩
def Xj (k : Nat) (a0 : Qg) (a1 : (List Int)) : Nat -> Int -> Option (Sum Unit Unit)
 | 0, _ => none
 | fuel + 1, x5 => if x5 < (a1.length : Int) then (if 0 <= x5 /\ x5 < (a1.length : Int) then (if 0 <= x5 /\ x5 < (a0.High.length : Int) then (if (a0.High.getD x5.toNat 0) < (a1.getD x5.toNat 0) then (some (.inl ())) else (Xj k a0 a1 fuel (w64 (x5 + 1)))) else none) else none) else (some (.inr ()))
theorem Qfm (k : Nat) (a0 : Qg) (a1 : (List Int)) : ∀ (fuel : Nat) (x5 : Int) (r : Sum Unit Unit), Xj k a0 a1 fuel x5 = some r -> (match r with | .inl r => Y0 none Try.prog (szF Try.f52) (J5 Try.f52 0) (Wj a0 a1 x5) .ret (Qbk a0 a1 r) | .inr r => Y0 none Try.prog (szF Try.f52) (J5 Try.f52 0) (Wj a0 a1 x5) (.exit 0) (Qbl a0 a1 r)) := by
 intro fuel
 induction fuel with
 | zero => intro x5 r h; rw [Xj.eq_1] at h; cases h
 | succ fuel ih =>
  intro x5 r h
  rw [Xj.eq_2] at h
  rcases ifs h with ⟨h4476, h⟩ | ⟨h4476, h⟩
  ·obtain ⟨h4477, h⟩ := ifn h
   have e4478 := (show Zg Try.prog 3 (x5.toNat * 1) (List.map vi a1) = some (vi (a1.getD x5.toNat 0)) from Qb4 ag3 vi a1 0 h4477 (by omega))
   obtain ⟨h4479, h⟩ := ifn h
   have e4480 := (show Zg Try.prog 3 (x5.toNat * 1) (List.map vi a0.High) = some (vi (a0.High.getD x5.toNat 0)) from Qb4 ag3 vi a0.High 0 h4479 (by omega))
   have e4481 := (ti (ti (an h4477 (an e4478 (ti (ti (ti (an h4479 (an e4480 (ti tt))))))))))
   rcases ifs h with ⟨h4482, h⟩ | ⟨h4482, h⟩
   ·injection h with h; subst h
    exact Qv (c := ⟨[(4, none)], [], []⟩) (s1 := (Qbk a0 a1 ())) pm pn (ans := [.reg (nN 4 []), .br true, .reg (Qvn a1 x5 a0), .br true, .reg (.n :: [])]) (by kernel_rfl) (by intro e; cases e) (an (an (an (ti (ti (ti (ti tt)))) (an (dt h4476) tt)) (an e4481 (an (dt h4482) (an (ti tt) tt)))) (ti tt))
   ·have h2 := ih _ _ h
    obtain ⟨q, hv, hq⟩ := pkR (rd := none) (P := Try.prog) (fn := Try.f52) (k := 0) (s := (Wj a0 a1 x5)) (ans := [.reg (nN 4 []), .br true, .reg (Qvn a1 x5 a0), .br false, .reg (nN 3 [])]) (c := ⟨[(1, none), (2, none), (5, none)], [none], []⟩) (e := .normal) (s1 := (Wj a0 a1 (w64 (x5 + 1)))) (an (an (an (ti (ti (ti (ti tt)))) (an (dt h4476) tt)) (an (an e4481 (an (df h4482) tt)) (ti (ti (ti tt))))) (ti tt)) (by kernel_rfl)
    cases r with
    | inl r => exact Qw pm pn hv hq h2
    | inr r =>
     exact Qw pm pn hv hq h2
  ·injection h with h; subst h
   exact Qv (c := ⟨[], [], []⟩) (s1 := (Qbl a0 a1 ())) pm pn (ans := [.reg (nN 4 []), .br false]) (by kernel_rfl) (by intro e; cases e) (an (an (ti (ti (ti (ti tt)))) (an (df h4476) tt)) (ti tt))
def W9 (k : Nat) (a0 : Qg) (a1 : (List Int)) : Option Bool :=
 (Xj k a0 a1 k 0).bind fun r4484 => (match r4484 with | .inl r4485 => (some true) | .inr r4486 => (some false))
theorem Qd2 (k : Nat) (a0 : Qg) (a1 : (List Int)) (r : Bool) (h : W9 k a0 a1 = some r) : VC Try.prog 52 [VV.ag (Ze a0), VV.tr (List.map vi a1) a1.length] (vb r) := by
 unfold W9 at h
 obtain ⟨r4484, h4483, h⟩ := bs h
 have hph4483 := Qfm k a0 a1 _ _ _ h4483
 cases r4484 with
 | inl r4485 =>
  dsimp only at h
  have e4487 := (an (ti tt) (VRun.loop hph4483))
  injection h with h; subst h
  exact Qq pm pn Try.func52 (r0 := vb true) (ans := [.reg (.n :: .n :: []), .reg (.n :: []), .sub ⟨[(1, none), (2, none), (5, none)], [none], []⟩ .ret (Qbk a0 a1 r4485)]) (fr := true) (by kernel_rfl) (an (an (ti (ti tt)) (an (ti tt) e4487)) (ti tt)) (Wv.refl _)
 | inr r4486 =>
  dsimp only at h
  have e4488 := (an (ti tt) (VRun.loop hph4483))
  injection h with h; subst h
  exact Qq pm pn Try.func52 (r0 := vb false) (ans := [.reg (.n :: .n :: []), .reg (.n :: []), .sub ⟨[(1, none), (2, none), (5, none)], [none], []⟩ (.exit 0) (Qbl a0 a1 r4486), .reg (.n :: [])]) (fr := true) (by kernel_rfl) (an (an (ti (ti tt)) (an (an (ti tt) e4488) (an (ti tt) tt))) (ti tt)) (Wv.refl _)
def Yp (k : Nat) (a0 : (List Qd)) (a1 : Qg) (a2 : (List Qb)) (a3 : Qb) : Option ((List Qb) × Int) :=
 (Jq k a0 a1).bind fun r4494 => (if r4494 = 0 then ((Js k a0 a2).bind fun r4498 => (if r4498 = 0 then (if a2.length <= 1000000000 then (if a2.length + ([a3] : List Qb).length <= 1000000000 then ((Js k a0 (a2 ++ ([a3] : List Qb))).bind fun r4507 => (if r4507 = 0 then ((Jp k a0 (a2 ++ ([a3] : List Qb)) a3.Mirror).bind fun r4511 => ((W9 k a1 r4511).bind fun r4514 => (if r4514 = true then (some ([], 26)) else (some (a2 ++ ([a3] : List Qb), 0))))) else (some ([], r4507)))) else none) else none) else (some ([], r4498)))) else (some ([], r4494)))
theorem Qe3 (k : Nat) (a0 : (List Qd)) (a1 : Qg) (a2 : (List Qb)) (a3 : Qb) (r : ((List Qb) × Int)) (h : Yp k a0 a1 a2 a3 = some r) : VC Try.prog 22 [VV.tr (flatMap Qc a0) a0.length, VV.ag (Ze a1), VV.tr (flatMap Qa a2) a2.length, VV.ag (Qa a3)] (VV.tu [VV.fw 3 (flatMap Qa r.1) r.1.length, vi r.2]) := by
 unfold Yp at h
 obtain ⟨r4494, h4495, h⟩ := bs h
 have e4496 := (Qck k a0 a1 _ h4495)
 rcases ifs h with ⟨h4497, h⟩ | ⟨h4497, h⟩
 ·obtain ⟨r4498, h4499, h⟩ := bs h
  have e4500 := (Qbr k a0 a2 _ h4499)
  rcases ifs h with ⟨h4501, h⟩ | ⟨h4501, h⟩
  ·obtain ⟨h4502, h⟩ := ifn h
   have e4503 := (show List.length (flatMap Qa a2) = a2.length * 3 /\ a2.length * 40 <= 140737488355328 /\ a2.length < 1099511627776 /\ List.all (flatMap Qa a2) VV.still = true from ⟨(by rw [Qar Qx] <;> simp), (by first | omega | (simp at h4502 ⊢; omega)), (by first | omega | (simp at h4502 ⊢; omega)), (by exact Yd _)⟩)
   obtain ⟨h4504, h⟩ := ifn h
   have e4505 := (show List.length (flatMap Qa a2) = a2.length * 3 /\ List.length [vs a3.Mirror, vs a3.Stroke, vi a3.Minutes] = 1 * 3 /\ (a2.length + 1) * 40 <= 140737488355328 /\ a2.length + 1 < 1099511627776 /\ List.all [vs a3.Mirror, vs a3.Stroke, vi a3.Minutes] VV.still = true from ⟨(by rw [Qar Qx] <;> simp), (by rw [show [vs a3.Mirror, vs a3.Stroke, vi a3.Minutes] = flatMap Qa ([a3] : List Qb) from rfl]; rw [Qar Qx] <;> simp), (by first | omega | (simp at h4504 ⊢; omega)), (by first | omega | (simp at h4504 ⊢; omega)), (by rw [show [vs a3.Mirror, vs a3.Stroke, vi a3.Minutes] = flatMap Qa ([a3] : List Qb) from rfl]; exact Yd _)⟩)
   have e4506 := (ti (ti (an e4503 (ti (ti (an e4505 (ti tt)))))))
   obtain ⟨r4507, h4508, h⟩ := bs h
   have e4509 := (show VC Try.prog 24 [VV.tr (flatMap Qc a0) a0.length, VV.tr (List.drop 0 (List.map unfr ((flatMap Qa a2) ++ [vs a3.Mirror, vs a3.Stroke, vi a3.Minutes]))) (a2.length + 1)] (vi r4507) from (VC.args (Qbr k a0 (a2 ++ ([a3] : List Qb)) _ h4508) (by simp only [show (flatMap Qa a2) ++ [vs a3.Mirror, vs a3.Stroke, vi a3.Minutes] = flatMap Qa (a2 ++ ([a3] : List Qb)) from (by rw [show [vs a3.Mirror, vs a3.Stroke, vi a3.Minutes] = flatMap Qa ([a3] : List Qb) from rfl]; exact List.flatMap_append.symm), Jz, Zc, Zz, Xo, map_cons, map_nil, un_i, un_k, un_b, un_s, Jr, Qby, length_map, length_replicate, length_append, List.length_set, length_cons, length_nil, Nat.zero_add, Qm, Qr, Qk, Qj, Qn, Qo, Qe, Zp, Z8]; done)))
   rcases ifs h with ⟨h4510, h⟩ | ⟨h4510, h⟩
   ·obtain ⟨r4511, h4512, h⟩ := bs h
    have e4513 := (show VC Try.prog 53 [VV.tr (flatMap Qc a0) a0.length, VV.tr (List.drop 0 (List.map unfr ((flatMap Qa a2) ++ [vs a3.Mirror, vs a3.Stroke, vi a3.Minutes]))) (a2.length + 1), vs a3.Mirror] (VV.fr (List.map vi r4511) r4511.length) from (VC.args (VC.weak (Qdn k a0 (a2 ++ ([a3] : List Qb)) a3.Mirror _ h4512) (Wv.fw rfl rfl)) (by simp only [show (flatMap Qa a2) ++ [vs a3.Mirror, vs a3.Stroke, vi a3.Minutes] = flatMap Qa (a2 ++ ([a3] : List Qb)) from (by rw [show [vs a3.Mirror, vs a3.Stroke, vi a3.Minutes] = flatMap Qa ([a3] : List Qb) from rfl]; exact List.flatMap_append.symm), Jz, Zc, Zz, Xo, map_cons, map_nil, un_i, un_k, un_b, un_s, Jr, Qby, length_map, length_replicate, length_append, List.length_set, length_cons, length_nil, Nat.zero_add, Qm, Qr, Qk, Qj, Qn, Qo, Qe, Zp, Z8]; done)))
    obtain ⟨r4514, h4515, h⟩ := bs h
    have e4516 := (Qd2 k a1 r4511 _ h4515)
    have e4517 := (ti (ti (ti (ti (ti (an e4513 (an e4516 tt)))))))
    rcases ifs h with ⟨h4518, h⟩ | ⟨h4518, h⟩
    ·injection h with h; subst h
     exact Qq pm pn Try.func22 (r0 := VV.tu [VV.c (.slice none 0 0), vi 26]) (ans := [.reg (nN 4 []), .reg (.n :: .n :: .call (vi r4494) :: .n :: []), .reg (.n :: .n :: []), .br false, .reg (.n :: .n :: .call (vi r4498) :: .n :: []), .reg (.n :: .n :: []), .br false, .reg (.b true :: nN 3 (.v VV.any :: .n :: .n :: [])), .reg (.n :: .n :: .call (vi r4507) :: .n :: []), .reg (.n :: .n :: []), .br false, .reg (nN 5 (.call (VV.fr (List.map vi r4511) r4511.length) :: .call (vb r4514) :: [])), .br true, .reg (.n :: .n :: [])]) (fr := true) (by kernel_rfl) (an (an (ti (ti (ti (ti tt)))) (an (an (ti (ti (an e4496 (ti tt)))) (an (ti (ti tt)) (an (Qs (dt h4497)) tt))) (an (an (ti (ti (an e4500 (ti tt)))) (an (ti (ti tt)) (an (Qs (dt h4501)) tt))) (an e4506 (an (an (ti (ti (an e4509 (ti tt)))) (an (ti (ti tt)) (an (Qs (dt h4510)) tt))) (an e4517 (an h4518 (an (ti (ti tt)) tt)))))))) (ti (ti tt))) (Wv.tuL (.cons Wv.Qmb (.cons (Wv.refl _) .nil)))
    ·injection h with h; subst h
     exact Qq pm pn Try.func22 (r0 := VV.tu [VV.fw 3 (List.drop 0 (List.map unfr ((flatMap Qa a2) ++ [vs a3.Mirror, vs a3.Stroke, vi a3.Minutes]))) (a2.length + 1), vi 0]) (ans := [.reg (nN 4 []), .reg (.n :: .n :: .call (vi r4494) :: .n :: []), .reg (.n :: .n :: []), .br false, .reg (.n :: .n :: .call (vi r4498) :: .n :: []), .reg (.n :: .n :: []), .br false, .reg (.b true :: nN 3 (.v VV.any :: .n :: .n :: [])), .reg (.n :: .n :: .call (vi r4507) :: .n :: []), .reg (.n :: .n :: []), .br false, .reg (nN 5 (.call (VV.fr (List.map vi r4511) r4511.length) :: .call (vb r4514) :: [])), .br false, .reg (nN 3 [])]) (fr := true) (by kernel_rfl) (an (an (ti (ti (ti (ti tt)))) (an (an (ti (ti (an e4496 (ti tt)))) (an (ti (ti tt)) (an (Qs (dt h4497)) tt))) (an (an (ti (ti (an e4500 (ti tt)))) (an (ti (ti tt)) (an (Qs (dt h4501)) tt))) (an e4506 (an (an (ti (ti (an e4509 (ti tt)))) (an (ti (ti tt)) (an (Qs (dt h4510)) tt))) (an (an e4517 (an (Zm h4518) tt)) (an (ti (ti (ti tt))) tt))))))) (an (show List.all ((flatMap Qa a2) ++ [vs a3.Mirror, vs a3.Stroke, vi a3.Minutes]) new0 = true from (by rw [show (flatMap Qa a2) ++ [vs a3.Mirror, vs a3.Stroke, vi a3.Minutes] = flatMap Qa (a2 ++ ([a3] : List Qb)) from (by rw [show [vs a3.Mirror, vs a3.Stroke, vi a3.Minutes] = flatMap Qa ([a3] : List Qb) from rfl]; exact List.flatMap_append.symm)]; exact Qc5 _)) (ti tt))) (Wv.of_eq (by simp only [show (flatMap Qa a2) ++ [vs a3.Mirror, vs a3.Stroke, vi a3.Minutes] = flatMap Qa (a2 ++ ([a3] : List Qb)) from (by rw [show [vs a3.Mirror, vs a3.Stroke, vi a3.Minutes] = flatMap Qa ([a3] : List Qb) from rfl]; exact List.flatMap_append.symm), Jz, Zc, Zz, Xo, map_cons, map_nil, un_i, un_k, un_b, un_s, Jr, Qby, length_map, length_replicate, length_append, List.length_set, length_cons, length_nil, Nat.zero_add, Qm, Qr, Qk, Qj, Qn, Qo, Qe, Zp, Z8]))
   ·injection h with h; subst h
    exact Qq pm pn Try.func22 (r0 := VV.tu [VV.c (.slice none 0 0), vi r4507]) (ans := [.reg (nN 4 []), .reg (.n :: .n :: .call (vi r4494) :: .n :: []), .reg (.n :: .n :: []), .br false, .reg (.n :: .n :: .call (vi r4498) :: .n :: []), .reg (.n :: .n :: []), .br false, .reg (.b true :: nN 3 (.v VV.any :: .n :: .n :: [])), .reg (.n :: .n :: .call (vi r4507) :: .n :: []), .reg (.n :: .n :: []), .br true, .reg (nN 3 [])]) (fr := true) (by kernel_rfl) (an (an (ti (ti (ti (ti tt)))) (an (an (ti (ti (an e4496 (ti tt)))) (an (ti (ti tt)) (an (Qs (dt h4497)) tt))) (an (an (ti (ti (an e4500 (ti tt)))) (an (ti (ti tt)) (an (Qs (dt h4501)) tt))) (an e4506 (an (ti (ti (an e4509 (ti tt)))) (an (ti (ti tt)) (an (Zj (df h4510)) (an (ti (ti (ti tt))) tt)))))))) (ti (ti tt))) (Wv.tuL (.cons Wv.Qmb (.cons (Wv.refl _) .nil)))
  ·injection h with h; subst h
   exact Qq pm pn Try.func22 (r0 := VV.tu [VV.c (.slice none 0 0), vi r4498]) (ans := [.reg (nN 4 []), .reg (.n :: .n :: .call (vi r4494) :: .n :: []), .reg (.n :: .n :: []), .br false, .reg (.n :: .n :: .call (vi r4498) :: .n :: []), .reg (.n :: .n :: []), .br true, .reg (nN 3 [])]) (fr := true) (by kernel_rfl) (an (an (ti (ti (ti (ti tt)))) (an (an (ti (ti (an e4496 (ti tt)))) (an (ti (ti tt)) (an (Qs (dt h4497)) tt))) (an (ti (ti (an e4500 (ti tt)))) (an (ti (ti tt)) (an (Zj (df h4501)) (an (ti (ti (ti tt))) tt)))))) (ti (ti tt))) (Wv.tuL (.cons Wv.Qmb (.cons (Wv.refl _) .nil)))
 ·injection h with h; subst h
  exact Qq pm pn Try.func22 (r0 := VV.tu [VV.c (.slice none 0 0), vi r4494]) (ans := [.reg (nN 4 []), .reg (.n :: .n :: .call (vi r4494) :: .n :: []), .reg (.n :: .n :: []), .br true, .reg (nN 3 [])]) (fr := true) (by kernel_rfl) (an (an (ti (ti (ti (ti tt)))) (an (ti (ti (an e4496 (ti tt)))) (an (ti (ti tt)) (an (Zj (df h4497)) (an (ti (ti (ti tt))) tt))))) (ti (ti tt))) (Wv.tuL (.cons Wv.Qmb (.cons (Wv.refl _) .nil)))
def Q0g (z0 : Qg) (z1 : Int) (z2 : (List Int)) : List Ans := (nN 6 (.v (vi (z0.Low.getD z1.toNat 0)) :: nN 3 (.v (vi (z2.getD z1.toNat 0)) :: .n :: .n :: .v VV.any :: nN 7 (.v (vi (z0.High.getD z1.toNat 0)) :: nN 3 (.v (vi (z2.getD z1.toNat 0)) :: .n :: .v VV.any :: nN 5 [])))))
def Qav (a1 : Qg) (r4581 : (List Int)) (y3 : List Int) (y4 : List Int) (x12 : Int) : VS := ⟨mkA [(5, VV.pt 0 0), (8, VV.pt 1 0), (10, VV.fr (List.map vi r4581) r4581.length), (11, VV.pt 2 0), (12, vi x12)], [some ⟨true, 1, Ze a1⟩, some ⟨true, 1, [VV.c (.slice none 0 0), VV.c (.slice none 0 0)]⟩, some ⟨true, 1, [VV.rf 3 0 y3.length, VV.rf 4 0 y4.length]⟩, some ⟨false, 1, List.map vi y3⟩, some ⟨false, 1, List.map vi y4⟩], .nil⟩
def Qak (a1 : Qg) (r4581 : (List Int)) (r : (List Int) × (List Int)) : VS := ⟨mkA [(8, VV.pt 1 0), (11, VV.pt 2 0)], [some ⟨true, 1, Ze a1⟩, some ⟨true, 1, [VV.c (.slice none 0 0), VV.c (.slice none 0 0)]⟩, some ⟨true, 1, [VV.rf 3 0 r.1.length, VV.rf 4 0 r.2.length]⟩, some ⟨false, 1, List.map vi r.1⟩, some ⟨false, 1, List.map vi r.2⟩], .nil⟩
def Z7 (k : Nat) (a1 : Qg) (r4581 : (List Int)) : Nat -> (List Int) -> (List Int) -> Int -> Option ((List Int) × (List Int))
 | 0, _, _, _ => none
 | fuel + 1, y3, y4, x12 => if x12 < (r4581.length : Int) then (if 0 <= x12 /\ x12 < (a1.Low.length : Int) then (if 0 <= x12 /\ x12 < (r4581.length : Int) then (if y3.length + ([maxI 0 (w64 ((a1.Low.getD x12.toNat 0) - (r4581.getD x12.toNat 0)))] : List Int).length <= 1000000000 then (if 0 <= x12 /\ x12 < (a1.High.length : Int) then (if y4.length + ([w64 ((a1.High.getD x12.toNat 0) - (r4581.getD x12.toNat 0))] : List Int).length <= 1000000000 then (Z7 k a1 r4581 fuel (y3 ++ ([maxI 0 (w64 ((a1.Low.getD x12.toNat 0) - (r4581.getD x12.toNat 0)))] : List Int)) (y4 ++ ([w64 ((a1.High.getD x12.toNat 0) - (r4581.getD x12.toNat 0))] : List Int)) (w64 (x12 + 1))) else none) else none) else none) else none) else none) else (some (y3, y4))
theorem Qes (k : Nat) (a1 : Qg) (r4581 : (List Int)) : ∀ (fuel : Nat) (y3 : List Int) (y4 : List Int) (x12 : Int) (r : (List Int) × (List Int)), Z7 k a1 r4581 fuel y3 y4 x12 = some r -> (Y0 none Try.prog (szF Try.f26) (J5 Try.f26 0) (Qav a1 r4581 y3 y4 x12) (.exit 0) (Qak a1 r4581 r)) := by
 intro fuel
 induction fuel with
 | zero => intro y3 y4 x12 r h; rw [Z7.eq_1] at h; cases h
 | succ fuel ih =>
  intro y3 y4 x12 r h
  rw [Z7.eq_2] at h
  rcases ifs h with ⟨h4627, h⟩ | ⟨h4627, h⟩
  ·obtain ⟨h4628, h⟩ := ifn h
   have e4629 := (show Zg Try.prog 3 (x12.toNat * 1) (List.map vi a1.Low) = some (vi (a1.Low.getD x12.toNat 0)) from Qb4 ag3 vi a1.Low 0 h4628 (by omega))
   obtain ⟨h4630, h⟩ := ifn h
   have e4631 := (show Zg Try.prog 3 (x12.toNat * 1) (List.map vi r4581) = some (vi (r4581.getD x12.toNat 0)) from Qb4 ag3 vi r4581 0 h4630 (by omega))
   obtain ⟨h4632, h⟩ := ifn h
   have e4633 := (show List.length (List.map vi y3) = y3.length * 1 /\ List.length [vi (maxI 0 (w64 ((a1.Low.getD x12.toNat 0) - (r4581.getD x12.toNat 0))))] = 1 * 1 /\ (y3.length + 1) * 8 <= 140737488355328 /\ y3.length + 1 < 1099511627776 /\ List.all [vi (maxI 0 (w64 ((a1.Low.getD x12.toNat 0) - (r4581.getD x12.toNat 0))))] VV.still = true from ⟨(by simp), (by rw [show [vi (maxI 0 (w64 ((a1.Low.getD x12.toNat 0) - (r4581.getD x12.toNat 0))))] = List.map vi ([maxI 0 (w64 ((a1.Low.getD x12.toNat 0) - (r4581.getD x12.toNat 0)))] : List Int) from rfl]; simp), (by first | omega | (simp at h4632 ⊢; omega)), (by first | omega | (simp at h4632 ⊢; omega)), (by rw [show [vi (maxI 0 (w64 ((a1.Low.getD x12.toNat 0) - (r4581.getD x12.toNat 0))))] = List.map vi ([maxI 0 (w64 ((a1.Low.getD x12.toNat 0) - (r4581.getD x12.toNat 0)))] : List Int) from rfl]; exact Qki _)⟩)
   obtain ⟨h4634, h⟩ := ifn h
   have e4635 := (show Zg Try.prog 3 (x12.toNat * 1) (List.map vi a1.High) = some (vi (a1.High.getD x12.toNat 0)) from Qb4 ag3 vi a1.High 0 h4634 (by omega))
   have e4636 := (show Zg Try.prog 3 (x12.toNat * 1) (List.map vi r4581) = some (vi (r4581.getD x12.toNat 0)) from Qb4 ag3 vi r4581 0 h4630 (by omega))
   obtain ⟨h4637, h⟩ := ifn h
   have e4638 := (show List.length (List.map vi y4) = y4.length * 1 /\ List.length [vi (w64 ((a1.High.getD x12.toNat 0) - (r4581.getD x12.toNat 0)))] = 1 * 1 /\ (y4.length + 1) * 8 <= 140737488355328 /\ y4.length + 1 < 1099511627776 /\ List.all [vi (w64 ((a1.High.getD x12.toNat 0) - (r4581.getD x12.toNat 0)))] VV.still = true from ⟨(by simp), (by rw [show [vi (w64 ((a1.High.getD x12.toNat 0) - (r4581.getD x12.toNat 0)))] = List.map vi ([w64 ((a1.High.getD x12.toNat 0) - (r4581.getD x12.toNat 0))] : List Int) from rfl]; simp), (by first | omega | (simp at h4637 ⊢; omega)), (by first | omega | (simp at h4637 ⊢; omega)), (by rw [show [vi (w64 ((a1.High.getD x12.toNat 0) - (r4581.getD x12.toNat 0)))] = List.map vi ([w64 ((a1.High.getD x12.toNat 0) - (r4581.getD x12.toNat 0))] : List Int) from rfl]; exact Qki _)⟩)
   have e4639 := (ti (ti (ti (ti (ti (an h4628 (an e4629 (ti (ti (an h4630 (an e4631 (ti (ti (ti (an e4633 (ti (ti (ti (ti (ti (an h4634 (an e4635 (ti (ti (an h4630 (an e4636 (ti (ti (an e4638 (ti (ti (ti (ti tt)))))))))))))))))))))))))))))))))
   have h2 := ih _ _ _ _ h
   obtain ⟨q, hv, hq⟩ := pkR (rd := none) (P := Try.prog) (fn := Try.f26) (k := 0) (s := (Qav a1 r4581 y3 y4 x12)) (ans := [.reg (nN 4 []), .br true, .reg (Q0g a1 x12 r4581), .reg (nN 3 [])]) (c := ⟨[(5, none), (8, none), (10, none), (11, none), (12, none)], [none, none, some [VV.rf 3 0 ((y3 ++ ([maxI 0 (w64 ((a1.Low.getD x12.toNat 0) - (r4581.getD x12.toNat 0)))] : List Int)).length), VV.rf 4 0 ((y4 ++ ([w64 ((a1.High.getD x12.toNat 0) - (r4581.getD x12.toNat 0))] : List Int)).length)], some (List.map vi (y3 ++ ([maxI 0 (w64 ((a1.Low.getD x12.toNat 0) - (r4581.getD x12.toNat 0)))] : List Int))), some (List.map vi (y4 ++ ([w64 ((a1.High.getD x12.toNat 0) - (r4581.getD x12.toNat 0))] : List Int)))], []⟩) (e := .normal) (s1 := (Qav a1 r4581 (y3 ++ ([maxI 0 (w64 ((a1.Low.getD x12.toNat 0) - (r4581.getD x12.toNat 0)))] : List Int)) (y4 ++ ([w64 ((a1.High.getD x12.toNat 0) - (r4581.getD x12.toNat 0))] : List Int)) (w64 (x12 + 1)))) (an (an (an (ti (ti (ti (ti tt)))) (an (dt h4627) tt)) (an e4639 (ti (ti (ti tt))))) (ti (an (show [VV.rf 3 0 (y3.length + 1), VV.rf 4 0 (y4.length + 1)] = [VV.rf 3 0 ((y3 ++ ([maxI 0 (w64 ((a1.Low.getD x12.toNat 0) - (r4581.getD x12.toNat 0)))] : List Int)).length), VV.rf 4 0 ((y4 ++ ([w64 ((a1.High.getD x12.toNat 0) - (r4581.getD x12.toNat 0))] : List Int)).length)] from (by first | rfl | simp)) (an (show (List.map vi y3) ++ [vi (maxI 0 (w64 ((a1.Low.getD x12.toNat 0) - (r4581.getD x12.toNat 0))))] = List.map vi (y3 ++ ([maxI 0 (w64 ((a1.Low.getD x12.toNat 0) - (r4581.getD x12.toNat 0)))] : List Int)) from (by rw [show [vi (maxI 0 (w64 ((a1.Low.getD x12.toNat 0) - (r4581.getD x12.toNat 0))))] = List.map vi ([maxI 0 (w64 ((a1.Low.getD x12.toNat 0) - (r4581.getD x12.toNat 0)))] : List Int) from rfl]; exact List.map_append.symm)) (an (show (List.map vi y4) ++ [vi (w64 ((a1.High.getD x12.toNat 0) - (r4581.getD x12.toNat 0)))] = List.map vi (y4 ++ ([w64 ((a1.High.getD x12.toNat 0) - (r4581.getD x12.toNat 0))] : List Int)) from (by rw [show [vi (w64 ((a1.High.getD x12.toNat 0) - (r4581.getD x12.toNat 0)))] = List.map vi ([w64 ((a1.High.getD x12.toNat 0) - (r4581.getD x12.toNat 0))] : List Int) from rfl]; exact List.map_append.symm)) tt))))) (by kernel_rfl)
   exact Qw pm pn hv hq h2
  ·injection h with h; subst h
   exact Qv (c := ⟨[(8, none), (11, none)], [none, none, none, none, none], []⟩) (s1 := (Qak a1 r4581 (y3, y4))) pm pn (ans := [.reg (nN 4 []), .br false]) (by kernel_rfl) (by intro e; cases e) (an (an (ti (ti (ti (ti tt)))) (an (df h4627) tt)) (ti tt))
theorem Q2i (z0 : (List Int) × (List Int)) : VV.tu [VV.ag [VV.fw 1 (List.drop 0 (List.map unfr (List.map vi z0.1))) z0.1.length, VV.fw 1 (List.drop 0 (List.map unfr (List.map vi z0.2))) z0.2.length], vb true] = VV.tu [VV.ag [VV.fw 1 (List.map vi ((⟨z0.1, z0.2⟩ : Qg).Low)) (((⟨z0.1, z0.2⟩ : Qg).Low).length), VV.fw 1 (List.map vi ((⟨z0.1, z0.2⟩ : Qg).High)) (((⟨z0.1, z0.2⟩ : Qg).High).length)], vb true] := by first | rfl | (simp only [Jz, Zc, Zz, map_cons, map_nil, un_i, un_b, length_map, length_cons, length_nil]; done) | (simp only [Jz, Zc, Zz, map_cons, map_nil, un_i, un_b, length_map, length_cons, length_nil]; rfl) | (simp only [Jz, Zc, Zz, map_cons, map_nil, un_i, un_b, length_map, length_cons, length_nil, length_cons, length_nil, length_append]; done)
def Wn (k : Nat) (a0 : (List Qd)) (a1 : Qg) (a2 : (List Qb)) (a3 : ByteArray) : Option (Qg × Bool) :=
 (Jp k a0 a2 a3).bind fun r4581 => ((W9 k a1 r4581).bind fun r4584 => (if r4584 = true then (some ((⟨[], []⟩ : Qg), false)) else ((Z7 k a1 r4581 k ([] : List Int) ([] : List Int) 0).bind fun r4641 => (some ((⟨r4641.1, r4641.2⟩ : Qg), true)))))
theorem Qf0 (k : Nat) (a0 : (List Qd)) (a1 : Qg) (a2 : (List Qb)) (a3 : ByteArray) (r : (Qg × Bool)) (h : Wn k a0 a1 a2 a3 = some r) : VC Try.prog 26 [VV.tr (flatMap Qc a0) a0.length, VV.ag (Ze a1), VV.tr (flatMap Qa a2) a2.length, vs a3] (VV.tu [VV.ag [VV.fw 1 (List.map vi r.1.Low) r.1.Low.length, VV.fw 1 (List.map vi r.1.High) r.1.High.length], vb r.2]) := by
 unfold Wn at h
 obtain ⟨r4581, h4582, h⟩ := bs h
 have e4583 := (show VC Try.prog 53 [VV.tr (flatMap Qc a0) a0.length, VV.tr (flatMap Qa a2) a2.length, vs a3] (VV.fr (List.map vi r4581) r4581.length) from (VC.weak (Qdn k a0 a2 a3 _ h4582) (Wv.fw rfl rfl)))
 obtain ⟨r4584, h4585, h⟩ := bs h
 have e4586 := (Qd2 k a1 r4581 _ h4585)
 rcases ifs h with ⟨h4587, h⟩ | ⟨h4587, h⟩
 ·injection h with h; subst h
  exact Qq pm pn Try.func26 (r0 := VV.tu [VV.ag [VV.c (.slice none 0 0), VV.c (.slice none 0 0)], vb false]) (ans := [.reg (nN 3 []), .reg (nN 3 (.call (VV.fr (List.map vi r4581) r4581.length) :: .n :: [])), .reg (.n :: .n :: .call (vb r4584) :: []), .br true, .reg (nN 3 [])]) (fr := true) (by kernel_rfl) (an (an (ti (ti (ti tt))) (an (ti (ti (ti (an e4583 (ti tt))))) (an (ti (ti (an e4586 tt))) (an h4587 (an (ti (ti (ti tt))) tt))))) (an (ti (ti (ti tt))) (ti tt))) (Wv.tuL (.cons (Wv.agL (.cons Wv.Qmb (.cons Wv.Qmb .nil))) (.cons (Wv.refl _) .nil)))
 ·obtain ⟨r4641, h4640, h⟩ := bs h
  have hph4640 := Qes k a1 r4581 _ _ _ _ _ h4640
  have e4642 := (an (ti tt) (VRun.loop hph4640))
  injection h with h; subst h
  exact Qq pm pn Try.func26 (r0 := VV.tu [VV.ag [VV.fw 1 (List.drop 0 (List.map unfr (List.map vi r4641.1))) r4641.1.length, VV.fw 1 (List.drop 0 (List.map unfr (List.map vi r4641.2))) r4641.2.length], vb true]) (ans := [.reg (nN 3 []), .reg (nN 3 (.call (VV.fr (List.map vi r4581) r4581.length) :: .n :: [])), .reg (.n :: .n :: .call (vb r4584) :: []), .br false, .reg (.n :: []), .reg (.n :: []), .sub ⟨[(5, none), (8, none), (10, none), (11, none), (12, none)], [none, none, none], [.b 2 0 1, .b 2 1 1]⟩ (.exit 0) (Qak a1 r4581 r4641), .reg (nN 3 [])]) (fr := true) (by kernel_rfl) (an (an (ti (ti (ti tt))) (an (ti (ti (ti (an e4583 (ti tt))))) (an (an (ti (ti (an e4586 tt))) (an (Zm h4587) tt)) (an (ti tt) (an (an (ti tt) e4642) (an (ti (ti (ti tt))) tt)))))) (an (ti (an (show List.all (List.map vi r4641.1) new0 = true from (by exact Qha _)) (an (show List.all (List.map vi r4641.2) new0 = true from (by exact Qha _)) tt))) (ti tt))) (Wv.of_eq (Q2i r4641))
end Go.Proofs.Ytiekbdbedonnoaa.Vg

import Derived.Test.YtgoohnencoipoaaWa
namespace Go.Proofs.Ytgoohnencoipoaa.Vg
set_option maxRecDepth 100000
set_option maxHeartbeats 4000000
set_option linter.unusedVariables false
set_option linter.unusedSimpArgs false
open Go Go.Proofs.Ytgoohnencoipoaa.Ev Go.Proofs.Ytgoohnencoipoaa.Vv
open List (flatMap length_cons length_nil length_map length_append map_cons map_nil length_replicate)
structure Qc where
 Num : Int
 Den : Int
 deriving Inhabited
def Qa (x : Qc) : List VV := [vi x.Num, vi x.Den]
theorem Jd (x : Qc) : (Qa x).length = 2 := rfl
theorem Qf5 (xs : List Qc) : (xs.flatMap Qa).all VV.still = true := Qky (fun _ => rfl) xs
theorem Qhe (xs : List Qc) : (xs.flatMap Qa).all new0 = true := Qky (fun _ => rfl) xs
theorem Qj (xs : List Qc) : (xs.flatMap Qa).map unfr = xs.flatMap Qa := Qmb (fun _ => rfl) xs
theorem ag23 : Qcf Try.prog 23 = some true := by kernel_rfl
theorem sz23 : szOf Try.prog 23 = some 2 := by kernel_rfl
def Yv (k : Nat) (a0 : Int) : Option Int :=
 if a0 < 0 then (some (IntKind.u64.wrap (0 - (IntKind.u64.wrap a0)))) else (some (IntKind.u64.wrap a0))
theorem Yj (k : Nat) (a0 : Int) (r : Int) (h : Yv k a0 = some r) : VC Try.prog 28 [vi a0] (VV.c (.int .u64 r)) := by
 unfold Yv at h
 rcases ifs h with ⟨h104, h⟩ | ⟨h104, h⟩
 ·injection h with h; subst h
  exact Qv pm pn Try.func28 (r0 := VV.c (.int .u64 (IntKind.u64.wrap (0 - (IntKind.u64.wrap a0))))) (ans := [.reg (.n :: []), .reg (.n :: .n :: []), .br true, .reg (nN 4 [])]) (fr := true) (by kernel_rfl) (an (an (ti tt) (an (ti (ti tt)) (an (dt h104) (an (ti (ti (ti (ti tt)))) tt)))) (ti tt)) (Wv.refl _)
 ·injection h with h; subst h
  exact Qv pm pn Try.func28 (r0 := VV.c (.int .u64 (IntKind.u64.wrap a0))) (ans := [.reg (.n :: []), .reg (.n :: .n :: []), .br false, .reg (nN 3 [])]) (fr := true) (by kernel_rfl) (an (an (ti tt) (an (an (ti (ti tt)) (an (df h104) tt)) (an (ti (ti (ti tt))) tt))) (ti tt)) (Wv.refl _)
def Qam  (x0 : Int) (x1 : Int) : VS := ⟨mkA [(0, VV.c (.int .u64 x0)), (1, VV.c (.int .u64 x1))], [], .nil⟩
def Qah  (r : Int) : VS := ⟨mkA [(0, VV.c (.int .u64 r))], [], .nil⟩
def X8 (k : Nat)  : Nat -> Int -> Int -> Option (Int)
 | 0, _, _ => none
 | fuel + 1, x0, x1 => if x1 = 0 then (some x0) else (if x1 ≠ 0 then (X8 k  fuel x1 (x0.tmod x1)) else none)
theorem Qd4 (k : Nat)  : ∀ (fuel : Nat) (x0 : Int) (x1 : Int) (r : Int), X8 k  fuel x0 x1 = some r -> (X7 none Try.prog (szF Try.f27) (Z9 Try.f27 0) (Qam  x0 x1) (.exit 0) (Qah  r)) := by
 intro fuel
 induction fuel with
 | zero => intro x0 x1 r h; rw [X8.eq_1] at h; cases h
 | succ fuel ih =>
  intro x0 x1 r h
  rw [X8.eq_2] at h
  rcases ifs h with ⟨h124, h⟩ | ⟨h124, h⟩
  ·injection h with h; subst h
   exact Qh (c := ⟨[(0, none)], [], []⟩) (s1 := (Qah  x0)) pm pn (ans := [.reg (.n :: .n :: []), .br false]) (by kernel_rfl) (by intro e; cases e) (an (an (ti (ti tt)) (an (Qk (dt h124)) tt)) (ti tt))
  ·obtain ⟨h125, h⟩ := ifn h
   have h2 := ih _ _ _ h
   obtain ⟨q, hv, hq⟩ := pkR (rd := none) (P := Try.prog) (fn := Try.f27) (k := 0) (s := (Qam  x0 x1)) (ans := [.reg (.n :: .n :: []), .br true, .reg (nN 6 [])]) (c := ⟨[(0, none), (1, none)], [], []⟩) (e := .normal) (s1 := (Qam  x1 (x0.tmod x1))) (an (an (an (ti (ti tt)) (an (Zo (df h124)) tt)) (ti (ti (ti (an h125 (ti (ti tt))))))) (ti tt)) (by kernel_rfl)
   exact Ql pm pn hv hq h2
def Yz (k : Nat) (a0 : Int) (a1 : Int) : Option Int :=
 (X8 k k a0 a1).bind fun r127 => (some r127)
theorem Qa9 (k : Nat) (a0 : Int) (a1 : Int) (r : Int) (h : Yz k a0 a1 = some r) : VC Try.prog 27 [VV.c (.int .u64 a0), VV.c (.int .u64 a1)] (VV.c (.int .u64 r)) := by
 unfold Yz at h
 obtain ⟨r127, h126, h⟩ := bs h
 have hph126 := Qd4 k  _ _ _ _ h126
 have e128 := (an (ti tt) (VRun.loop hph126))
 injection h with h; subst h
 exact Qv pm pn Try.func27 (r0 := VV.c (.int .u64 r127)) (ans := [.reg (.n :: []), .sub ⟨[(0, none), (1, none)], [], []⟩ (.exit 0) (Qah  r127), .reg (.n :: .n :: [])]) (fr := true) (by kernel_rfl) (an (an (ti tt) (an e128 (an (ti (ti tt)) tt))) (ti tt)) (Wv.refl _)
def Qo6 (z0 : Int) (z1 : Int) (z2 : Int) : List Ans := (nN 6 (.call (VV.c (.int .u64 z0)) :: .n :: .n :: .call (VV.c (.int .u64 z1)) :: .call (VV.c (.int .u64 z2)) :: .n :: .b false :: []))
def X5 (k : Nat) (a0 : Qc) : Option Int :=
 if a0.Den <= 0 then (some 3) else ((Yv k a0.Num).bind fun r141 => ((Yv k a0.Den).bind fun r144 => ((Yz k r141 r144).bind fun r147 => (if r147 = 1 then (if 1000000000 < r141 then (some 2) else (if 1000000000 < a0.Den then (some 2) else (some 0))) else (some 3)))))
theorem Ws (k : Nat) (a0 : Qc) (r : Int) (h : X5 k a0 = some r) : VC Try.prog 20 [VV.ag (Qa a0)] (vi r) := by
 unfold X5 at h
 rcases ifs h with ⟨h139, h⟩ | ⟨h139, h⟩
 ·have e140 := (ti (ti (ti (ti (an (dt h139) (an (dt h139) (an (dt h139) (an (dt h139) (an (dt h139) (an (dt h139) (an (dt h139) (an (dt h139) (an (dt h139) tt)))))))))))))
  injection h with h; subst h
  exact Qv pm pn Try.func20 (r0 := vi 3) (ans := [.reg (.n :: .n :: []), .reg (nN 4 (nS 8 (.b true :: []))), .br true, .reg (.n :: [])]) (fr := true) (by kernel_rfl) (an (an (ti (ti tt)) (an e140 (an rt (an (ti tt) tt)))) (ti tt)) (Wv.refl _)
 ·obtain ⟨r141, h142, h⟩ := bs h
  have e143 := (an (df h139) (Yj k a0.Num _ h142))
  obtain ⟨r144, h145, h⟩ := bs h
  have e146 := (an (df h139) (Yj k a0.Den _ h145))
  obtain ⟨r147, h148, h⟩ := bs h
  have e149 := (an (df h139) (Qa9 k r141 r144 _ h148))
  have e150 := (ti (ti (ti (ti (an (an (df h139) tt) (an (an (df h139) tt) (an e143 (an (an (df h139) tt) (an (an (df h139) tt) (an e146 (an e149 (an (an (df h139) tt) (an (df h139) tt)))))))))))))
  rcases ifs h with ⟨h151, h⟩ | ⟨h151, h⟩
  ·rcases ifs h with ⟨h153, h⟩ | ⟨h153, h⟩
   ·have e154 := (ti (ti (an (Yj k a0.Num _ h142) (ti (ti (an (dt h153) (an (dt h153) (an (dt h153) (an (dt h153) tt)))))))))
    injection h with h; subst h
    exact Qv pm pn Try.func20 (r0 := vi 2) (ans := [.reg (.n :: .n :: []), .reg (Qo6 r141 r144 r147), .br false, .reg (.n :: .n :: .call (VV.c (.int .u64 r141)) :: .n :: .n :: nS 3 (.b true :: [])), .br true, .reg (.n :: [])]) (fr := true) (by kernel_rfl) (an (an (ti (ti tt)) (an (an e150 (an (Qk (dt h151)) tt)) (an e154 (an rt (an (ti tt) tt))))) (ti tt)) (Wv.refl _)
   ·have e155 := (ti (ti (an (Yj k a0.Num _ h142) (ti (ti (an (an (df h153) tt) (an (an (df h153) tt) (an (an (df h153) tt) (an (df h153) tt)))))))))
    rcases ifs h with ⟨h156, h⟩ | ⟨h156, h⟩
    ·injection h with h; subst h
     exact Qv pm pn Try.func20 (r0 := vi 2) (ans := [.reg (.n :: .n :: []), .reg (Qo6 r141 r144 r147), .br false, .reg (.n :: .n :: .call (VV.c (.int .u64 r141)) :: nN 5 (.b false :: [])), .br true, .reg (.n :: [])]) (fr := true) (by kernel_rfl) (an (an (ti (ti tt)) (an (an e150 (an (Qk (dt h151)) tt)) (an e155 (an (dt h156) (an (ti tt) tt))))) (ti tt)) (Wv.refl _)
    ·injection h with h; subst h
     exact Qv pm pn Try.func20 (r0 := vi 0) (ans := [.reg (.n :: .n :: []), .reg (Qo6 r141 r144 r147), .br false, .reg (.n :: .n :: .call (VV.c (.int .u64 r141)) :: nN 5 (.b false :: [])), .br false, .reg (.n :: [])]) (fr := true) (by kernel_rfl) (an (an (ti (ti tt)) (an (an e150 (an (Qk (dt h151)) tt)) (an (an e155 (an (df h156) tt)) (an (ti tt) tt)))) (ti tt)) (Wv.refl _)
  ·injection h with h; subst h
   exact Qv pm pn Try.func20 (r0 := vi 3) (ans := [.reg (.n :: .n :: []), .reg (Qo6 r141 r144 r147), .br true, .reg (.n :: [])]) (fr := true) (by kernel_rfl) (an (an (ti (ti tt)) (an e150 (an (Zo (df h151)) (an (ti tt) tt)))) (ti tt)) (Wv.refl _)
def Yh (a0 : (List Qc)) (x8 : Int) : VS := ⟨mkA [(6, VV.tr (flatMap Qa a0) a0.length), (7, vi (a0.length : Int)), (8, vi x8)], [], .nil⟩
def Y6 (a0 : (List Qc)) (r : Int) : VS := ⟨mkA [(2, vi r)], [], .nil⟩
def Y7 (a0 : (List Qc)) (r : Unit) : VS := ⟨mkA [], [], .nil⟩
def Zg (k : Nat) (a0 : (List Qc)) : Nat -> Int -> Option (Sum Int Unit)
 | 0, _ => none
 | fuel + 1, x8 => if x8 < (a0.length : Int) then (if 0 <= x8 /\ x8 < (a0.length : Int) then ((X5 k (a0.getD x8.toNat default)).bind fun r201 => (if r201 = 0 then (Zg k a0 fuel (w64 (x8 + 1))) else (some (.inl r201)))) else none) else (some (.inr ()))
theorem Qda (k : Nat) (a0 : (List Qc)) : ∀ (fuel : Nat) (x8 : Int) (r : Sum Int Unit), Zg k a0 fuel x8 = some r -> (match r with | .inl r => X7 none Try.prog (szF Try.f16) (Z9 Try.f16 0) (Yh a0 x8) .ret (Y6 a0 r) | .inr r => X7 none Try.prog (szF Try.f16) (Z9 Try.f16 0) (Yh a0 x8) (.exit 0) (Y7 a0 r)) := by
 intro fuel
 induction fuel with
 | zero => intro x8 r h; rw [Zg.eq_1] at h; cases h
 | succ fuel ih =>
  intro x8 r h
  rw [Zg.eq_2] at h
  rcases ifs h with ⟨h198, h⟩ | ⟨h198, h⟩
  ·obtain ⟨h199, h⟩ := ifn h
   have e200 := (show Qch Try.prog 23 (x8.toNat * 2) (flatMap Qa a0) = some (VV.ag (Qa (a0.getD x8.toNat default))) from Qa1 ag23 Qa 2 sz23 Jd a0 default h199 (by omega))
   obtain ⟨r201, h202, h⟩ := bs h
   have e203 := (Ws k (a0.getD x8.toNat default) _ h202)
   rcases ifs h with ⟨h204, h⟩ | ⟨h204, h⟩
   ·have h2 := ih _ _ h
    obtain ⟨q, hv, hq⟩ := pkR (rd := none) (P := Try.prog) (fn := Try.f16) (k := 0) (s := (Yh a0 x8)) (ans := [.reg (.n :: []), .br true, .reg (.n :: .v (VV.ag (Qa (a0.getD x8.toNat default))) :: .n :: .n :: []), .reg (.n :: .call (vi r201) :: .n :: []), .reg (.n :: .n :: []), .br false, .reg (.n :: .n :: [])]) (c := ⟨[(6, none), (7, none), (8, none)], [], []⟩) (e := .normal) (s1 := (Yh a0 (w64 (x8 + 1)))) (an (an (ti tt) (an (an (dt h198) tt) (an (an (an h199 (an e200 (ti (ti tt)))) (an (ti (an e203 (ti tt))) (an (ti (ti tt)) (an (Qk (dt h204)) tt)))) (ti (ti tt))))) (ti tt)) (by kernel_rfl)
    cases r with
    | inl r => exact Ql pm pn hv hq h2
    | inr r =>
     exact Ql pm pn hv hq h2
   ·injection h with h; subst h
    exact Qh (c := ⟨[(2, none)], [], []⟩) (s1 := (Y6 a0 r201)) pm pn (ans := [.reg (.n :: []), .br true, .reg (.n :: .v (VV.ag (Qa (a0.getD x8.toNat default))) :: .n :: .n :: []), .reg (.n :: .call (vi r201) :: .n :: []), .reg (.n :: .n :: []), .br true, .reg (.n :: .n :: [])]) (by kernel_rfl) (by intro e; cases e) (an (an (ti tt) (an (an (dt h198) tt) (an (an h199 (an e200 (ti (ti tt)))) (an (ti (an e203 (ti tt))) (an (ti (ti tt)) (an (Zo (df h204)) (an (ti (ti tt)) tt))))))) (ti tt))
  ·injection h with h; subst h
   exact Qh (c := ⟨[], [], []⟩) (s1 := (Y7 a0 ())) pm pn (ans := [.reg (.n :: []), .br false]) (by kernel_rfl) (by intro e; cases e) (an (an (ti tt) (an (df h198) tt)) (ti tt))
def Wi (k : Nat) (a0 : (List Qc)) : Option Int :=
 (Zg k a0 k 0).bind fun r206 => (match r206 with | .inl r207 => (some r207) | .inr r208 => (some 0))
theorem Qes (k : Nat) (a0 : (List Qc)) (r : Int) (h : Wi k a0 = some r) : VC Try.prog 16 [VV.tr (flatMap Qa a0) a0.length] (vi r) := by
 unfold Wi at h
 obtain ⟨r206, h205, h⟩ := bs h
 have hph205 := Qda k a0 _ _ _ h205
 cases r206 with
 | inl r207 =>
  dsimp only at h
  have e209 := (an (ti tt) (VRun.loop hph205))
  injection h with h; subst h
  exact Qv pm pn Try.func16 (r0 := vi r207) (ans := [.reg (.n :: []), .reg (nN 3 []), .sub ⟨[(6, none), (7, none), (8, none)], [], []⟩ .ret (Y6 a0 r207)]) (fr := true) (by kernel_rfl) (an (an (ti tt) (an (ti (ti (ti tt))) e209)) (ti tt)) (Wv.refl _)
 | inr r208 =>
  dsimp only at h
  have e210 := (an (ti tt) (VRun.loop hph205))
  injection h with h; subst h
  exact Qv pm pn Try.func16 (r0 := vi 0) (ans := [.reg (.n :: []), .reg (nN 3 []), .sub ⟨[(6, none), (7, none), (8, none)], [], []⟩ (.exit 0) (Y7 a0 r208), .reg (.n :: [])]) (fr := true) (by kernel_rfl) (an (an (ti tt) (an (an (ti (ti (ti tt))) e210) (an (ti tt) tt))) (ti tt)) (Wv.refl _)
theorem Qwo (z0 : Qc) (z1 : Qc) : [VV.tr (flatMap Qa ([z0, z1] : List Qc)) (([z0, z1] : List Qc).length)] = [VV.tr [vi z0.Num, vi z0.Den, vi z1.Num, vi z1.Den] 2] := by first | rfl | (simp only [Zl, map_cons, map_nil, un_i, Qhp, length_cons, length_nil, Qj]; done) | (simp only [Zl, map_cons, map_nil, un_i, Qhp, length_cons, length_nil, Qj]; rfl) | (simp only [Zl, map_cons, map_nil, un_i, Qhp, length_cons, length_nil, Qj, Qa, length_cons, length_nil, length_append]; done)
theorem Qwp (z0 : Int) (z1 : Int) (z2 : Int) : [VV.ag (Qa (⟨w64 ((w64 (0 - z0)).tdiv (w64 z1)), w64 ((w64 (0 - z2)).tdiv (w64 z1))⟩ : Qc))] = [VV.ag [vi (w64 ((w64 (0 - z0)).tdiv (w64 z1))), vi (w64 ((w64 (0 - z2)).tdiv (w64 z1)))]] := by first | rfl | (simp only [Zl, map_cons, map_nil, un_i, Qj]; done) | (simp only [Zl, map_cons, map_nil, un_i, Qj]; rfl) | (simp only [Zl, map_cons, map_nil, un_i, Qj, Qa, length_cons, length_nil, length_append]; done)
theorem Qwq (z0 : Int) (z1 : Int) (z2 : Int) : [VV.ag (Qa (⟨w64 (z0.tdiv (w64 z1)), w64 (z2.tdiv (w64 z1))⟩ : Qc))] = [VV.ag [vi (w64 (z0.tdiv (w64 z1))), vi (w64 (z2.tdiv (w64 z1)))]] := by first | rfl | (simp only [Zl, map_cons, map_nil, un_i, Qj]; done) | (simp only [Zl, map_cons, map_nil, un_i, Qj]; rfl) | (simp only [Zl, map_cons, map_nil, un_i, Qj, Qa, length_cons, length_nil, length_append]; done)
def Qo7 (z0 : Int) (z1 : Int) (z2 : Int) : List Ans := (.n :: .call (VV.c (.int .u64 z0)) :: .n :: .call (VV.c (.int .u64 z1)) :: .call (VV.c (.int .u64 z2)) :: .n :: .n :: [])
theorem Qwr (z0 : Int) (z1 : Int) (z2 : Int) : VV.tu [VV.ag [vi (w64 ((w64 (0 - z0)).tdiv (w64 z1))), vi (w64 ((w64 (0 - z2)).tdiv (w64 z1)))], vi 0] = VV.tu [VV.ag (Qa (⟨w64 ((w64 (0 - z0)).tdiv (w64 z1)), w64 ((w64 (0 - z2)).tdiv (w64 z1))⟩ : Qc)), vi 0] := by first | rfl | (simp only [Zl, map_cons, map_nil, un_i, Qj]; done) | (simp only [Zl, map_cons, map_nil, un_i, Qj]; rfl) | (simp only [Zl, map_cons, map_nil, un_i, Qj, Qa, length_cons, length_nil, length_append]; done)
theorem Quk  : VV.tu [VV.ag [vi 0, vi 0], vi 8] = VV.tu [VV.ag (Qa (⟨0, 0⟩ : Qc)), vi 8] := by first | rfl | (simp only [Zl, map_cons, map_nil, un_i, Qj]; done) | (simp only [Zl, map_cons, map_nil, un_i, Qj]; rfl) | (simp only [Zl, map_cons, map_nil, un_i, Qj, Qa, length_cons, length_nil, length_append]; done)
theorem Qws (z0 : Int) (z1 : Int) (z2 : Int) : VV.tu [VV.ag [vi (w64 (z0.tdiv (w64 z1))), vi (w64 (z2.tdiv (w64 z1)))], vi 0] = VV.tu [VV.ag (Qa (⟨w64 (z0.tdiv (w64 z1)), w64 (z2.tdiv (w64 z1))⟩ : Qc)), vi 0] := by first | rfl | (simp only [Zl, map_cons, map_nil, un_i, Qj]; done) | (simp only [Zl, map_cons, map_nil, un_i, Qj]; rfl) | (simp only [Zl, map_cons, map_nil, un_i, Qj, Qa, length_cons, length_nil, length_append]; done)
def Qax (k : Nat) (a0 : Int) (a1 : Int) : Option (Qc × Int) :=
 if a1 < 0 then ((Yv k (w64 (0 - a0))).bind fun r245 => ((Yv k (w64 (0 - a1))).bind fun r248 => ((Yz k r245 r248).bind fun r251 => (if (w64 r251) ≠ 0 then ((X5 k (⟨w64 ((w64 (0 - a0)).tdiv (w64 r251)), w64 ((w64 (0 - a1)).tdiv (w64 r251))⟩ : Qc)).bind fun r256 => (if r256 = 0 then (some ((⟨w64 ((w64 (0 - a0)).tdiv (w64 r251)), w64 ((w64 (0 - a1)).tdiv (w64 r251))⟩ : Qc), 0)) else (some ((⟨0, 0⟩ : Qc), 8)))) else none)))) else ((Yv k a0).bind fun r260 => ((Yv k a1).bind fun r262 => ((Yz k r260 r262).bind fun r264 => (if (w64 r264) ≠ 0 then ((X5 k (⟨w64 (a0.tdiv (w64 r264)), w64 (a1.tdiv (w64 r264))⟩ : Qc)).bind fun r269 => (if r269 = 0 then (some ((⟨w64 (a0.tdiv (w64 r264)), w64 (a1.tdiv (w64 r264))⟩ : Qc), 0)) else (some ((⟨0, 0⟩ : Qc), 8)))) else none))))
theorem Qgw (k : Nat) (a0 : Int) (a1 : Int) (r : (Qc × Int)) (h : Qax k a0 a1 = some r) : VC Try.prog 17 [vi a0, vi a1] (VV.tu [VV.ag (Qa r.1), vi r.2]) := by
 unfold Qax at h
 rcases ifs h with ⟨h244, h⟩ | ⟨h244, h⟩
 ·obtain ⟨r245, h246, h⟩ := bs h
  have e247 := (Yj k (w64 (0 - a0)) _ h246)
  obtain ⟨r248, h249, h⟩ := bs h
  have e250 := (Yj k (w64 (0 - a1)) _ h249)
  obtain ⟨r251, h252, h⟩ := bs h
  have e253 := (ti (an e247 (ti (an e250 (an (Qa9 k r245 r248 _ h252) (ti (ti tt)))))))
  obtain ⟨h254, h⟩ := ifn h
  have e255 := (ti (ti (an h254 (ti (ti (an h254 (ti (ti (ti tt)))))))))
  obtain ⟨r256, h257, h⟩ := bs h
  have e258 := (VC.args (Ws k (⟨w64 ((w64 (0 - a0)).tdiv (w64 r251)), w64 ((w64 (0 - a1)).tdiv (w64 r251))⟩ : Qc) _ h257) (Qwp a0 r251 a1))
  rcases ifs h with ⟨h259, h⟩ | ⟨h259, h⟩
  ·injection h with h; subst h
   exact Qv pm pn Try.func17 (r0 := VV.tu [VV.ag [vi (w64 ((w64 (0 - a0)).tdiv (w64 r251))), vi (w64 ((w64 (0 - a1)).tdiv (w64 r251)))], vi 0]) (ans := [.reg (.n :: .n :: []), .reg (.n :: .n :: []), .br true, .reg (nN 6 []), .reg (Qo7 r245 r248 r251), .reg (nN 9 []), .reg (.n :: .call (vi r256) :: .n :: []), .br false, .reg (nN 3 [])]) (fr := true) (by kernel_rfl) (an (an (ti (ti tt)) (an (an (ti (ti tt)) (an (dt h244) (ti (ti (ti (ti (ti (ti tt)))))))) (an e253 (an e255 (an (an (ti (an e258 (ti tt))) (an (Qk (dt h259)) tt)) (an (ti (ti (ti tt))) tt)))))) (an (ti (ti (ti tt))) (ti tt))) (Wv.of_eq (Qwr a0 r251 a1))
  ·injection h with h; subst h
   exact Qv pm pn Try.func17 (r0 := VV.tu [VV.ag [vi 0, vi 0], vi 8]) (ans := [.reg (.n :: .n :: []), .reg (.n :: .n :: []), .br true, .reg (nN 6 []), .reg (Qo7 r245 r248 r251), .reg (nN 9 []), .reg (.n :: .call (vi r256) :: .n :: []), .br true, .reg (nN 3 [])]) (fr := true) (by kernel_rfl) (an (an (ti (ti tt)) (an (an (ti (ti tt)) (an (dt h244) (ti (ti (ti (ti (ti (ti tt)))))))) (an e253 (an e255 (an (ti (an e258 (ti tt))) (an (Zo (df h259)) (an (ti (ti (ti tt))) tt))))))) (an (ti (ti (ti tt))) (ti tt))) (Wv.of_eq Quk)
 ·obtain ⟨r260, h261, h⟩ := bs h
  obtain ⟨r262, h263, h⟩ := bs h
  obtain ⟨r264, h265, h⟩ := bs h
  have e266 := (ti (an (Yj k a0 _ h261) (ti (an (Yj k a1 _ h263) (an (Qa9 k r260 r262 _ h265) (ti (ti tt)))))))
  obtain ⟨h267, h⟩ := ifn h
  have e268 := (ti (ti (an h267 (ti (ti (an h267 (ti (ti (ti tt)))))))))
  obtain ⟨r269, h270, h⟩ := bs h
  have e271 := (VC.args (Ws k (⟨w64 (a0.tdiv (w64 r264)), w64 (a1.tdiv (w64 r264))⟩ : Qc) _ h270) (Qwq a0 r264 a1))
  rcases ifs h with ⟨h272, h⟩ | ⟨h272, h⟩
  ·injection h with h; subst h
   exact Qv pm pn Try.func17 (r0 := VV.tu [VV.ag [vi (w64 (a0.tdiv (w64 r264))), vi (w64 (a1.tdiv (w64 r264)))], vi 0]) (ans := [.reg (.n :: .n :: []), .reg (.n :: .n :: []), .br false, .reg (Qo7 r260 r262 r264), .reg (nN 9 []), .reg (.n :: .call (vi r269) :: .n :: []), .br false, .reg (nN 3 [])]) (fr := true) (by kernel_rfl) (an (an (ti (ti tt)) (an (an (ti (ti tt)) (an (df h244) tt)) (an e266 (an e268 (an (an (ti (an e271 (ti tt))) (an (Qk (dt h272)) tt)) (an (ti (ti (ti tt))) tt)))))) (an (ti (ti (ti tt))) (ti tt))) (Wv.of_eq (Qws a0 r264 a1))
  ·injection h with h; subst h
   exact Qv pm pn Try.func17 (r0 := VV.tu [VV.ag [vi 0, vi 0], vi 8]) (ans := [.reg (.n :: .n :: []), .reg (.n :: .n :: []), .br false, .reg (Qo7 r260 r262 r264), .reg (nN 9 []), .reg (.n :: .call (vi r269) :: .n :: []), .br true, .reg (nN 3 [])]) (fr := true) (by kernel_rfl) (an (an (ti (ti tt)) (an (an (ti (ti tt)) (an (df h244) tt)) (an e266 (an e268 (an (ti (an e271 (ti tt))) (an (Zo (df h272)) (an (ti (ti (ti tt))) tt))))))) (an (ti (ti (ti tt))) (ti tt))) (Wv.of_eq Quk)
theorem Qwt (z0 : Int) : VV.tu [VV.ag [vi 0, vi 0], vi z0] = VV.tu [VV.ag (Qa (⟨0, 0⟩ : Qc)), vi z0] := by first | rfl | (simp only [Zl, map_cons, map_nil, un_i, Qj]; done) | (simp only [Zl, map_cons, map_nil, un_i, Qj]; rfl) | (simp only [Zl, map_cons, map_nil, un_i, Qj, Qa, length_cons, length_nil, length_append]; done)
def Qb3 (k : Nat) (a0 : Qc) (a1 : Qc) : Option (Qc × Int) :=
 (Wi k ([a0, a1] : List Qc)).bind fun r277 => (if r277 = 0 then ((Qax k (w64 (a0.Num * a1.Num)) (w64 (a0.Den * a1.Den))).bind fun r281 => (some (r281.1, r281.2))) else (some ((⟨0, 0⟩ : Qc), r277)))
theorem Qfa (k : Nat) (a0 : Qc) (a1 : Qc) (r : (Qc × Int)) (h : Qb3 k a0 a1 = some r) : VC Try.prog 7 [VV.ag (Qa a0), VV.ag (Qa a1)] (VV.tu [VV.ag (Qa r.1), vi r.2]) := by
 unfold Qb3 at h
 obtain ⟨r277, h278, h⟩ := bs h
 have e279 := (VC.args (Qes k ([a0, a1] : List Qc) _ h278) (Qwo a0 a1))
 rcases ifs h with ⟨h280, h⟩ | ⟨h280, h⟩
 ·obtain ⟨r281, h282, h⟩ := bs h
  have e283 := (Qgw k (w64 (a0.Num * a1.Num)) (w64 (a0.Den * a1.Den)) _ h282)
  have e284 := (ti (ti (ti (ti (ti (ti (ti (ti (ti (ti (an e283 (ti (ti (ti (ti tt)))))))))))))))
  injection h with h; subst h
  exact Qv pm pn Try.func7 (r0 := VV.tu [VV.ag (Qa r281.1), vi r281.2]) (ans := [.reg (nN 4 []), .reg (.n :: .n :: .v VV.any :: .call (vi r277) :: .n :: []), .reg (.n :: .n :: []), .br false, .reg (nN 10 (.call (VV.tu [VV.ag (Qa r281.1), vi r281.2]) :: nN 4 []))]) (fr := true) (by kernel_rfl) (an (an (ti (ti (ti (ti tt)))) (an (an (ti (ti (ti (an e279 (ti tt))))) (an (ti (ti tt)) (an (Qk (dt h280)) tt))) (an e284 tt))) (an (ti (ti (ti tt))) (ti tt))) (Wv.refl _)
 ·injection h with h; subst h
  exact Qv pm pn Try.func7 (r0 := VV.tu [VV.ag [vi 0, vi 0], vi r277]) (ans := [.reg (nN 4 []), .reg (.n :: .n :: .v VV.any :: .call (vi r277) :: .n :: []), .reg (.n :: .n :: []), .br true, .reg (nN 4 [])]) (fr := true) (by kernel_rfl) (an (an (ti (ti (ti (ti tt)))) (an (ti (ti (ti (an e279 (ti tt))))) (an (ti (ti tt)) (an (Zo (df h280)) (an (ti (ti (ti (ti tt)))) tt))))) (an (ti (ti (ti tt))) (ti tt))) (Wv.of_eq (Qwt r277))
def Jb (k : Nat) (a0 : Int) : Option Int :=
 if a0 < 0 then (some (w64 (0 - a0))) else (some a0)
theorem Qcr (k : Nat) (a0 : Int) (r : Int) (h : Jb k a0 = some r) : VC Try.prog 29 [vi a0] (vi r) := by
 unfold Jb at h
 rcases ifs h with ⟨h297, h⟩ | ⟨h297, h⟩
 ·injection h with h; subst h
  exact Qv pm pn Try.func29 (r0 := vi (w64 (0 - a0))) (ans := [.reg (.n :: []), .reg (.n :: .n :: []), .br true, .reg (nN 3 [])]) (fr := true) (by kernel_rfl) (an (an (ti tt) (an (ti (ti tt)) (an (dt h297) (an (ti (ti (ti tt))) tt)))) (ti tt)) (Wv.refl _)
 ·injection h with h; subst h
  exact Qv pm pn Try.func29 (r0 := vi a0) (ans := [.reg (.n :: []), .reg (.n :: .n :: []), .br false, .reg (.n :: .n :: [])]) (fr := true) (by kernel_rfl) (an (an (ti tt) (an (an (ti (ti tt)) (an (df h297) tt)) (an (ti (ti tt)) tt))) (ti tt)) (Wv.refl _)
def W9  (x0 : Int) (x1 : Int) : VS := ⟨mkA [(0, vi x0), (1, vi x1)], [], .nil⟩
def Wn  (r : Int) : VS := ⟨mkA [(0, vi r)], [], .nil⟩
def Xd (k : Nat)  : Nat -> Int -> Int -> Option (Int)
 | 0, _, _ => none
 | fuel + 1, x0, x1 => if x1 = 0 then (some x0) else (if x1 ≠ 0 then (Xd k  fuel x1 (x0.tmod x1)) else none)
theorem Qdl (k : Nat)  : ∀ (fuel : Nat) (x0 : Int) (x1 : Int) (r : Int), Xd k  fuel x0 x1 = some r -> (X7 none Try.prog (szF Try.f19) (Z9 Try.f19 0) (W9  x0 x1) (.exit 0) (Wn  r)) := by
 intro fuel
 induction fuel with
 | zero => intro x0 x1 r h; rw [Xd.eq_1] at h; cases h
 | succ fuel ih =>
  intro x0 x1 r h
  rw [Xd.eq_2] at h
  rcases ifs h with ⟨h305, h⟩ | ⟨h305, h⟩
  ·injection h with h; subst h
   exact Qh (c := ⟨[(0, none)], [], []⟩) (s1 := (Wn  x0)) pm pn (ans := [.reg (.n :: .n :: []), .br false]) (by kernel_rfl) (by intro e; cases e) (an (an (ti (ti tt)) (an (Qk (dt h305)) tt)) (ti tt))
  ·obtain ⟨h306, h⟩ := ifn h
   have h2 := ih _ _ _ h
   obtain ⟨q, hv, hq⟩ := pkR (rd := none) (P := Try.prog) (fn := Try.f19) (k := 0) (s := (W9  x0 x1)) (ans := [.reg (.n :: .n :: []), .br true, .reg (nN 6 [])]) (c := ⟨[(0, none), (1, none)], [], []⟩) (e := .normal) (s1 := (W9  x1 (x0.tmod x1))) (an (an (an (ti (ti tt)) (an (Zo (df h305)) tt)) (ti (ti (ti (an h306 (ti (ti tt))))))) (ti tt)) (by kernel_rfl)
   exact Ql pm pn hv hq h2
def Qas (k : Nat) (a0 : Int) (a1 : Int) : Option Int :=
 (Xd k k a0 a1).bind fun r308 => ((Jb k r308).bind fun r310 => (some r310))
theorem Qe8 (k : Nat) (a0 : Int) (a1 : Int) (r : Int) (h : Qas k a0 a1 = some r) : VC Try.prog 19 [vi a0, vi a1] (vi r) := by
 unfold Qas at h
 obtain ⟨r308, h307, h⟩ := bs h
 have hph307 := Qdl k  _ _ _ _ h307
 have e309 := (an (ti tt) (VRun.loop hph307))
 obtain ⟨r310, h311, h⟩ := bs h
 have e312 := (ti (an (Qcr k r308 _ h311) (ti tt)))
 injection h with h; subst h
 exact Qv pm pn Try.func19 (r0 := vi r310) (ans := [.reg (.n :: []), .sub ⟨[(0, none), (1, none)], [], []⟩ (.exit 0) (Wn  r308), .reg (.n :: .call (vi r310) :: .n :: [])]) (fr := true) (by kernel_rfl) (an (an (ti tt) (an e309 (an e312 tt))) (ti tt)) (Wv.refl _)
def Qi (k : Nat) (a0 : Qc) : Option Int :=
 if a0.Den < 1 then (some 3) else ((Qas k a0.Num a0.Den).bind fun r326 => (if r326 = 1 then (if a0.Num < (-1000000000) then (some 2) else (if 1000000000 < a0.Num then (some 2) else (if 1000000000 < a0.Den then (some 2) else (some 0)))) else (some 3)))
theorem Qm (k : Nat) (a0 : Qc) (r : Int) (h : Qi k a0 = some r) : VC Try.prog 9 [VV.ag (Qa a0)] (vi r) := by
 unfold Qi at h
 rcases ifs h with ⟨h324, h⟩ | ⟨h324, h⟩
 ·have e325 := (ti (ti (ti (ti (an (dt h324) (an (dt h324) (an (dt h324) (an (dt h324) (an (dt h324) (an (dt h324) (an (dt h324) tt)))))))))))
  injection h with h; subst h
  exact Qv pm pn Try.func9 (r0 := vi 3) (ans := [.reg (.n :: .n :: []), .reg (nN 4 (nS 6 (.b true :: []))), .br true, .reg (.n :: [])]) (fr := true) (by kernel_rfl) (an (an (ti (ti tt)) (an e325 (an rt (an (ti tt) tt)))) (ti tt)) (Wv.refl _)
 ·obtain ⟨r326, h327, h⟩ := bs h
  have e328 := (an (df h324) (Qe8 k a0.Num a0.Den _ h327))
  have e329 := (ti (ti (ti (ti (an (an (df h324) tt) (an (an (df h324) tt) (an (an (df h324) tt) (an (an (df h324) tt) (an e328 (an (an (df h324) tt) (an (df h324) tt)))))))))))
  rcases ifs h with ⟨h330, h⟩ | ⟨h330, h⟩
  ·rcases ifs h with ⟨h331, h⟩ | ⟨h331, h⟩
   ·have e332 := (ti (ti (ti (ti (an (dt h331) (an (dt h331) (an (dt h331) (an (dt h331) (ti (an rt (an rt (an rt (an rt tt)))))))))))))
    injection h with h; subst h
    exact Qv pm pn Try.func9 (r0 := vi 2) (ans := [.reg (.n :: .n :: []), .reg (nN 8 (.call (vi r326) :: .n :: .b false :: [])), .br false, .reg (nN 4 (nS 3 (.b true :: .n :: nS 3 (.b true :: [])))), .br true, .reg (.n :: [])]) (fr := true) (by kernel_rfl) (an (an (ti (ti tt)) (an (an e329 (an (Qk (dt h330)) tt)) (an e332 (an rt (an (ti tt) tt))))) (ti tt)) (Wv.refl _)
   ·rcases ifs h with ⟨h333, h⟩ | ⟨h333, h⟩
    ·have e334 := (ti (ti (ti (ti (an (an (df h331) tt) (an (an (df h331) tt) (an (an (df h331) tt) (an (df h331) (ti (an (dt h333) (an (dt h333) (an (dt h333) (an (dt h333) tt)))))))))))))
     injection h with h; subst h
     exact Qv pm pn Try.func9 (r0 := vi 2) (ans := [.reg (.n :: .n :: []), .reg (nN 8 (.call (vi r326) :: .n :: .b false :: [])), .br false, .reg (nN 7 (.b false :: .n :: nS 3 (.b true :: []))), .br true, .reg (.n :: [])]) (fr := true) (by kernel_rfl) (an (an (ti (ti tt)) (an (an e329 (an (Qk (dt h330)) tt)) (an e334 (an rt (an (ti tt) tt))))) (ti tt)) (Wv.refl _)
    ·have e335 := (ti (ti (ti (ti (an (an (df h331) tt) (an (an (df h331) tt) (an (an (df h331) tt) (an (df h331) (ti (an (an (df h333) tt) (an (an (df h333) tt) (an (an (df h333) tt) (an (df h333) tt)))))))))))))
     rcases ifs h with ⟨h336, h⟩ | ⟨h336, h⟩
     ·injection h with h; subst h
      exact Qv pm pn Try.func9 (r0 := vi 2) (ans := [.reg (.n :: .n :: []), .reg (nN 8 (.call (vi r326) :: .n :: .b false :: [])), .br false, .reg (nN 7 (.b false :: nN 4 (.b false :: []))), .br true, .reg (.n :: [])]) (fr := true) (by kernel_rfl) (an (an (ti (ti tt)) (an (an e329 (an (Qk (dt h330)) tt)) (an e335 (an (dt h336) (an (ti tt) tt))))) (ti tt)) (Wv.refl _)
     ·injection h with h; subst h
      exact Qv pm pn Try.func9 (r0 := vi 0) (ans := [.reg (.n :: .n :: []), .reg (nN 8 (.call (vi r326) :: .n :: .b false :: [])), .br false, .reg (nN 7 (.b false :: nN 4 (.b false :: []))), .br false, .reg (.n :: [])]) (fr := true) (by kernel_rfl) (an (an (ti (ti tt)) (an (an e329 (an (Qk (dt h330)) tt)) (an (an e335 (an (df h336) tt)) (an (ti tt) tt)))) (ti tt)) (Wv.refl _)
  ·injection h with h; subst h
   exact Qv pm pn Try.func9 (r0 := vi 3) (ans := [.reg (.n :: .n :: []), .reg (nN 8 (.call (vi r326) :: .n :: .b false :: [])), .br true, .reg (.n :: [])]) (fr := true) (by kernel_rfl) (an (an (ti (ti tt)) (an e329 (an (Zo (df h330)) (an (ti tt) tt)))) (ti tt)) (Wv.refl _)
end Go.Proofs.Ytgoohnencoipoaa.Vg

import Derived.Test.YtjfkkcldffgekaaW1
namespace Go.Proofs.Ytjfkkcldffgekaa.Vg
set_option maxRecDepth 100000
set_option maxHeartbeats 4000000
set_option linter.unusedVariables false
set_option linter.unusedSimpArgs false
open Go Go.Proofs.Ytjfkkcldffgekaa.Ev Go.Proofs.Ytjfkkcldffgekaa.Vv
open List (flatMap length_cons length_nil length_map length_append map_cons map_nil length_replicate)
structure Qg where
 Peak : Int
 Slope : Int
 deriving Inhabited
def Qb (x : Qg) : List VV := [vi x.Peak, vi x.Slope]
theorem Qp (xs : List Qg) : (xs.flatMap Qb).map unfr = xs.flatMap Qb := Qgi (fun _ => rfl) xs
theorem ag49 : Qdu Try.prog 49 = some true := by kernel_rfl
theorem sz49 : szOf Try.prog 49 = some 2 := by kernel_rfl
def Xo (k : Nat) (a0 : Qg) : Option Int :=
 (Qq k a0.Peak 0 200000).bind fun r2119 => (if r2119 = true then ((Qq k a0.Slope 0 200000).bind fun r2123 => (if r2123 = true then (some 0) else (some 2))) else (some 2))
theorem Qcg (k : Nat) (a0 : Qg) (r : Int) (h : Xo k a0 = some r) : VC Try.prog 7 [VV.ag (Qb a0)] (vi r) := by
 unfold Xo at h
 obtain ⟨r2119, h2120, h⟩ := bs h
 have e2121 := (Qv k a0.Peak 0 200000 _ h2120)
 rcases ifs h with ⟨h2122, h⟩ | ⟨h2122, h⟩
 ·obtain ⟨r2123, h2124, h⟩ := bs h
  have e2125 := (an (Qh h2122) (Qv k a0.Slope 0 200000 _ h2124))
  have e2126 := (ti (ti (an e2121 (ti (ti (an (an (Qh h2122) tt) (an (an (Qh h2122) tt) (an e2125 (an (an (Qh h2122) tt) (an (Qh h2122) tt))))))))))
  rcases ifs h with ⟨h2127, h⟩ | ⟨h2127, h⟩
  ·injection h with h; subst h
   exact Qn pm pn Try.func7 (r0 := vi 0) (ans := [.reg (.n :: .n :: []), .reg (.n :: .n :: .call (vb r2119) :: nN 4 (.call (vb r2123) :: .n :: .b false :: [])), .br false, .reg (.n :: [])]) (fr := true) (by kernel_rfl) (an (an (ti (ti tt)) (an (an e2126 (an (Qh h2127) tt)) (an (ti tt) tt))) (ti tt)) (Wv.refl _)
  ·injection h with h; subst h
   exact Qn pm pn Try.func7 (r0 := vi 2) (ans := [.reg (.n :: .n :: []), .reg (.n :: .n :: .call (vb r2119) :: nN 4 (.call (vb r2123) :: .n :: .b false :: [])), .br true, .reg (.n :: [])]) (fr := true) (by kernel_rfl) (an (an (ti (ti tt)) (an e2126 (an (Q8 (Zl h2127)) (an (ti tt) tt)))) (ti tt)) (Wv.refl _)
 ·have e2128 := (ti (ti (an e2121 (ti (ti (an (Q8 (Zl h2122)) (an (Q8 (Zl h2122)) (an (Q8 (Zl h2122)) (an (Q8 (Zl h2122)) (an (Q8 (Zl h2122)) tt))))))))))
  injection h with h; subst h
  exact Qn pm pn Try.func7 (r0 := vi 2) (ans := [.reg (.n :: .n :: []), .reg (.n :: .n :: .call (vb r2119) :: .n :: .n :: nS 4 (.b true :: [])), .br true, .reg (.n :: [])]) (fr := true) (by kernel_rfl) (an (an (ti (ti tt)) (an e2128 (an rt (an (ti tt) tt)))) (ti tt)) (Wv.refl _)
def Jo (k : Nat) (a0 : Int) : Option Bool :=
 (Qq k a0 (-100000) 100000).bind fun r2139 => (some r2139)
theorem Qbm (k : Nat) (a0 : Int) (r : Bool) (h : Jo k a0 = some r) : VC Try.prog 24 [vi a0] (vb r) := by
 unfold Jo at h
 obtain ⟨r2139, h2140, h⟩ := bs h
 have e2141 := (Qv k a0 (-100000) 100000 _ h2140)
 injection h with h; subst h
 exact Qn pm pn Try.func24 (r0 := vb r2139) (ans := [.reg (.n :: []), .reg (.n :: .call (vb r2139) :: .n :: [])]) (fr := true) (by kernel_rfl) (an (an (ti tt) (an (ti (an e2141 (ti tt))) tt)) (ti tt)) (Wv.refl _)
def Qwc (z0 : (List Ql)) (z1 : Int) (z2 : Bool) (z3 : Bool) : List Ans := (nN 4 (.v (vi ((z0.getD z1.toNat default).Lo)) :: .call (vb z2) :: nN 6 (.v (vi ((z0.getD z1.toNat default).Hi)) :: .call (vb z3) :: .n :: .b false :: [])))
def Qyp (z0 : (List Ql)) (z1 : Int) : List Ans := (nN 4 (.v (vi ((z0.getD z1.toNat default).Lo)) :: nN 4 (.v (vi ((z0.getD z1.toNat default).Hi)) :: .n :: [])))
def Q2f (z0 : (List Ql)) (z1 : Int) (z2 : Bool) : List Ans := (nN 4 (.v (vi ((z0.getD z1.toNat default).Lo)) :: .call (vb z2) :: .n :: .n :: nS 7 (.b true :: [])))
def Xk (a0 : (List Ql)) (x3 : Int) : VS := ⟨mkA [(0, VV.tr (flatMap Qc a0) a0.length), (3, vi x3)], [], .nil⟩
def Z4 (a0 : (List Ql)) (r : Int) : VS := ⟨mkA [(2, vi r)], [], .nil⟩
def X0 (a0 : (List Ql)) (r : Unit) : VS := ⟨mkA [], [], .nil⟩
def Qy (k : Nat) (a0 : (List Ql)) : Nat -> Int -> Option (Sum Int Unit)
 | 0, _ => none
 | fuel + 1, x3 => if x3 < (a0.length : Int) then (if 0 <= x3 /\ x3 < (a0.length : Int) then ((Jo k ((a0.getD x3.toNat default).Lo)).bind fun r2242 => (if r2242 = true then ((Jo k ((a0.getD x3.toNat default).Hi)).bind fun r2247 => (if r2247 = true then (if ((a0.getD x3.toNat default).Hi) < ((a0.getD x3.toNat default).Lo) then (some (.inl 9)) else (Qy k a0 fuel (w64 (x3 + 1)))) else (some (.inl 2)))) else (some (.inl 2)))) else none) else (some (.inr ()))
theorem Qbo (k : Nat) (a0 : (List Ql)) : ∀ (fuel : Nat) (x3 : Int) (r : Sum Int Unit), Qy k a0 fuel x3 = some r -> (match r with | .inl r => Yt none Try.prog (szF Try.f9) (Jh Try.f9 0) (Xk a0 x3) .ret (Z4 a0 r) | .inr r => Yt none Try.prog (szF Try.f9) (Jh Try.f9 0) (Xk a0 x3) (.exit 0) (X0 a0 r)) := by
 intro fuel
 induction fuel with
 | zero => intro x3 r h; rw [Qy.eq_1] at h; cases h
 | succ fuel ih =>
  intro x3 r h
  rw [Qy.eq_2] at h
  rcases ifs h with ⟨h2239, h⟩ | ⟨h2239, h⟩
  ·obtain ⟨h2240, h⟩ := ifn h
   have e2241 := (show Xx Try.prog 3 (x3.toNat * 2 + 0) (flatMap Qc a0) = some (vi ((a0.getD x3.toNat default).Lo)) from (Qb3 ag3 Qc 2 0 Qo (by omega) a0 default h2240 (by omega)).trans rfl)
   obtain ⟨r2242, h2243, h⟩ := bs h
   have e2244 := (Qbm k ((a0.getD x3.toNat default).Lo) _ h2243)
   rcases ifs h with ⟨h2245, h⟩ | ⟨h2245, h⟩
   ·have e2246 := (an (Qh h2245) (show Xx Try.prog 3 (x3.toNat * 2 + 1) (flatMap Qc a0) = some (vi ((a0.getD x3.toNat default).Hi)) from (Qb3 ag3 Qc 2 1 Qo (by omega) a0 default h2240 (by omega)).trans rfl))
    obtain ⟨r2247, h2248, h⟩ := bs h
    have e2249 := (an (Qh h2245) (Qbm k ((a0.getD x3.toNat default).Hi) _ h2248))
    have e2250 := (ti (ti (an h2240 (ti (an e2241 (an e2244 (ti (ti (an (an (Qh h2245) tt) (an (an (Qh h2245) tt) (an (an (Qh h2245) h2240) (an (an (Qh h2245) tt) (an e2246 (an e2249 (an (an (Qh h2245) tt) (an (Qh h2245) tt))))))))))))))))
    rcases ifs h with ⟨h2251, h⟩ | ⟨h2251, h⟩
    ·have e2252 := (show Xx Try.prog 3 (x3.toNat * 2 + 0) (flatMap Qc a0) = some (vi ((a0.getD x3.toNat default).Lo)) from (Qb3 ag3 Qc 2 0 Qo (by omega) a0 default h2240 (by omega)).trans rfl)
     have e2253 := (show Xx Try.prog 3 (x3.toNat * 2 + 1) (flatMap Qc a0) = some (vi ((a0.getD x3.toNat default).Hi)) from (Qb3 ag3 Qc 2 1 Qo (by omega) a0 default h2240 (by omega)).trans rfl)
     have e2254 := (ti (ti (an h2240 (ti (an e2252 (ti (ti (an h2240 (ti (an e2253 (ti tt)))))))))))
     rcases ifs h with ⟨h2255, h⟩ | ⟨h2255, h⟩
     ·injection h with h; subst h
      exact Q5 (c := ⟨[(2, none)], [], []⟩) (s1 := (Z4 a0 9)) pm pn (ans := [.reg (nN 4 []), .br true, .reg (Qwc a0 x3 r2242 r2247), .br false, .reg (Qyp a0 x3), .br true, .reg (.n :: [])]) (by kernel_rfl) (by intro e; cases e) (an (an (an (ti (ti (ti (ti tt)))) (an (dt h2239) tt)) (an (an e2250 (an (Qh h2251) tt)) (an e2254 (an (dt h2255) (an (ti tt) tt))))) (ti tt))
     ·have h2 := ih _ _ h
      obtain ⟨q, hv, hq⟩ := pkR (rd := none) (P := Try.prog) (fn := Try.f9) (k := 0) (s := (Xk a0 x3)) (ans := [.reg (nN 4 []), .br true, .reg (Qwc a0 x3 r2242 r2247), .br false, .reg (Qyp a0 x3), .br false, .reg (nN 3 [])]) (c := ⟨[(0, none), (3, none)], [], []⟩) (e := .normal) (s1 := (Xk a0 (w64 (x3 + 1)))) (an (an (an (ti (ti (ti (ti tt)))) (an (dt h2239) tt)) (an (an (an e2250 (an (Qh h2251) tt)) (an e2254 (an (df h2255) tt))) (ti (ti (ti tt))))) (ti tt)) (by kernel_rfl)
      cases r with
      | inl r => exact Zd pm pn hv hq h2
      | inr r =>
       exact Zd pm pn hv hq h2
    ·injection h with h; subst h
     exact Q5 (c := ⟨[(2, none)], [], []⟩) (s1 := (Z4 a0 2)) pm pn (ans := [.reg (nN 4 []), .br true, .reg (Qwc a0 x3 r2242 r2247), .br true, .reg (.n :: [])]) (by kernel_rfl) (by intro e; cases e) (an (an (an (ti (ti (ti (ti tt)))) (an (dt h2239) tt)) (an e2250 (an (Q8 (Zl h2251)) (an (ti tt) tt)))) (ti tt))
   ·have e2256 := (ti (ti (an h2240 (ti (an e2241 (an e2244 (ti (ti (an (Q8 (Zl h2245)) (an (Q8 (Zl h2245)) (an (Q8 (Zl h2245)) (an (Q8 (Zl h2245)) (an (Q8 (Zl h2245)) (an (Q8 (Zl h2245)) (an (Q8 (Zl h2245)) (an (Q8 (Zl h2245)) tt))))))))))))))))
    injection h with h; subst h
    exact Q5 (c := ⟨[(2, none)], [], []⟩) (s1 := (Z4 a0 2)) pm pn (ans := [.reg (nN 4 []), .br true, .reg (Q2f a0 x3 r2242), .br true, .reg (.n :: [])]) (by kernel_rfl) (by intro e; cases e) (an (an (an (ti (ti (ti (ti tt)))) (an (dt h2239) tt)) (an e2256 (an rt (an (ti tt) tt)))) (ti tt))
  ·injection h with h; subst h
   exact Q5 (c := ⟨[], [], []⟩) (s1 := (X0 a0 ())) pm pn (ans := [.reg (nN 4 []), .br false]) (by kernel_rfl) (by intro e; cases e) (an (an (ti (ti (ti (ti tt)))) (an (df h2239) tt)) (ti tt))
def Xp (k : Nat) (a0 : (List Ql)) : Option Int :=
 (Qq k (a0.length : Int) 1 40).bind fun r2199 => (if r2199 = true then ((Qy k a0 k 0).bind fun r2258 => (match r2258 with | .inl r2259 => (some r2259) | .inr r2260 => (some 0))) else (some 10))
theorem Qch (k : Nat) (a0 : (List Ql)) (r : Int) (h : Xp k a0 = some r) : VC Try.prog 9 [VV.tr (flatMap Qc a0) a0.length] (vi r) := by
 unfold Xp at h
 obtain ⟨r2199, h2200, h⟩ := bs h
 have e2201 := (Qv k (a0.length : Int) 1 40 _ h2200)
 rcases ifs h with ⟨h2202, h⟩ | ⟨h2202, h⟩
 ·obtain ⟨r2258, h2257, h⟩ := bs h
  have hph2257 := Qbo k a0 _ _ _ h2257
  cases r2258 with
  | inl r2259 =>
   dsimp only at h
   have e2261 := (an (ti tt) (VRun.loop hph2257))
   injection h with h; subst h
   exact Qn pm pn Try.func9 (r0 := vi r2259) (ans := [.reg (.n :: []), .reg (.n :: .n :: .call (vb r2199) :: .n :: []), .br false, .reg (.n :: []), .sub ⟨[(0, none), (3, none)], [], []⟩ .ret (Z4 a0 r2259)]) (fr := true) (by kernel_rfl) (an (an (ti tt) (an (an (ti (ti (an e2201 (ti tt)))) (an (Qh h2202) tt)) (an (ti tt) e2261))) (ti tt)) (Wv.refl _)
  | inr r2260 =>
   dsimp only at h
   have e2262 := (an (ti tt) (VRun.loop hph2257))
   injection h with h; subst h
   exact Qn pm pn Try.func9 (r0 := vi 0) (ans := [.reg (.n :: []), .reg (.n :: .n :: .call (vb r2199) :: .n :: []), .br false, .reg (.n :: []), .sub ⟨[(0, none), (3, none)], [], []⟩ (.exit 0) (X0 a0 r2260), .reg (.n :: [])]) (fr := true) (by kernel_rfl) (an (an (ti tt) (an (an (ti (ti (an e2201 (ti tt)))) (an (Qh h2202) tt)) (an (an (ti tt) e2262) (an (ti tt) tt)))) (ti tt)) (Wv.refl _)
 ·injection h with h; subst h
  exact Qn pm pn Try.func9 (r0 := vi 10) (ans := [.reg (.n :: []), .reg (.n :: .n :: .call (vb r2199) :: .n :: []), .br true, .reg (.n :: [])]) (fr := true) (by kernel_rfl) (an (an (ti tt) (an (ti (ti (an e2201 (ti tt)))) (an (Q8 (Zl h2202)) (an (ti tt) tt)))) (ti tt)) (Wv.refl _)
def X9 (k : Nat) (a0 : Int) (a1 : Int) (a2 : Int) : Option Bool :=
 if a1 <= a0 then (some (decide (a0 <= a2))) else (some false)
theorem Ws (k : Nat) (a0 : Int) (a1 : Int) (a2 : Int) (r : Bool) (h : X9 k a0 a1 a2 = some r) : VC Try.prog 39 [vi a0, vi a1, vi a2] (vb r) := by
 unfold X9 at h
 rcases ifs h with ⟨h2266, h⟩ | ⟨h2266, h⟩
 ·have e2267 := (ti (ti (ti (ti (an (an (dt h2266) tt) (an (an (dt h2266) tt) (an (an (dt h2266) tt) (an (dt h2266) (ti tt)))))))))
  injection h with h; subst h
  exact Qn pm pn Try.func39 (r0 := vb (decide (a0 <= a2))) (ans := [.reg (.n :: []), .reg (nN 7 (.b true :: .n :: []))]) (fr := true) (by kernel_rfl) (an (an (ti tt) (an e2267 tt)) (ti tt)) (Wv.refl _)
 ·have e2268 := (ti (ti (ti (ti (an (df h2266) (an (df h2266) (an (df h2266) (an (df h2266) (ti tt)))))))))
  injection h with h; subst h
  exact Qn pm pn Try.func39 (r0 := vb false) (ans := [.reg (.n :: []), .reg (nN 4 (nS 3 (.b false :: .n :: [])))]) (fr := true) (by kernel_rfl) (an (an (ti tt) (an e2268 tt)) (ti tt)) (Wv.refl _)
def Yh (a0 : (List Int)) (x7 : Int) : VS := ⟨mkA [(5, VV.tr (List.map vi a0) a0.length), (6, vi (a0.length : Int)), (7, vi x7)], [], .nil⟩
def Qac (a0 : (List Int)) (r : Unit) : VS := ⟨mkA [(2, vb false)], [], .nil⟩
def Qad (a0 : (List Int)) (r : Unit) : VS := ⟨mkA [], [], .nil⟩
def Z5 (k : Nat) (a0 : (List Int)) : Nat -> Int -> Option (Sum Unit Unit)
 | 0, _ => none
 | fuel + 1, x7 => if x7 < (a0.length : Int) then (if 0 <= x7 /\ x7 < (a0.length : Int) then ((X9 k (a0.getD x7.toNat 0) (-100000) 100000).bind fun r2320 => (if r2320 = true then (Z5 k a0 fuel (w64 (x7 + 1))) else (some (.inl ())))) else none) else (some (.inr ()))
theorem Qea (k : Nat) (a0 : (List Int)) : ∀ (fuel : Nat) (x7 : Int) (r : Sum Unit Unit), Z5 k a0 fuel x7 = some r -> (match r with | .inl r => Yt none Try.prog (szF Try.f53) (Jh Try.f53 0) (Yh a0 x7) .ret (Qac a0 r) | .inr r => Yt none Try.prog (szF Try.f53) (Jh Try.f53 0) (Yh a0 x7) (.exit 0) (Qad a0 r)) := by
 intro fuel
 induction fuel with
 | zero => intro x7 r h; rw [Z5.eq_1] at h; cases h
 | succ fuel ih =>
  intro x7 r h
  rw [Z5.eq_2] at h
  rcases ifs h with ⟨h2317, h⟩ | ⟨h2317, h⟩
  ·obtain ⟨h2318, h⟩ := ifn h
   have e2319 := (show Xx Try.prog 3 (x7.toNat * 1) (List.map vi a0) = some (vi (a0.getD x7.toNat 0)) from Qah ag3 vi a0 0 h2318 (by omega))
   obtain ⟨r2320, h2321, h⟩ := bs h
   have e2322 := (Ws k (a0.getD x7.toNat 0) (-100000) 100000 _ h2321)
   rcases ifs h with ⟨h2323, h⟩ | ⟨h2323, h⟩
   ·have h2 := ih _ _ h
    obtain ⟨q, hv, hq⟩ := pkR (rd := none) (P := Try.prog) (fn := Try.f53) (k := 0) (s := (Yh a0 x7)) (ans := [.reg (.n :: []), .br true, .reg (.n :: .v (vi (a0.getD x7.toNat 0)) :: .n :: []), .reg (.n :: .call (vb r2320) :: .n :: []), .br false, .reg (.n :: .n :: [])]) (c := ⟨[(5, none), (6, none), (7, none)], [], []⟩) (e := .normal) (s1 := (Yh a0 (w64 (x7 + 1)))) (an (an (ti tt) (an (an (dt h2317) tt) (an (an (an h2318 (an e2319 (ti tt))) (an (ti (an e2322 (ti tt))) (an (Qh h2323) tt))) (ti (ti tt))))) (ti tt)) (by kernel_rfl)
    cases r with
    | inl r => exact Zd pm pn hv hq h2
    | inr r =>
     exact Zd pm pn hv hq h2
   ·injection h with h; subst h
    exact Q5 (c := ⟨[(2, none)], [], []⟩) (s1 := (Qac a0 ())) pm pn (ans := [.reg (.n :: []), .br true, .reg (.n :: .v (vi (a0.getD x7.toNat 0)) :: .n :: []), .reg (.n :: .call (vb r2320) :: .n :: []), .br true, .reg (.n :: [])]) (by kernel_rfl) (by intro e; cases e) (an (an (ti tt) (an (an (dt h2317) tt) (an (an h2318 (an e2319 (ti tt))) (an (ti (an e2322 (ti tt))) (an (Q8 (Zl h2323)) (an (ti tt) tt)))))) (ti tt))
  ·injection h with h; subst h
   exact Q5 (c := ⟨[], [], []⟩) (s1 := (Qad a0 ())) pm pn (ans := [.reg (.n :: []), .br false]) (by kernel_rfl) (by intro e; cases e) (an (an (ti tt) (an (df h2317) tt)) (ti tt))
def Yo (k : Nat) (a0 : (List Int)) : Option Bool :=
 (Z5 k a0 k 0).bind fun r2325 => (match r2325 with | .inl r2326 => (some false) | .inr r2327 => (some true))
theorem Qdb (k : Nat) (a0 : (List Int)) (r : Bool) (h : Yo k a0 = some r) : VC Try.prog 53 [VV.tr (List.map vi a0) a0.length] (vb r) := by
 unfold Yo at h
 obtain ⟨r2325, h2324, h⟩ := bs h
 have hph2324 := Qea k a0 _ _ _ h2324
 cases r2325 with
 | inl r2326 =>
  dsimp only at h
  have e2328 := (an (ti tt) (VRun.loop hph2324))
  injection h with h; subst h
  exact Qn pm pn Try.func53 (r0 := vb false) (ans := [.reg (.n :: []), .reg (nN 3 []), .sub ⟨[(5, none), (6, none), (7, none)], [], []⟩ .ret (Qac a0 r2326)]) (fr := true) (by kernel_rfl) (an (an (ti tt) (an (ti (ti (ti tt))) e2328)) (ti tt)) (Wv.refl _)
 | inr r2327 =>
  dsimp only at h
  have e2329 := (an (ti tt) (VRun.loop hph2324))
  injection h with h; subst h
  exact Qn pm pn Try.func53 (r0 := vb true) (ans := [.reg (.n :: []), .reg (nN 3 []), .sub ⟨[(5, none), (6, none), (7, none)], [], []⟩ (.exit 0) (Qad a0 r2327), .reg (.n :: [])]) (fr := true) (by kernel_rfl) (an (an (ti tt) (an (an (ti (ti (ti tt))) e2329) (an (ti tt) tt))) (ti tt)) (Wv.refl _)
theorem Q2g (z0 : (List Ql)) (z1 : Int) : [VV.tr (List.map vi ([(z0.getD z1.toNat default).Lo, (z0.getD z1.toNat default).Hi] : List Int)) (([(z0.getD z1.toNat default).Lo, (z0.getD z1.toNat default).Hi] : List Int).length)] = [VV.tr [vi ((z0.getD z1.toNat default).Lo), vi ((z0.getD z1.toNat default).Hi)] 2] := by first | rfl | (simp only [Qz, map_cons, map_nil, un_i, Qb2, length_map, length_cons, length_nil]; done) | (simp only [Qz, map_cons, map_nil, un_i, Qb2, length_map, length_cons, length_nil]; rfl) | (simp only [Qz, map_cons, map_nil, un_i, Qb2, length_map, length_cons, length_nil, length_cons, length_nil, length_append]; done)
def Je (a0 : (List Ql)) (x11 : Int) : VS := ⟨mkA [(9, VV.tr (flatMap Qc a0) a0.length), (10, vi (a0.length : Int)), (11, vi x11)], [], .nil⟩
def X4 (a0 : (List Ql)) (r : Int) : VS := ⟨mkA [(2, vi r)], [], .nil⟩
def Yn (a0 : (List Ql)) (r : Unit) : VS := ⟨mkA [], [], .nil⟩
def Zm (k : Nat) (a0 : (List Ql)) : Nat -> Int -> Option (Sum Int Unit)
 | 0, _ => none
 | fuel + 1, x11 => if x11 < (a0.length : Int) then (if 0 <= x11 /\ x11 < (a0.length : Int) then ((Yo k ([(a0.getD x11.toNat default).Lo, (a0.getD x11.toNat default).Hi] : List Int)).bind fun r2380 => (if r2380 = true then (if ((a0.getD x11.toNat default).Hi) < ((a0.getD x11.toNat default).Lo) then (some (.inl 9)) else (Zm k a0 fuel (w64 (x11 + 1)))) else (some (.inl 2)))) else none) else (some (.inr ()))
theorem Qdc (k : Nat) (a0 : (List Ql)) : ∀ (fuel : Nat) (x11 : Int) (r : Sum Int Unit), Zm k a0 fuel x11 = some r -> (match r with | .inl r => Yt none Try.prog (szF Try.f50) (Jh Try.f50 0) (Je a0 x11) .ret (X4 a0 r) | .inr r => Yt none Try.prog (szF Try.f50) (Jh Try.f50 0) (Je a0 x11) (.exit 0) (Yn a0 r)) := by
 intro fuel
 induction fuel with
 | zero => intro x11 r h; rw [Zm.eq_1] at h; cases h
 | succ fuel ih =>
  intro x11 r h
  rw [Zm.eq_2] at h
  rcases ifs h with ⟨h2377, h⟩ | ⟨h2377, h⟩
  ·obtain ⟨h2378, h⟩ := ifn h
   have e2379 := (show Xx Try.prog 49 (x11.toNat * 2) (flatMap Qc a0) = some (VV.ag (Qc (a0.getD x11.toNat default))) from Qdo ag49 Qc 2 sz49 Qo a0 default h2378 (by omega))
   obtain ⟨r2380, h2381, h⟩ := bs h
   have e2382 := (VC.args (Qdb k ([(a0.getD x11.toNat default).Lo, (a0.getD x11.toNat default).Hi] : List Int) _ h2381) (Q2g a0 x11))
   rcases ifs h with ⟨h2383, h⟩ | ⟨h2383, h⟩
   ·rcases ifs h with ⟨h2384, h⟩ | ⟨h2384, h⟩
    ·injection h with h; subst h
     exact Q5 (c := ⟨[(2, none)], [], []⟩) (s1 := (X4 a0 9)) pm pn (ans := [.reg (.n :: []), .br true, .reg (.n :: .v (VV.ag (Qc (a0.getD x11.toNat default))) :: .n :: .n :: []), .reg (nN 4 (.v VV.any :: .call (vb r2380) :: .n :: [])), .br false, .reg (nN 5 []), .br true, .reg (.n :: [])]) (by kernel_rfl) (by intro e; cases e) (an (an (ti tt) (an (an (dt h2377) tt) (an (an h2378 (an e2379 (ti (ti tt)))) (an (an (ti (ti (ti (ti (ti (an e2382 (ti tt))))))) (an (Qh h2383) tt)) (an (ti (ti (ti (ti (ti tt))))) (an (dt h2384) (an (ti tt) tt))))))) (ti tt))
    ·have h2 := ih _ _ h
     obtain ⟨q, hv, hq⟩ := pkR (rd := none) (P := Try.prog) (fn := Try.f50) (k := 0) (s := (Je a0 x11)) (ans := [.reg (.n :: []), .br true, .reg (.n :: .v (VV.ag (Qc (a0.getD x11.toNat default))) :: .n :: .n :: []), .reg (nN 4 (.v VV.any :: .call (vb r2380) :: .n :: [])), .br false, .reg (nN 5 []), .br false, .reg (.n :: .n :: [])]) (c := ⟨[(9, none), (10, none), (11, none)], [], []⟩) (e := .normal) (s1 := (Je a0 (w64 (x11 + 1)))) (an (an (ti tt) (an (an (dt h2377) tt) (an (an (an h2378 (an e2379 (ti (ti tt)))) (an (an (ti (ti (ti (ti (ti (an e2382 (ti tt))))))) (an (Qh h2383) tt)) (an (ti (ti (ti (ti (ti tt))))) (an (df h2384) tt)))) (ti (ti tt))))) (ti tt)) (by kernel_rfl)
     cases r with
     | inl r => exact Zd pm pn hv hq h2
     | inr r =>
      exact Zd pm pn hv hq h2
   ·injection h with h; subst h
    exact Q5 (c := ⟨[(2, none)], [], []⟩) (s1 := (X4 a0 2)) pm pn (ans := [.reg (.n :: []), .br true, .reg (.n :: .v (VV.ag (Qc (a0.getD x11.toNat default))) :: .n :: .n :: []), .reg (nN 4 (.v VV.any :: .call (vb r2380) :: .n :: [])), .br true, .reg (.n :: [])]) (by kernel_rfl) (by intro e; cases e) (an (an (ti tt) (an (an (dt h2377) tt) (an (an h2378 (an e2379 (ti (ti tt)))) (an (ti (ti (ti (ti (ti (an e2382 (ti tt))))))) (an (Q8 (Zl h2383)) (an (ti tt) tt)))))) (ti tt))
  ·injection h with h; subst h
   exact Q5 (c := ⟨[], [], []⟩) (s1 := (Yn a0 ())) pm pn (ans := [.reg (.n :: []), .br false]) (by kernel_rfl) (by intro e; cases e) (an (an (ti tt) (an (df h2377) tt)) (ti tt))
def Wu (k : Nat) (a0 : (List Ql)) : Option Int :=
 (X9 k (a0.length : Int) 1 40).bind fun r2357 => (if r2357 = true then ((Zm k a0 k 0).bind fun r2386 => (match r2386 with | .inl r2387 => (some r2387) | .inr r2388 => (some 0))) else (some 10))
theorem Qep (k : Nat) (a0 : (List Ql)) (r : Int) (h : Wu k a0 = some r) : VC Try.prog 50 [VV.tr (flatMap Qc a0) a0.length] (vi r) := by
 unfold Wu at h
 obtain ⟨r2357, h2358, h⟩ := bs h
 have e2359 := (Ws k (a0.length : Int) 1 40 _ h2358)
 rcases ifs h with ⟨h2360, h⟩ | ⟨h2360, h⟩
 ·obtain ⟨r2386, h2385, h⟩ := bs h
  have hph2385 := Qdc k a0 _ _ _ h2385
  cases r2386 with
  | inl r2387 =>
   dsimp only at h
   have e2389 := (an (ti tt) (VRun.loop hph2385))
   injection h with h; subst h
   exact Qn pm pn Try.func50 (r0 := vi r2387) (ans := [.reg (.n :: []), .reg (.n :: .n :: .call (vb r2357) :: .n :: []), .br false, .reg (nN 3 []), .sub ⟨[(9, none), (10, none), (11, none)], [], []⟩ .ret (X4 a0 r2387)]) (fr := true) (by kernel_rfl) (an (an (ti tt) (an (an (ti (ti (an e2359 (ti tt)))) (an (Qh h2360) tt)) (an (ti (ti (ti tt))) e2389))) (ti tt)) (Wv.refl _)
  | inr r2388 =>
   dsimp only at h
   have e2390 := (an (ti tt) (VRun.loop hph2385))
   injection h with h; subst h
   exact Qn pm pn Try.func50 (r0 := vi 0) (ans := [.reg (.n :: []), .reg (.n :: .n :: .call (vb r2357) :: .n :: []), .br false, .reg (nN 3 []), .sub ⟨[(9, none), (10, none), (11, none)], [], []⟩ (.exit 0) (Yn a0 r2388), .reg (.n :: [])]) (fr := true) (by kernel_rfl) (an (an (ti tt) (an (an (ti (ti (an e2359 (ti tt)))) (an (Qh h2360) tt)) (an (an (ti (ti (ti tt))) e2390) (an (ti tt) tt)))) (ti tt)) (Wv.refl _)
 ·injection h with h; subst h
  exact Qn pm pn Try.func50 (r0 := vi 10) (ans := [.reg (.n :: []), .reg (.n :: .n :: .call (vb r2357) :: .n :: []), .br true, .reg (.n :: [])]) (fr := true) (by kernel_rfl) (an (an (ti tt) (an (ti (ti (an e2359 (ti tt)))) (an (Q8 (Zl h2360)) (an (ti tt) tt)))) (ti tt)) (Wv.refl _)
def X5 (k : Nat) (a0 : Qg) : Option Int :=
 (X9 k a0.Peak 0 200000).bind fun r2405 => (if r2405 = true then ((X9 k a0.Slope 0 200000).bind fun r2409 => (if r2409 = true then (some 0) else (some 2))) else (some 2))
theorem Qbw (k : Nat) (a0 : Qg) (r : Int) (h : X5 k a0 = some r) : VC Try.prog 28 [VV.ag (Qb a0)] (vi r) := by
 unfold X5 at h
 obtain ⟨r2405, h2406, h⟩ := bs h
 have e2407 := (Ws k a0.Peak 0 200000 _ h2406)
 rcases ifs h with ⟨h2408, h⟩ | ⟨h2408, h⟩
 ·obtain ⟨r2409, h2410, h⟩ := bs h
  have e2411 := (an (Qh h2408) (Ws k a0.Slope 0 200000 _ h2410))
  have e2412 := (ti (ti (an e2407 (ti (ti (an (an (Qh h2408) tt) (an (an (Qh h2408) tt) (an e2411 (an (an (Qh h2408) tt) (an (Qh h2408) tt))))))))))
  rcases ifs h with ⟨h2413, h⟩ | ⟨h2413, h⟩
  ·injection h with h; subst h
   exact Qn pm pn Try.func28 (r0 := vi 0) (ans := [.reg (.n :: .n :: []), .reg (.n :: .n :: .call (vb r2405) :: nN 4 (.call (vb r2409) :: .n :: .b false :: [])), .br false, .reg (.n :: [])]) (fr := true) (by kernel_rfl) (an (an (ti (ti tt)) (an (an e2412 (an (Qh h2413) tt)) (an (ti tt) tt))) (ti tt)) (Wv.refl _)
  ·injection h with h; subst h
   exact Qn pm pn Try.func28 (r0 := vi 2) (ans := [.reg (.n :: .n :: []), .reg (.n :: .n :: .call (vb r2405) :: nN 4 (.call (vb r2409) :: .n :: .b false :: [])), .br true, .reg (.n :: [])]) (fr := true) (by kernel_rfl) (an (an (ti (ti tt)) (an e2412 (an (Q8 (Zl h2413)) (an (ti tt) tt)))) (ti tt)) (Wv.refl _)
 ·have e2414 := (ti (ti (an e2407 (ti (ti (an (Q8 (Zl h2408)) (an (Q8 (Zl h2408)) (an (Q8 (Zl h2408)) (an (Q8 (Zl h2408)) (an (Q8 (Zl h2408)) tt))))))))))
  injection h with h; subst h
  exact Qn pm pn Try.func28 (r0 := vi 2) (ans := [.reg (.n :: .n :: []), .reg (.n :: .n :: .call (vb r2405) :: .n :: .n :: nS 4 (.b true :: [])), .br true, .reg (.n :: [])]) (fr := true) (by kernel_rfl) (an (an (ti (ti tt)) (an e2414 (an rt (an (ti tt) tt)))) (ti tt)) (Wv.refl _)
def Jp (k : Nat) (a0 : (List Ql)) (a1 : Qg) : Option Int :=
 (Wu k a0).bind fun r2418 => (if r2418 = 0 then ((X5 k a1).bind fun r2422 => (some r2422)) else (some r2418))
theorem Qeb (k : Nat) (a0 : (List Ql)) (a1 : Qg) (r : Int) (h : Jp k a0 a1 = some r) : VC Try.prog 25 [VV.tr (flatMap Qc a0) a0.length, VV.ag (Qb a1)] (vi r) := by
 unfold Jp at h
 obtain ⟨r2418, h2419, h⟩ := bs h
 have e2420 := (Qep k a0 _ h2419)
 rcases ifs h with ⟨h2421, h⟩ | ⟨h2421, h⟩
 ·obtain ⟨r2422, h2423, h⟩ := bs h
  have e2424 := (Qbw k a1 _ h2423)
  injection h with h; subst h
  exact Qn pm pn Try.func25 (r0 := vi r2422) (ans := [.reg (.n :: .n :: []), .reg (.n :: .call (vi r2418) :: .n :: []), .reg (.n :: .n :: []), .br false, .reg (.n :: .call (vi r2422) :: .n :: [])]) (fr := true) (by kernel_rfl) (an (an (ti (ti tt)) (an (an (ti (an e2420 (ti tt))) (an (ti (ti tt)) (an (Qh (dt h2421)) tt))) (an (ti (an e2424 (ti tt))) tt))) (ti tt)) (Wv.refl _)
 ·injection h with h; subst h
  exact Qn pm pn Try.func25 (r0 := vi r2418) (ans := [.reg (.n :: .n :: []), .reg (.n :: .call (vi r2418) :: .n :: []), .reg (.n :: .n :: []), .br true, .reg (.n :: .n :: [])]) (fr := true) (by kernel_rfl) (an (an (ti (ti tt)) (an (ti (an e2420 (ti tt))) (an (ti (ti tt)) (an (Q8 (df h2421)) (an (ti (ti tt)) tt))))) (ti tt)) (Wv.refl _)
def Qbk (k : Nat) (a0 : Int) : Option Int :=
 some a0
theorem Qft (k : Nat) (a0 : Int) (r : Int) (h : Qbk k a0 = some r) : VC Try.prog 29 [vi a0] (VV.fn 54 [VV.tp [vi r] 0]) := by
 unfold Qbk at h
 injection h with h; subst h
 exact Qn pm pn Try.func29 (r0 := VV.fn 54 [VV.tp [vi a0] 0]) (ans := [.reg (.n :: .n :: []), .frz 0, .reg (.n :: .n :: [])]) (fr := false) (by kernel_rfl) (an (an (ti (ti tt)) (an (ti (ti tt)) tt)) (ti tt)) (Wv.refl _)
def Q2h (z0 : (List Ql)) (z1 : Int) (z2 : Int) : List Ans := (nN 4 (.v (vi ((z0.getD z1.toNat default).Lo)) :: nN 4 (.v (vi ((z0.getD z2.toNat default).Hi)) :: .n :: .n :: [])))
def Qa9 (k : Nat) (a0 : (List Ql)) (a1 : Int) (a2 : Int) : Option Int :=
 if 0 <= a1 /\ a1 < (a0.length : Int) then (if 0 <= a2 /\ a2 < (a0.length : Int) then (some (w64 (((a0.getD a1.toNat default).Lo) - ((a0.getD a2.toNat default).Hi)))) else none) else none
theorem Qgm (k : Nat) (a0 : (List Ql)) (a1 : Int) (a2 : Int) (r : Int) (h : Qa9 k a0 a1 a2 = some r) : VC Try.prog 67 [VV.tr (flatMap Qc a0) a0.length, vi a1, vi a2] (vi r) := by
 unfold Qa9 at h
 obtain ⟨h2437, h⟩ := ifn h
 have e2438 := (show Xx Try.prog 3 (a1.toNat * 2 + 0) (flatMap Qc a0) = some (vi ((a0.getD a1.toNat default).Lo)) from (Qb3 ag3 Qc 2 0 Qo (by omega) a0 default h2437 (by omega)).trans rfl)
 obtain ⟨h2439, h⟩ := ifn h
 have e2440 := (show Xx Try.prog 3 (a2.toNat * 2 + 1) (flatMap Qc a0) = some (vi ((a0.getD a2.toNat default).Hi)) from (Qb3 ag3 Qc 2 1 Qo (by omega) a0 default h2439 (by omega)).trans rfl)
 have e2441 := (ti (ti (an h2437 (ti (an e2438 (ti (ti (an h2439 (ti (an e2440 (ti (ti tt))))))))))))
 injection h with h; subst h
 exact Qn pm pn Try.func67 (r0 := vi (w64 (((a0.getD a1.toNat default).Lo) - ((a0.getD a2.toNat default).Hi)))) (ans := [.reg (.n :: []), .reg (Q2h a0 a1 a2)]) (fr := true) (by kernel_rfl) (an (an (ti tt) (an e2441 tt)) (ti tt)) (Wv.refl _)
def Qb4 (k : Nat) (a0 : Int) : Option Int :=
 some (maxI a0 (w64 (0 - a0)))
theorem Qgn (k : Nat) (a0 : Int) (r : Int) (h : Qb4 k a0 = some r) : VC Try.prog 30 [vi a0] (vi r) := by
 unfold Qb4 at h
 injection h with h; subst h
 exact Qn pm pn Try.func30 (r0 := vi (maxI a0 (w64 (0 - a0)))) (ans := [.reg (.n :: []), .reg (nN 5 [])]) (fr := true) (by kernel_rfl) (an (an (ti tt) (an (ti (ti (ti (ti (ti tt))))) tt)) (ti tt)) (Wv.refl _)
def Qax (k : Nat) (a0 : Qg) (a1 : Int) (a2 : Int) : Option Int :=
 (Qb4 k (w64 (a1 - a2))).bind fun r2449 => (some (minI a0.Peak (w64 (a0.Slope * r2449))))
theorem Qdg (k : Nat) (a0 : Qg) (a1 : Int) (a2 : Int) (r : Int) (h : Qax k a0 a1 a2 = some r) : VC Try.prog 31 [VV.ag (Qb a0), vi a1, vi a2] (vi r) := by
 unfold Qax at h
 obtain ⟨r2449, h2450, h⟩ := bs h
 have e2451 := (Qgn k (w64 (a1 - a2)) _ h2450)
 have e2452 := (ti (ti (ti (ti (ti (ti (ti (an e2451 (ti (ti (ti tt)))))))))))
 injection h with h; subst h
 exact Qn pm pn Try.func31 (r0 := vi (minI a0.Peak (w64 (a0.Slope * r2449)))) (ans := [.reg (.n :: .n :: []), .reg (nN 7 (.call (vi r2449) :: nN 3 []))]) (fr := true) (by kernel_rfl) (an (an (ti (ti tt)) (an e2452 tt)) (ti tt)) (Wv.refl _)
def Qb8 (k : Nat) (a0 : (List Ql)) (a1 : Qg) (a2 : Int) (a3 : Int) : Option Bool :=
 (Qa9 k a0 a2 a3).bind fun r2456 => ((Qax k a1 a2 a3).bind fun r2459 => (some (decide (r2459 < r2456))))
theorem Qil (k : Nat) (a0 : (List Ql)) (a1 : Qg) (a2 : Int) (a3 : Int) (r : Bool) (h : Qb8 k a0 a1 a2 a3 = some r) : VC Try.prog 51 [VV.tr (flatMap Qc a0) a0.length, VV.ag (Qb a1), vi a2, vi a3] (vb r) := by
 unfold Qb8 at h
 obtain ⟨r2456, h2457, h⟩ := bs h
 have e2458 := (Qgm k a0 a2 a3 _ h2457)
 obtain ⟨r2459, h2460, h⟩ := bs h
 have e2461 := (ti (ti (ti (an e2458 (ti (ti (ti (an (Qdg k a1 a2 a3 _ h2460) (ti (ti tt))))))))))
 injection h with h; subst h
 exact Qn pm pn Try.func51 (r0 := vb (decide (r2459 < r2456))) (ans := [.reg (.n :: .n :: []), .reg (nN 3 (.call (vi r2456) :: nN 3 (.call (vi r2459) :: .n :: .n :: [])))]) (fr := true) (by kernel_rfl) (an (an (ti (ti tt)) (an e2461 tt)) (ti tt)) (Wv.refl _)
def Q2i (z0 : (List Ql)) (z1 : Int) (z2 : Int) : List Ans := (nN 4 (.v (vi ((z0.getD z1.toNat default).Hi)) :: nN 4 (.v (vi ((z0.getD z2.toNat default).Lo)) :: .n :: .n :: [])))
def Qbj (k : Nat) (a0 : (List Ql)) (a1 : Int) (a2 : Int) : Option Int :=
 if 0 <= a1 /\ a1 < (a0.length : Int) then (if 0 <= a2 /\ a2 < (a0.length : Int) then (some (w64 (((a0.getD a1.toNat default).Hi) - ((a0.getD a2.toNat default).Lo)))) else none) else none
theorem Qg4 (k : Nat) (a0 : (List Ql)) (a1 : Int) (a2 : Int) (r : Int) (h : Qbj k a0 a1 a2 = some r) : VC Try.prog 52 [VV.tr (flatMap Qc a0) a0.length, vi a1, vi a2] (vi r) := by
 unfold Qbj at h
 obtain ⟨h2471, h⟩ := ifn h
 have e2472 := (show Xx Try.prog 3 (a1.toNat * 2 + 1) (flatMap Qc a0) = some (vi ((a0.getD a1.toNat default).Hi)) from (Qb3 ag3 Qc 2 1 Qo (by omega) a0 default h2471 (by omega)).trans rfl)
 obtain ⟨h2473, h⟩ := ifn h
 have e2474 := (show Xx Try.prog 3 (a2.toNat * 2 + 0) (flatMap Qc a0) = some (vi ((a0.getD a2.toNat default).Lo)) from (Qb3 ag3 Qc 2 0 Qo (by omega) a0 default h2473 (by omega)).trans rfl)
 have e2475 := (ti (ti (an h2471 (ti (an e2472 (ti (ti (an h2473 (ti (an e2474 (ti (ti tt))))))))))))
 injection h with h; subst h
 exact Qn pm pn Try.func52 (r0 := vi (w64 (((a0.getD a1.toNat default).Hi) - ((a0.getD a2.toNat default).Lo)))) (ans := [.reg (.n :: []), .reg (Q2i a0 a1 a2)]) (fr := true) (by kernel_rfl) (an (an (ti tt) (an e2475 tt)) (ti tt)) (Wv.refl _)
def J4 (k : Nat) (a0 : (List Ql)) (a1 : Qg) (r2512 : Int) : List (Int × Int) -> Int -> Int -> Int -> Int -> Option (Sum (Int × Int × Int × Int) (Int × Int × Int × Int))
 | [], b2_0, b3_0, b3_1, b4_0 => some (.inl (b2_0, b3_0, b3_1, b4_0))
 | x :: xs, b2_0, b3_0, b3_1, b4_0 => (Qb8 k a0 a1 x.1 x.2).bind fun r2537 => (if r2537 = true then (some (.inr ((-1), x.1, x.2, b4_0))) else ((Qbj k a0 x.1 x.2).bind fun r2541 => ((Qax k a1 x.1 x.2).bind fun r2544 => (if r2544 < r2541 then (J4 k a0 a1 r2512 xs b2_0 b3_0 b3_1 0) else (J4 k a0 a1 r2512 xs b2_0 b3_0 b3_1 b4_0)))))
theorem Qhl (k : Nat) (a0 : (List Ql)) (a1 : Qg) (r2512 : Int) : ∀ (xs : List (Int × Int)) (b2_0 : Int) (b3_0 : Int) (b3_1 : Int) (b4_0 : Int) (r : Sum (Int × Int × Int × Int) (Int × Int × Int × Int)), J4 k a0 a1 r2512 xs b2_0 b3_0 b3_1 b4_0 = some r -> (match r with | .inl r => Qbu Try.prog (szF Try.f26) (.tmp 11) [12, 13] (Wl Try.f26 0) (Qfx Try.f26 0) (xs.map encP) ⟨mkA [(2, VV.pt 0 0), (3, VV.pt 1 0), (4, VV.pt 2 0), (5, VV.pt 3 0), (6, VV.pt 4 0), (11, VV.fn 54 [VV.tp [vi r2512] 0])], [some ⟨true, 1, [VV.tr (flatMap Qc a0) a0.length]⟩, some ⟨true, 1, Qb a1⟩, some ⟨true, 1, [vi b2_0]⟩, some ⟨true, 1, [vi b3_0, vi b3_1]⟩, some ⟨true, 1, [vi b4_0]⟩], .nil⟩ .normal ⟨mkA [(2, VV.pt 0 0), (3, VV.pt 1 0), (4, VV.pt 2 0), (5, VV.pt 3 0), (6, VV.pt 4 0), (11, VV.fn 54 [VV.tp [vi r2512] 0])], [some ⟨true, 1, [VV.tr (flatMap Qc a0) a0.length]⟩, some ⟨true, 1, Qb a1⟩, some ⟨true, 1, [vi r.1]⟩, some ⟨true, 1, [vi r.2.1, vi r.2.2.1]⟩, some ⟨true, 1, [vi r.2.2.2]⟩], .nil⟩ | .inr r => Qbu Try.prog (szF Try.f26) (.tmp 11) [12, 13] (Wl Try.f26 0) (Qfx Try.f26 0) (xs.map encP) ⟨mkA [(2, VV.pt 0 0), (3, VV.pt 1 0), (4, VV.pt 2 0), (5, VV.pt 3 0), (6, VV.pt 4 0), (11, VV.fn 54 [VV.tp [vi r2512] 0])], [some ⟨true, 1, [VV.tr (flatMap Qc a0) a0.length]⟩, some ⟨true, 1, Qb a1⟩, some ⟨true, 1, [vi b2_0]⟩, some ⟨true, 1, [vi b3_0, vi b3_1]⟩, some ⟨true, 1, [vi b4_0]⟩], .nil⟩ .ret ⟨mkA [(2, VV.pt 0 0), (3, VV.pt 1 0), (4, VV.pt 2 0), (5, VV.pt 3 0), (6, VV.pt 4 0), (11, VV.fn 54 [VV.tp [vi r2512] 0])], [some ⟨true, 1, [VV.tr (flatMap Qc a0) a0.length]⟩, some ⟨true, 1, Qb a1⟩, some ⟨true, 1, [vi r.1]⟩, some ⟨true, 1, [vi r.2.1, vi r.2.2.1]⟩, some ⟨true, 1, [vi r.2.2.2]⟩], .nil⟩) := by
 intro xs
 induction xs with
 | nil => intro b2_0 b3_0 b3_1 b4_0 r h; rw [J4.eq_1] at h; injection h with h; subst h; exact .nil
 | cons x xs ih =>
  intro b2_0 b3_0 b3_1 b4_0 r h
  rw [J4.eq_2] at h
  obtain ⟨r2537, h2538, h⟩ := bs h
  have e2539 := (Qil k a0 a1 x.1 x.2 _ h2538)
  rcases ifs h with ⟨h2540, h⟩ | ⟨h2540, h⟩
  ·injection h with h; subst h
   have hr := Qok (P := Try.prog) (sz := szF Try.f26) (assign := Wl Try.f26 0) (body := Qfx Try.f26 0) (s := (⟨mkA [(2, VV.pt 0 0), (3, VV.pt 1 0), (4, VV.pt 2 0), (5, VV.pt 3 0), (6, VV.pt 4 0), (11, VV.fn 54 [VV.tp [vi r2512] 0])], [some ⟨true, 1, [VV.tr (flatMap Qc a0) a0.length]⟩, some ⟨true, 1, Qb a1⟩, some ⟨true, 1, [vi b2_0]⟩, some ⟨true, 1, [vi b3_0, vi b3_1]⟩, some ⟨true, 1, [vi b4_0]⟩], .nil⟩ : VS)) (ps := [12, 13]) (x := (encP x)) (sa := (stOf Try.prog (szF Try.f26) (Wl Try.f26 0) [.reg (.n :: []), .reg (.n :: [])] (VS.enter (⟨mkA [(2, VV.pt 0 0), (3, VV.pt 1 0), (4, VV.pt 2 0), (5, VV.pt 3 0), (6, VV.pt 4 0), (11, VV.fn 54 [VV.tp [vi r2512] 0])], [some ⟨true, 1, [VV.tr (flatMap Qc a0) a0.length]⟩, some ⟨true, 1, Qb a1⟩, some ⟨true, 1, [vi b2_0]⟩, some ⟨true, 1, [vi b3_0, vi b3_1]⟩, some ⟨true, 1, [vi b4_0]⟩], .nil⟩ : VS) [12, 13] (encP x)))) (s1 := stOf Try.prog (szF Try.f26) (Qfx Try.f26 0) [.reg (nN 4 (.call (vb r2537) :: [])), .br true, .reg (nN 5 [])] (stOf Try.prog (szF Try.f26) (Wl Try.f26 0) [.reg (.n :: []), .reg (.n :: [])] (VS.enter (⟨mkA [(2, VV.pt 0 0), (3, VV.pt 1 0), (4, VV.pt 2 0), (5, VV.pt 3 0), (6, VV.pt 4 0), (11, VV.fn 54 [VV.tp [vi r2512] 0])], [some ⟨true, 1, [VV.tr (flatMap Qc a0) a0.length]⟩, some ⟨true, 1, Qb a1⟩, some ⟨true, 1, [vi b2_0]⟩, some ⟨true, 1, [vi b3_0, vi b3_1]⟩, some ⟨true, 1, [vi b4_0]⟩], .nil⟩ : VS) [12, 13] (encP x)))) (s2 := ⟨.nil, [some ⟨true, 1, [VV.tr (flatMap Qc a0) a0.length]⟩, some ⟨true, 1, Qb a1⟩, some ⟨true, 1, [vi (-1)]⟩, some ⟨true, 1, [vi x.1, vi x.2]⟩, some ⟨true, 1, [vi b4_0]⟩], (mkA [(2, VV.pt 0 0), (3, VV.pt 1 0), (4, VV.pt 2 0), (5, VV.pt 3 0), (6, VV.pt 4 0), (11, VV.fn 54 [VV.tp [vi r2512] 0])])⟩) (a1 := [.reg (.n :: []), .reg (.n :: [])]) (a2 := [.reg (nN 4 (.call (vb r2537) :: [])), .br true, .reg (nN 5 [])]) (c := ⟨[], [none, none, none, none, none], []⟩) (e := .ret) (q1 := (((True) /\ True) /\ ((True) /\ True))) (q2 := fun l => (((True) /\ (True) /\ (True) /\ (True) /\ (VC Try.prog 51 [VV.tr (flatMap Qc a0) a0.length, VV.ag (Qb a1), vi x.1, vi x.2] (vb r2537)) /\ True) /\ ((r2537 = true) /\ (((True) /\ (True) /\ (True) /\ (True) /\ (True) /\ True) /\ (True))))) (p := ((True) /\ ((True)))) pm pn (fun l => by kernel_rfl) (an (ti tt) (ti tt)) (fun l => by kernel_rfl) (fun l => (an (ti (ti (ti (ti (an e2539 tt))))) (an h2540 (an (ti (ti (ti (ti (ti tt))))) tt)))) (by kernel_rfl) ⟨tt, tt⟩
   exact Qbu.ret (by kernel_rfl) rfl hr.1 hr.2
  ·obtain ⟨r2541, h2542, h⟩ := bs h
   have e2543 := (Qg4 k a0 x.1 x.2 _ h2542)
   obtain ⟨r2544, h2545, h⟩ := bs h
   have e2546 := (ti (ti (ti (an e2543 (ti (ti (ti (an (Qdg k a1 x.1 x.2 _ h2545) (ti tt)))))))))
   rcases ifs h with ⟨h2547, h⟩ | ⟨h2547, h⟩
   ·have h2 := ih _ _ _ _ _ h
    have hr := Qok (P := Try.prog) (sz := szF Try.f26) (assign := Wl Try.f26 0) (body := Qfx Try.f26 0) (s := (⟨mkA [(2, VV.pt 0 0), (3, VV.pt 1 0), (4, VV.pt 2 0), (5, VV.pt 3 0), (6, VV.pt 4 0), (11, VV.fn 54 [VV.tp [vi r2512] 0])], [some ⟨true, 1, [VV.tr (flatMap Qc a0) a0.length]⟩, some ⟨true, 1, Qb a1⟩, some ⟨true, 1, [vi b2_0]⟩, some ⟨true, 1, [vi b3_0, vi b3_1]⟩, some ⟨true, 1, [vi b4_0]⟩], .nil⟩ : VS)) (ps := [12, 13]) (x := (encP x)) (sa := (stOf Try.prog (szF Try.f26) (Wl Try.f26 0) [.reg (.n :: []), .reg (.n :: [])] (VS.enter (⟨mkA [(2, VV.pt 0 0), (3, VV.pt 1 0), (4, VV.pt 2 0), (5, VV.pt 3 0), (6, VV.pt 4 0), (11, VV.fn 54 [VV.tp [vi r2512] 0])], [some ⟨true, 1, [VV.tr (flatMap Qc a0) a0.length]⟩, some ⟨true, 1, Qb a1⟩, some ⟨true, 1, [vi b2_0]⟩, some ⟨true, 1, [vi b3_0, vi b3_1]⟩, some ⟨true, 1, [vi b4_0]⟩], .nil⟩ : VS) [12, 13] (encP x)))) (s1 := stOf Try.prog (szF Try.f26) (Qfx Try.f26 0) [.reg (nN 4 (.call (vb r2537) :: [])), .br false, .reg (nN 3 (.call (vi r2541) :: nN 3 (.call (vi r2544) :: .n :: []))), .br true, .reg (.n :: [])] (stOf Try.prog (szF Try.f26) (Wl Try.f26 0) [.reg (.n :: []), .reg (.n :: [])] (VS.enter (⟨mkA [(2, VV.pt 0 0), (3, VV.pt 1 0), (4, VV.pt 2 0), (5, VV.pt 3 0), (6, VV.pt 4 0), (11, VV.fn 54 [VV.tp [vi r2512] 0])], [some ⟨true, 1, [VV.tr (flatMap Qc a0) a0.length]⟩, some ⟨true, 1, Qb a1⟩, some ⟨true, 1, [vi b2_0]⟩, some ⟨true, 1, [vi b3_0, vi b3_1]⟩, some ⟨true, 1, [vi b4_0]⟩], .nil⟩ : VS) [12, 13] (encP x)))) (s2 := ⟨.nil, [some ⟨true, 1, [VV.tr (flatMap Qc a0) a0.length]⟩, some ⟨true, 1, Qb a1⟩, some ⟨true, 1, [vi b2_0]⟩, some ⟨true, 1, [vi b3_0, vi b3_1]⟩, some ⟨true, 1, [vi 0]⟩], (mkA [(2, VV.pt 0 0), (3, VV.pt 1 0), (4, VV.pt 2 0), (5, VV.pt 3 0), (6, VV.pt 4 0), (11, VV.fn 54 [VV.tp [vi r2512] 0])])⟩) (a1 := [.reg (.n :: []), .reg (.n :: [])]) (a2 := [.reg (nN 4 (.call (vb r2537) :: [])), .br false, .reg (nN 3 (.call (vi r2541) :: nN 3 (.call (vi r2544) :: .n :: []))), .br true, .reg (.n :: [])]) (c := ⟨[], [none, none, none, none, none], []⟩) (e := .normal) (q1 := (((True) /\ True) /\ ((True) /\ True))) (q2 := fun l => ((((True) /\ (True) /\ (True) /\ (True) /\ (VC Try.prog 51 [VV.tr (flatMap Qc a0) a0.length, VV.ag (Qb a1), vi x.1, vi x.2] (vb r2537)) /\ True) /\ ((r2537 = false) /\ (True))) /\ (((True) /\ (True) /\ (True) /\ (VC Try.prog 52 [VV.tr (flatMap Qc a0) a0.length, vi x.1, vi x.2] (vi r2541)) /\ (True) /\ (True) /\ (True) /\ (VC Try.prog 31 [VV.ag (Qb a1), vi x.1, vi x.2] (vi r2544)) /\ (True) /\ True) /\ (((decide (r2544 < r2541)) = true) /\ ((True) /\ True))))) (p := ((True) /\ ((True)))) pm pn (fun l => by kernel_rfl) (an (ti tt) (ti tt)) (fun l => by kernel_rfl) (fun l => (an (an (ti (ti (ti (ti (an e2539 tt))))) (an (Zl h2540) tt)) (an e2546 (an (dt h2547) (ti tt))))) (by kernel_rfl) ⟨tt, tt⟩
    cases r with
    | inl r =>
     exact Qbu.next (by kernel_rfl) rfl hr.1 hr.2 (by kernel_rfl) h2
    | inr r =>
     exact Qbu.next (by kernel_rfl) rfl hr.1 hr.2 (by kernel_rfl) h2
   ·have h2 := ih _ _ _ _ _ h
    have hr := Qok (P := Try.prog) (sz := szF Try.f26) (assign := Wl Try.f26 0) (body := Qfx Try.f26 0) (s := (⟨mkA [(2, VV.pt 0 0), (3, VV.pt 1 0), (4, VV.pt 2 0), (5, VV.pt 3 0), (6, VV.pt 4 0), (11, VV.fn 54 [VV.tp [vi r2512] 0])], [some ⟨true, 1, [VV.tr (flatMap Qc a0) a0.length]⟩, some ⟨true, 1, Qb a1⟩, some ⟨true, 1, [vi b2_0]⟩, some ⟨true, 1, [vi b3_0, vi b3_1]⟩, some ⟨true, 1, [vi b4_0]⟩], .nil⟩ : VS)) (ps := [12, 13]) (x := (encP x)) (sa := (stOf Try.prog (szF Try.f26) (Wl Try.f26 0) [.reg (.n :: []), .reg (.n :: [])] (VS.enter (⟨mkA [(2, VV.pt 0 0), (3, VV.pt 1 0), (4, VV.pt 2 0), (5, VV.pt 3 0), (6, VV.pt 4 0), (11, VV.fn 54 [VV.tp [vi r2512] 0])], [some ⟨true, 1, [VV.tr (flatMap Qc a0) a0.length]⟩, some ⟨true, 1, Qb a1⟩, some ⟨true, 1, [vi b2_0]⟩, some ⟨true, 1, [vi b3_0, vi b3_1]⟩, some ⟨true, 1, [vi b4_0]⟩], .nil⟩ : VS) [12, 13] (encP x)))) (s1 := stOf Try.prog (szF Try.f26) (Qfx Try.f26 0) [.reg (nN 4 (.call (vb r2537) :: [])), .br false, .reg (nN 3 (.call (vi r2541) :: nN 3 (.call (vi r2544) :: .n :: []))), .br false] (stOf Try.prog (szF Try.f26) (Wl Try.f26 0) [.reg (.n :: []), .reg (.n :: [])] (VS.enter (⟨mkA [(2, VV.pt 0 0), (3, VV.pt 1 0), (4, VV.pt 2 0), (5, VV.pt 3 0), (6, VV.pt 4 0), (11, VV.fn 54 [VV.tp [vi r2512] 0])], [some ⟨true, 1, [VV.tr (flatMap Qc a0) a0.length]⟩, some ⟨true, 1, Qb a1⟩, some ⟨true, 1, [vi b2_0]⟩, some ⟨true, 1, [vi b3_0, vi b3_1]⟩, some ⟨true, 1, [vi b4_0]⟩], .nil⟩ : VS) [12, 13] (encP x)))) (s2 := ⟨.nil, [some ⟨true, 1, [VV.tr (flatMap Qc a0) a0.length]⟩, some ⟨true, 1, Qb a1⟩, some ⟨true, 1, [vi b2_0]⟩, some ⟨true, 1, [vi b3_0, vi b3_1]⟩, some ⟨true, 1, [vi b4_0]⟩], (mkA [(2, VV.pt 0 0), (3, VV.pt 1 0), (4, VV.pt 2 0), (5, VV.pt 3 0), (6, VV.pt 4 0), (11, VV.fn 54 [VV.tp [vi r2512] 0])])⟩) (a1 := [.reg (.n :: []), .reg (.n :: [])]) (a2 := [.reg (nN 4 (.call (vb r2537) :: [])), .br false, .reg (nN 3 (.call (vi r2541) :: nN 3 (.call (vi r2544) :: .n :: []))), .br false]) (c := ⟨[], [none, none, none, none, none], []⟩) (e := .normal) (q1 := (((True) /\ True) /\ ((True) /\ True))) (q2 := fun l => ((((True) /\ (True) /\ (True) /\ (True) /\ (VC Try.prog 51 [VV.tr (flatMap Qc a0) a0.length, VV.ag (Qb a1), vi x.1, vi x.2] (vb r2537)) /\ True) /\ ((r2537 = false) /\ (True))) /\ (((True) /\ (True) /\ (True) /\ (VC Try.prog 52 [VV.tr (flatMap Qc a0) a0.length, vi x.1, vi x.2] (vi r2541)) /\ (True) /\ (True) /\ (True) /\ (VC Try.prog 31 [VV.ag (Qb a1), vi x.1, vi x.2] (vi r2544)) /\ (True) /\ True) /\ (((decide (r2544 < r2541)) = false) /\ (True))))) (p := ((True) /\ ((True)))) pm pn (fun l => by kernel_rfl) (an (ti tt) (ti tt)) (fun l => by kernel_rfl) (fun l => (an (an (ti (ti (ti (ti (an e2539 tt))))) (an (Zl h2540) tt)) (an e2546 (an (df h2547) tt)))) (by kernel_rfl) ⟨tt, tt⟩
    cases r with
    | inl r =>
     exact Qbu.next (by kernel_rfl) rfl hr.1 hr.2 (by kernel_rfl) h2
    | inr r =>
     exact Qbu.next (by kernel_rfl) rfl hr.1 hr.2 (by kernel_rfl) h2
theorem Q2j (z0 : Int × Int × Int × Int) : VV.tu [vi z0.2.2.2, VV.ag [vi 0, vi 0]] = VV.tu [vi z0.2.2.2, VV.ag (Qa0 (⟨0, 0⟩ : A39))] := by first | rfl | (simp only [Qz, map_cons, map_nil, un_i, Zj]; done) | (simp only [Qz, map_cons, map_nil, un_i, Zj]; rfl) | (simp only [Qz, map_cons, map_nil, un_i, Zj, length_cons, length_nil, length_append]; done)
theorem Q2k (z0 : Int × Int × Int × Int) : VV.tu [vi z0.1, VV.ag [vi z0.2.1, vi z0.2.2.1]] = VV.tu [vi z0.1, VV.ag (Qa0 (⟨z0.2.1, z0.2.2.1⟩ : A39))] := by first | rfl | (simp only [Qz, map_cons, map_nil, un_i, Zj]; done) | (simp only [Qz, map_cons, map_nil, un_i, Zj]; rfl) | (simp only [Qz, map_cons, map_nil, un_i, Zj, length_cons, length_nil, length_append]; done)
def Ja (k : Nat) (a0 : (List Ql)) (a1 : Qg) : Option (Int × A39) :=
 (Qbk k (a0.length : Int)).bind fun r2512 => (if r2512 <= 1000000000 then ((J4 k a0 a1 r2512 (Qf5 r2512) 0 0 0 1).bind fun r2550 => (match r2550 with | .inl r2551 => (some (r2551.2.2.2, (⟨0, 0⟩ : A39))) | .inr r2552 => (some (r2552.1, (⟨r2552.2.1, r2552.2.2.1⟩ : A39))))) else none)
theorem Qfu (k : Nat) (a0 : (List Ql)) (a1 : Qg) (r : (Int × A39)) (h : Ja k a0 a1 = some r) : VC Try.prog 26 [VV.tr (flatMap Qc a0) a0.length, VV.ag (Qb a1)] (VV.tu [vi r.1, VV.ag (Qa0 r.2)]) := by
 unfold Ja at h
 obtain ⟨r2512, h2513, h⟩ := bs h
 have e2514 := (Qft k (a0.length : Int) _ h2513)
 obtain ⟨h2548, h⟩ := ifn h
 obtain ⟨r2550, h2549, h⟩ := bs h
 have hph2549 := Qhl k a0 a1 r2512 _ _ _ _ _ _ h2549
 cases r2550 with
 | inl r2551 =>
  dsimp only at h
  have e2553 : ((((True)) /\ ((True))) /\ VRun none Try.prog (szF Try.f26) (.rangeFunc (.tmp 11) #[12, 13] (Wl Try.f26 0) (Qfx Try.f26 0)) ⟨mkA [(2, VV.pt 0 0), (3, VV.pt 1 0), (4, VV.pt 2 0), (5, VV.pt 3 0), (6, VV.pt 4 0), (11, VV.fn 54 [VV.tp [vi r2512] 0])], [some ⟨true, 1, [VV.tr (flatMap Qc a0) a0.length]⟩, some ⟨true, 1, Qb a1⟩, some ⟨true, 1, [vi 0]⟩, some ⟨true, 1, [vi 0, vi 0]⟩, some ⟨true, 1, [vi 1]⟩], .nil⟩ .normal ⟨mkA [(2, VV.pt 0 0), (3, VV.pt 1 0), (4, VV.pt 2 0), (5, VV.pt 3 0), (6, VV.pt 4 0), (11, VV.fn 54 [VV.tp [vi r2512] 0])], [some ⟨true, 1, [VV.tr (flatMap Qc a0) a0.length]⟩, some ⟨true, 1, Qb a1⟩, some ⟨true, 1, [vi r2551.1]⟩, some ⟨true, 1, [vi r2551.2.1, vi r2551.2.2.1]⟩, some ⟨true, 1, [vi r2551.2.2.2]⟩], .nil⟩) := ⟨⟨tt, tt⟩, VRun.range pn rfl (by kernel_rfl) (Qjt h2548) (by kernel_rfl) (of_decide_eq_true (by kernel_rfl)) (by decide) hph2549⟩
  injection h with h; subst h
  exact Qn pm pn Try.func26 (r0 := VV.tu [vi r2551.2.2.2, VV.ag [vi 0, vi 0]]) (ans := [.reg (nN 4 []), .reg (.n :: .n :: []), .reg (.n :: .n :: .call (VV.fn 54 [VV.tp [vi r2512] 0]) :: []), .sub ⟨[(2, none), (3, none), (4, none), (5, none), (6, none), (11, none)], [none, none, none, none, none], []⟩ .normal ⟨mkA [(2, VV.pt 0 0), (3, VV.pt 1 0), (4, VV.pt 2 0), (5, VV.pt 3 0), (6, VV.pt 4 0), (11, VV.fn 54 [VV.tp [vi r2512] 0])], [some ⟨true, 1, [VV.tr (flatMap Qc a0) a0.length]⟩, some ⟨true, 1, Qb a1⟩, some ⟨true, 1, [vi r2551.1]⟩, some ⟨true, 1, [vi r2551.2.1, vi r2551.2.2.1]⟩, some ⟨true, 1, [vi r2551.2.2.2]⟩], .nil⟩, .reg (nN 4 [])]) (fr := true) (by kernel_rfl) (an (an (ti (ti (ti (ti tt)))) (an (ti (ti tt)) (an (an (ti (ti (an e2514 tt))) e2553) (an (ti (ti (ti (ti tt)))) tt)))) (an (ti tt) (an (ti (ti (ti tt))) tt))) (Wv.of_eq (Q2j r2551))
 | inr r2552 =>
  dsimp only at h
  have e2554 : ((((True)) /\ ((True))) /\ VRun none Try.prog (szF Try.f26) (.rangeFunc (.tmp 11) #[12, 13] (Wl Try.f26 0) (Qfx Try.f26 0)) ⟨mkA [(2, VV.pt 0 0), (3, VV.pt 1 0), (4, VV.pt 2 0), (5, VV.pt 3 0), (6, VV.pt 4 0), (11, VV.fn 54 [VV.tp [vi r2512] 0])], [some ⟨true, 1, [VV.tr (flatMap Qc a0) a0.length]⟩, some ⟨true, 1, Qb a1⟩, some ⟨true, 1, [vi 0]⟩, some ⟨true, 1, [vi 0, vi 0]⟩, some ⟨true, 1, [vi 1]⟩], .nil⟩ .ret ⟨mkA [(2, VV.pt 0 0), (3, VV.pt 1 0), (4, VV.pt 2 0), (5, VV.pt 3 0), (6, VV.pt 4 0), (11, VV.fn 54 [VV.tp [vi r2512] 0])], [some ⟨true, 1, [VV.tr (flatMap Qc a0) a0.length]⟩, some ⟨true, 1, Qb a1⟩, some ⟨true, 1, [vi r2552.1]⟩, some ⟨true, 1, [vi r2552.2.1, vi r2552.2.2.1]⟩, some ⟨true, 1, [vi r2552.2.2.2]⟩], .nil⟩) := ⟨⟨tt, tt⟩, VRun.range pn rfl (by kernel_rfl) (Qjt h2548) (by kernel_rfl) (of_decide_eq_true (by kernel_rfl)) (by decide) hph2549⟩
  injection h with h; subst h
  exact Qn pm pn Try.func26 (r0 := VV.tu [vi r2552.1, VV.ag [vi r2552.2.1, vi r2552.2.2.1]]) (ans := [.reg (nN 4 []), .reg (.n :: .n :: []), .reg (.n :: .n :: .call (VV.fn 54 [VV.tp [vi r2512] 0]) :: []), .sub ⟨[(2, none), (3, none), (4, none), (5, none), (6, none), (11, none)], [none, none, none, none, none], []⟩ .ret ⟨mkA [(2, VV.pt 0 0), (3, VV.pt 1 0), (4, VV.pt 2 0), (5, VV.pt 3 0), (6, VV.pt 4 0), (11, VV.fn 54 [VV.tp [vi r2512] 0])], [some ⟨true, 1, [VV.tr (flatMap Qc a0) a0.length]⟩, some ⟨true, 1, Qb a1⟩, some ⟨true, 1, [vi r2552.1]⟩, some ⟨true, 1, [vi r2552.2.1, vi r2552.2.2.1]⟩, some ⟨true, 1, [vi r2552.2.2.2]⟩], .nil⟩]) (fr := true) (by kernel_rfl) (an (an (ti (ti (ti (ti tt)))) (an (ti (ti tt)) (an (ti (ti (an e2514 tt))) e2554))) (an (ti tt) (an (ti (ti (ti tt))) tt))) (Wv.of_eq (Q2k r2552))
theorem Q2l (z0 : Int) : VV.tu [vi 0, VV.ag [vi 0, vi 0], vi z0] = VV.tu [vi 0, VV.ag (Qa0 (⟨0, 0⟩ : A39)), vi z0] := by first | rfl | (simp only [Qz, map_cons, map_nil, un_i, Zj]; done) | (simp only [Qz, map_cons, map_nil, un_i, Zj]; rfl) | (simp only [Qz, map_cons, map_nil, un_i, Zj, length_cons, length_nil, length_append]; done)
def Jq (k : Nat) (a0 : (List Ql)) (a1 : Qg) : Option (Int × A39 × Int) :=
 (Jp k a0 a1).bind fun r2558 => (if r2558 = 0 then ((Ja k a0 a1).bind fun r2562 => (some (r2562.1, r2562.2, 0))) else (some (0, (⟨0, 0⟩ : A39), r2558)))
theorem Qae (k : Nat) (a0 : (List Ql)) (a1 : Qg) (r : (Int × A39 × Int)) (h : Jq k a0 a1 = some r) : VC Try.prog 11 [VV.tr (flatMap Qc a0) a0.length, VV.ag (Qb a1)] (VV.tu [vi r.1, VV.ag (Qa0 r.2.1), vi r.2.2]) := by
 unfold Jq at h
 obtain ⟨r2558, h2559, h⟩ := bs h
 have e2560 := (Qeb k a0 a1 _ h2559)
 rcases ifs h with ⟨h2561, h⟩ | ⟨h2561, h⟩
 ·obtain ⟨r2562, h2563, h⟩ := bs h
  have e2564 := (ti (ti (an (Qfu k a0 a1 _ h2563) (ti (ti (ti (ti (ti (ti tt)))))))))
  injection h with h; subst h
  exact Qn pm pn Try.func11 (r0 := VV.tu [vi r2562.1, VV.ag (Qa0 r2562.2), vi 0]) (ans := [.reg (nN 4 []), .reg (.n :: .n :: .call (vi r2558) :: .n :: []), .reg (.n :: .n :: []), .br false, .reg (.n :: .n :: .call (VV.tu [vi r2562.1, VV.ag (Qa0 r2562.2)]) :: nN 6 []), .reg (nN 5 [])]) (fr := true) (by kernel_rfl) (an (an (ti (ti (ti (ti tt)))) (an (an (ti (ti (an e2560 (ti tt)))) (an (ti (ti tt)) (an (Qh (dt h2561)) tt))) (an e2564 (an (ti (ti (ti (ti (ti tt))))) tt)))) (ti (an (ti (ti (ti tt))) (ti tt)))) (Wv.refl _)
 ·injection h with h; subst h
  exact Qn pm pn Try.func11 (r0 := VV.tu [vi 0, VV.ag [vi 0, vi 0], vi r2558]) (ans := [.reg (nN 4 []), .reg (.n :: .n :: .call (vi r2558) :: .n :: []), .reg (.n :: .n :: []), .br true, .reg (nN 5 [])]) (fr := true) (by kernel_rfl) (an (an (ti (ti (ti (ti tt)))) (an (ti (ti (an e2560 (ti tt)))) (an (ti (ti tt)) (an (Q8 (df h2561)) (an (ti (ti (ti (ti (ti tt))))) tt))))) (ti (an (ti (ti (ti tt))) (ti tt)))) (Wv.of_eq (Q2l r2558))
def Yv (k : Nat) (a0 : (List Int)) : Option Int :=
 (X9 k (a0.length : Int) 1 40).bind fun r2573 => (if r2573 = true then ((Yo k a0).bind fun r2577 => (if r2577 = true then (some 0) else (some 2))) else (some 10))
theorem Qfl (k : Nat) (a0 : (List Int)) (r : Int) (h : Yv k a0 = some r) : VC Try.prog 27 [VV.tr (List.map vi a0) a0.length] (vi r) := by
 unfold Yv at h
 obtain ⟨r2573, h2574, h⟩ := bs h
 have e2575 := (Ws k (a0.length : Int) 1 40 _ h2574)
 rcases ifs h with ⟨h2576, h⟩ | ⟨h2576, h⟩
 ·obtain ⟨r2577, h2578, h⟩ := bs h
  have e2579 := (ti (an (Qdb k a0 _ h2578) (ti tt)))
  rcases ifs h with ⟨h2580, h⟩ | ⟨h2580, h⟩
  ·injection h with h; subst h
   exact Qn pm pn Try.func27 (r0 := vi 0) (ans := [.reg (.n :: []), .reg (.n :: .n :: .call (vb r2573) :: .n :: []), .br false, .reg (.n :: .call (vb r2577) :: .n :: []), .br false, .reg (.n :: [])]) (fr := true) (by kernel_rfl) (an (an (ti tt) (an (an (ti (ti (an e2575 (ti tt)))) (an (Qh h2576) tt)) (an (an e2579 (an (Qh h2580) tt)) (an (ti tt) tt)))) (ti tt)) (Wv.refl _)
  ·injection h with h; subst h
   exact Qn pm pn Try.func27 (r0 := vi 2) (ans := [.reg (.n :: []), .reg (.n :: .n :: .call (vb r2573) :: .n :: []), .br false, .reg (.n :: .call (vb r2577) :: .n :: []), .br true, .reg (.n :: [])]) (fr := true) (by kernel_rfl) (an (an (ti tt) (an (an (ti (ti (an e2575 (ti tt)))) (an (Qh h2576) tt)) (an e2579 (an (Q8 (Zl h2580)) (an (ti tt) tt))))) (ti tt)) (Wv.refl _)
 ·injection h with h; subst h
  exact Qn pm pn Try.func27 (r0 := vi 10) (ans := [.reg (.n :: []), .reg (.n :: .n :: .call (vb r2573) :: .n :: []), .br true, .reg (.n :: [])]) (fr := true) (by kernel_rfl) (an (an (ti tt) (an (ti (ti (an e2575 (ti tt)))) (an (Q8 (Zl h2576)) (an (ti tt) tt)))) (ti tt)) (Wv.refl _)
def Qsa (z0 : (List Int)) (z1 : Int × Int) (z2 : Int) (z3 : Int) : List Ans := (nN 3 (.v (vi (z0.getD z1.1.toNat 0)) :: nN 3 (.v (vi (z0.getD z1.2.toNat 0)) :: .n :: .call (vi z2) :: nN 3 (.call (vi z3) :: .n :: []))))
def Yr (k : Nat) (a0 : (List Int)) (a1 : Qg) (r2640 : Int) : List (Int × Int) -> Int -> Int -> Int -> Option (Sum (Int × Int × Int) (Int × Int × Int))
 | [], b2_0, b2_1, b3_0 => some (.inl (b2_0, b2_1, b3_0))
 | x :: xs, b2_0, b2_1, b3_0 => if 0 <= x.1 /\ x.1 < (a0.length : Int) then (if 0 <= x.2 /\ x.2 < (a0.length : Int) then ((Qb4 k (w64 ((a0.getD x.1.toNat 0) - (a0.getD x.2.toNat 0)))).bind fun r2669 => ((Qax k a1 x.1 x.2).bind fun r2672 => (if r2672 < r2669 then (some (.inr (x.1, x.2, 26))) else (Yr k a0 a1 r2640 xs b2_0 b2_1 b3_0)))) else none) else none
theorem Qhm (k : Nat) (a0 : (List Int)) (a1 : Qg) (r2640 : Int) : ∀ (xs : List (Int × Int)) (b2_0 : Int) (b2_1 : Int) (b3_0 : Int) (r : Sum (Int × Int × Int) (Int × Int × Int)), Yr k a0 a1 r2640 xs b2_0 b2_1 b3_0 = some r -> (match r with | .inl r => Qbu Try.prog (szF Try.f12) (.tmp 24) [25, 26] (Wl Try.f12 0) (Qfx Try.f12 0) (xs.map encP) ⟨mkA [(2, VV.pt 0 0), (3, VV.pt 1 0), (4, VV.pt 2 0), (5, VV.pt 3 0), (24, VV.fn 54 [VV.tp [vi r2640] 0])], [some ⟨true, 1, [VV.tr (List.map vi a0) a0.length]⟩, some ⟨true, 1, Qb a1⟩, some ⟨true, 1, [vi b2_0, vi b2_1]⟩, some ⟨true, 1, [vi b3_0]⟩], .nil⟩ .normal ⟨mkA [(2, VV.pt 0 0), (3, VV.pt 1 0), (4, VV.pt 2 0), (5, VV.pt 3 0), (24, VV.fn 54 [VV.tp [vi r2640] 0])], [some ⟨true, 1, [VV.tr (List.map vi a0) a0.length]⟩, some ⟨true, 1, Qb a1⟩, some ⟨true, 1, [vi r.1, vi r.2.1]⟩, some ⟨true, 1, [vi r.2.2]⟩], .nil⟩ | .inr r => Qbu Try.prog (szF Try.f12) (.tmp 24) [25, 26] (Wl Try.f12 0) (Qfx Try.f12 0) (xs.map encP) ⟨mkA [(2, VV.pt 0 0), (3, VV.pt 1 0), (4, VV.pt 2 0), (5, VV.pt 3 0), (24, VV.fn 54 [VV.tp [vi r2640] 0])], [some ⟨true, 1, [VV.tr (List.map vi a0) a0.length]⟩, some ⟨true, 1, Qb a1⟩, some ⟨true, 1, [vi b2_0, vi b2_1]⟩, some ⟨true, 1, [vi b3_0]⟩], .nil⟩ .ret ⟨mkA [(2, VV.pt 0 0), (3, VV.pt 1 0), (4, VV.pt 2 0), (5, VV.pt 3 0), (24, VV.fn 54 [VV.tp [vi r2640] 0])], [some ⟨true, 1, [VV.tr (List.map vi a0) a0.length]⟩, some ⟨true, 1, Qb a1⟩, some ⟨true, 1, [vi r.1, vi r.2.1]⟩, some ⟨true, 1, [vi r.2.2]⟩], .nil⟩) := by
 intro xs
 induction xs with
 | nil => intro b2_0 b2_1 b3_0 r h; rw [Yr.eq_1] at h; injection h with h; subst h; exact .nil
 | cons x xs ih =>
  intro b2_0 b2_1 b3_0 r h
  rw [Yr.eq_2] at h
  obtain ⟨h2665, h⟩ := ifn h
  have e2666 := (show Xx Try.prog 3 (x.1.toNat * 1) (List.map vi a0) = some (vi (a0.getD x.1.toNat 0)) from Qah ag3 vi a0 0 h2665 (by omega))
  obtain ⟨h2667, h⟩ := ifn h
  have e2668 := (show Xx Try.prog 3 (x.2.toNat * 1) (List.map vi a0) = some (vi (a0.getD x.2.toNat 0)) from Qah ag3 vi a0 0 h2667 (by omega))
  obtain ⟨r2669, h2670, h⟩ := bs h
  have e2671 := (Qgn k (w64 ((a0.getD x.1.toNat 0) - (a0.getD x.2.toNat 0))) _ h2670)
  obtain ⟨r2672, h2673, h⟩ := bs h
  have e2674 := (ti (ti (an h2665 (an e2666 (ti (ti (an h2667 (an e2668 (ti (an e2671 (ti (ti (ti (an (Qdg k a1 x.1 x.2 _ h2673) (ti tt)))))))))))))))
  rcases ifs h with ⟨h2675, h⟩ | ⟨h2675, h⟩
  ·injection h with h; subst h
   have hr := Qok (P := Try.prog) (sz := szF Try.f12) (assign := Wl Try.f12 0) (body := Qfx Try.f12 0) (s := (⟨mkA [(2, VV.pt 0 0), (3, VV.pt 1 0), (4, VV.pt 2 0), (5, VV.pt 3 0), (24, VV.fn 54 [VV.tp [vi r2640] 0])], [some ⟨true, 1, [VV.tr (List.map vi a0) a0.length]⟩, some ⟨true, 1, Qb a1⟩, some ⟨true, 1, [vi b2_0, vi b2_1]⟩, some ⟨true, 1, [vi b3_0]⟩], .nil⟩ : VS)) (ps := [25, 26]) (x := (encP x)) (sa := (stOf Try.prog (szF Try.f12) (Wl Try.f12 0) [.reg (.n :: []), .reg (.n :: [])] (VS.enter (⟨mkA [(2, VV.pt 0 0), (3, VV.pt 1 0), (4, VV.pt 2 0), (5, VV.pt 3 0), (24, VV.fn 54 [VV.tp [vi r2640] 0])], [some ⟨true, 1, [VV.tr (List.map vi a0) a0.length]⟩, some ⟨true, 1, Qb a1⟩, some ⟨true, 1, [vi b2_0, vi b2_1]⟩, some ⟨true, 1, [vi b3_0]⟩], .nil⟩ : VS) [25, 26] (encP x)))) (s1 := stOf Try.prog (szF Try.f12) (Qfx Try.f12 0) [.reg (Qsa a0 x r2669 r2672), .br true, .reg (nN 5 [])] (stOf Try.prog (szF Try.f12) (Wl Try.f12 0) [.reg (.n :: []), .reg (.n :: [])] (VS.enter (⟨mkA [(2, VV.pt 0 0), (3, VV.pt 1 0), (4, VV.pt 2 0), (5, VV.pt 3 0), (24, VV.fn 54 [VV.tp [vi r2640] 0])], [some ⟨true, 1, [VV.tr (List.map vi a0) a0.length]⟩, some ⟨true, 1, Qb a1⟩, some ⟨true, 1, [vi b2_0, vi b2_1]⟩, some ⟨true, 1, [vi b3_0]⟩], .nil⟩ : VS) [25, 26] (encP x)))) (s2 := ⟨.nil, [some ⟨true, 1, [VV.tr (List.map vi a0) a0.length]⟩, some ⟨true, 1, Qb a1⟩, some ⟨true, 1, [vi x.1, vi x.2]⟩, some ⟨true, 1, [vi 26]⟩], (mkA [(2, VV.pt 0 0), (3, VV.pt 1 0), (4, VV.pt 2 0), (5, VV.pt 3 0), (24, VV.fn 54 [VV.tp [vi r2640] 0])])⟩) (a1 := [.reg (.n :: []), .reg (.n :: [])]) (a2 := [.reg (Qsa a0 x r2669 r2672), .br true, .reg (nN 5 [])]) (c := ⟨[], [none, none, none, none], []⟩) (e := .ret) (q1 := (((True) /\ True) /\ ((True) /\ True))) (q2 := fun l => (((True) /\ (True) /\ (0 <= x.1 /\ x.1 < ((a0.length : Nat) : Int)) /\ (Xx Try.prog 3 (x.1.toNat * 1) (List.map vi a0) = some (vi (a0.getD x.1.toNat 0))) /\ (True) /\ (True) /\ (0 <= x.2 /\ x.2 < ((a0.length : Nat) : Int)) /\ (Xx Try.prog 3 (x.2.toNat * 1) (List.map vi a0) = some (vi (a0.getD x.2.toNat 0))) /\ (True) /\ (VC Try.prog 30 [vi (w64 ((a0.getD x.1.toNat 0) - (a0.getD x.2.toNat 0)))] (vi r2669)) /\ (True) /\ (True) /\ (True) /\ (VC Try.prog 31 [VV.ag (Qb a1), vi x.1, vi x.2] (vi r2672)) /\ (True) /\ True) /\ (((decide (r2672 < r2669)) = true) /\ (((True) /\ (True) /\ (True) /\ (True) /\ (True) /\ True) /\ (True))))) (p := ((True) /\ ((True)))) pm pn (fun l => by kernel_rfl) (an (ti tt) (ti tt)) (fun l => by kernel_rfl) (fun l => (an e2674 (an (dt h2675) (an (ti (ti (ti (ti (ti tt))))) tt)))) (by kernel_rfl) ⟨tt, tt⟩
   exact Qbu.ret (by kernel_rfl) rfl hr.1 hr.2
  ·have h2 := ih _ _ _ _ h
   have hr := Qok (P := Try.prog) (sz := szF Try.f12) (assign := Wl Try.f12 0) (body := Qfx Try.f12 0) (s := (⟨mkA [(2, VV.pt 0 0), (3, VV.pt 1 0), (4, VV.pt 2 0), (5, VV.pt 3 0), (24, VV.fn 54 [VV.tp [vi r2640] 0])], [some ⟨true, 1, [VV.tr (List.map vi a0) a0.length]⟩, some ⟨true, 1, Qb a1⟩, some ⟨true, 1, [vi b2_0, vi b2_1]⟩, some ⟨true, 1, [vi b3_0]⟩], .nil⟩ : VS)) (ps := [25, 26]) (x := (encP x)) (sa := (stOf Try.prog (szF Try.f12) (Wl Try.f12 0) [.reg (.n :: []), .reg (.n :: [])] (VS.enter (⟨mkA [(2, VV.pt 0 0), (3, VV.pt 1 0), (4, VV.pt 2 0), (5, VV.pt 3 0), (24, VV.fn 54 [VV.tp [vi r2640] 0])], [some ⟨true, 1, [VV.tr (List.map vi a0) a0.length]⟩, some ⟨true, 1, Qb a1⟩, some ⟨true, 1, [vi b2_0, vi b2_1]⟩, some ⟨true, 1, [vi b3_0]⟩], .nil⟩ : VS) [25, 26] (encP x)))) (s1 := stOf Try.prog (szF Try.f12) (Qfx Try.f12 0) [.reg (Qsa a0 x r2669 r2672), .br false] (stOf Try.prog (szF Try.f12) (Wl Try.f12 0) [.reg (.n :: []), .reg (.n :: [])] (VS.enter (⟨mkA [(2, VV.pt 0 0), (3, VV.pt 1 0), (4, VV.pt 2 0), (5, VV.pt 3 0), (24, VV.fn 54 [VV.tp [vi r2640] 0])], [some ⟨true, 1, [VV.tr (List.map vi a0) a0.length]⟩, some ⟨true, 1, Qb a1⟩, some ⟨true, 1, [vi b2_0, vi b2_1]⟩, some ⟨true, 1, [vi b3_0]⟩], .nil⟩ : VS) [25, 26] (encP x)))) (s2 := ⟨.nil, [some ⟨true, 1, [VV.tr (List.map vi a0) a0.length]⟩, some ⟨true, 1, Qb a1⟩, some ⟨true, 1, [vi b2_0, vi b2_1]⟩, some ⟨true, 1, [vi b3_0]⟩], (mkA [(2, VV.pt 0 0), (3, VV.pt 1 0), (4, VV.pt 2 0), (5, VV.pt 3 0), (24, VV.fn 54 [VV.tp [vi r2640] 0])])⟩) (a1 := [.reg (.n :: []), .reg (.n :: [])]) (a2 := [.reg (Qsa a0 x r2669 r2672), .br false]) (c := ⟨[], [none, none, none, none], []⟩) (e := .normal) (q1 := (((True) /\ True) /\ ((True) /\ True))) (q2 := fun l => (((True) /\ (True) /\ (0 <= x.1 /\ x.1 < ((a0.length : Nat) : Int)) /\ (Xx Try.prog 3 (x.1.toNat * 1) (List.map vi a0) = some (vi (a0.getD x.1.toNat 0))) /\ (True) /\ (True) /\ (0 <= x.2 /\ x.2 < ((a0.length : Nat) : Int)) /\ (Xx Try.prog 3 (x.2.toNat * 1) (List.map vi a0) = some (vi (a0.getD x.2.toNat 0))) /\ (True) /\ (VC Try.prog 30 [vi (w64 ((a0.getD x.1.toNat 0) - (a0.getD x.2.toNat 0)))] (vi r2669)) /\ (True) /\ (True) /\ (True) /\ (VC Try.prog 31 [VV.ag (Qb a1), vi x.1, vi x.2] (vi r2672)) /\ (True) /\ True) /\ (((decide (r2672 < r2669)) = false) /\ (True)))) (p := ((True) /\ ((True)))) pm pn (fun l => by kernel_rfl) (an (ti tt) (ti tt)) (fun l => by kernel_rfl) (fun l => (an e2674 (an (df h2675) tt))) (by kernel_rfl) ⟨tt, tt⟩
   cases r with
   | inl r =>
    exact Qbu.next (by kernel_rfl) rfl hr.1 hr.2 (by kernel_rfl) h2
   | inr r =>
    exact Qbu.next (by kernel_rfl) rfl hr.1 hr.2 (by kernel_rfl) h2
theorem Q2m  : VV.tu [VV.ag [vi 0, vi 0], vi 0] = VV.tu [VV.ag (Qa0 (⟨0, 0⟩ : A39)), vi 0] := by first | rfl | (simp only [Qz, map_cons, map_nil, un_i, Zj]; done) | (simp only [Qz, map_cons, map_nil, un_i, Zj]; rfl) | (simp only [Qz, map_cons, map_nil, un_i, Zj, length_cons, length_nil, length_append]; done)
theorem Q2n (z0 : Int × Int × Int) : VV.tu [VV.ag [vi z0.1, vi z0.2.1], vi z0.2.2] = VV.tu [VV.ag (Qa0 (⟨z0.1, z0.2.1⟩ : A39)), vi z0.2.2] := by first | rfl | (simp only [Qz, map_cons, map_nil, un_i, Zj]; done) | (simp only [Qz, map_cons, map_nil, un_i, Zj]; rfl) | (simp only [Qz, map_cons, map_nil, un_i, Zj, length_cons, length_nil, length_append]; done)
theorem Qyq (z0 : Int) : VV.tu [VV.ag [vi 0, vi 0], vi z0] = VV.tu [VV.ag (Qa0 (⟨0, 0⟩ : A39)), vi z0] := by first | rfl | (simp only [Qz, map_cons, map_nil, un_i, Zj]; done) | (simp only [Qz, map_cons, map_nil, un_i, Zj]; rfl) | (simp only [Qz, map_cons, map_nil, un_i, Zj, length_cons, length_nil, length_append]; done)
def Qb9 (k : Nat) (a0 : (List Int)) (a1 : Qg) : Option (A39 × Int) :=
 (Yv k a0).bind fun r2632 => (if r2632 = 0 then ((X5 k a1).bind fun r2636 => (if r2636 = 0 then ((Qbk k (a0.length : Int)).bind fun r2640 => (if r2640 <= 1000000000 then ((Yr k a0 a1 r2640 (Qf5 r2640) 0 0 0).bind fun r2678 => (match r2678 with | .inl r2679 => (some ((⟨0, 0⟩ : A39), 0)) | .inr r2680 => (some ((⟨r2680.1, r2680.2.1⟩ : A39), r2680.2.2)))) else none)) else (some ((⟨0, 0⟩ : A39), r2636)))) else (some ((⟨0, 0⟩ : A39), r2632)))
theorem Qjm (k : Nat) (a0 : (List Int)) (a1 : Qg) (r : (A39 × Int)) (h : Qb9 k a0 a1 = some r) : VC Try.prog 12 [VV.tr (List.map vi a0) a0.length, VV.ag (Qb a1)] (VV.tu [VV.ag (Qa0 r.1), vi r.2]) := by
 unfold Qb9 at h
 obtain ⟨r2632, h2633, h⟩ := bs h
 have e2634 := (ti (an (Qfl k a0 _ h2633) (ti tt)))
 rcases ifs h with ⟨h2635, h⟩ | ⟨h2635, h⟩
 ·obtain ⟨r2636, h2637, h⟩ := bs h
  have e2638 := (Qbw k a1 _ h2637)
  rcases ifs h with ⟨h2639, h⟩ | ⟨h2639, h⟩
  ·obtain ⟨r2640, h2641, h⟩ := bs h
   have e2642 := (Qft k (a0.length : Int) _ h2641)
   obtain ⟨h2676, h⟩ := ifn h
   obtain ⟨r2678, h2677, h⟩ := bs h
   have hph2677 := Qhm k a0 a1 r2640 _ _ _ _ _ h2677
   cases r2678 with
   | inl r2679 =>
    dsimp only at h
    have e2681 : ((((True)) /\ ((True))) /\ VRun none Try.prog (szF Try.f12) (.rangeFunc (.tmp 24) #[25, 26] (Wl Try.f12 0) (Qfx Try.f12 0)) ⟨mkA [(2, VV.pt 0 0), (3, VV.pt 1 0), (4, VV.pt 2 0), (5, VV.pt 3 0), (24, VV.fn 54 [VV.tp [vi r2640] 0])], [some ⟨true, 1, [VV.tr (List.map vi a0) a0.length]⟩, some ⟨true, 1, Qb a1⟩, some ⟨true, 1, [vi 0, vi 0]⟩, some ⟨true, 1, [vi 0]⟩], .nil⟩ .normal ⟨mkA [(2, VV.pt 0 0), (3, VV.pt 1 0), (4, VV.pt 2 0), (5, VV.pt 3 0), (24, VV.fn 54 [VV.tp [vi r2640] 0])], [some ⟨true, 1, [VV.tr (List.map vi a0) a0.length]⟩, some ⟨true, 1, Qb a1⟩, some ⟨true, 1, [vi r2679.1, vi r2679.2.1]⟩, some ⟨true, 1, [vi r2679.2.2]⟩], .nil⟩) := ⟨⟨tt, tt⟩, VRun.range pn rfl (by kernel_rfl) (Qjt h2676) (by kernel_rfl) (of_decide_eq_true (by kernel_rfl)) (by decide) hph2677⟩
    injection h with h; subst h
    exact Qn pm pn Try.func12 (r0 := VV.tu [VV.ag [vi 0, vi 0], vi 0]) (ans := [.reg (nN 4 []), .reg (.n :: .call (vi r2632) :: .n :: []), .reg (.n :: .n :: []), .br false, .reg (.n :: .call (vi r2636) :: .n :: []), .reg (.n :: .n :: []), .br false, .reg (.n :: .n :: .call (VV.fn 54 [VV.tp [vi r2640] 0]) :: []), .sub ⟨[(2, none), (3, none), (4, none), (5, none), (24, none)], [none, none, none, none], []⟩ .normal ⟨mkA [(2, VV.pt 0 0), (3, VV.pt 1 0), (4, VV.pt 2 0), (5, VV.pt 3 0), (24, VV.fn 54 [VV.tp [vi r2640] 0])], [some ⟨true, 1, [VV.tr (List.map vi a0) a0.length]⟩, some ⟨true, 1, Qb a1⟩, some ⟨true, 1, [vi r2679.1, vi r2679.2.1]⟩, some ⟨true, 1, [vi r2679.2.2]⟩], .nil⟩, .reg (nN 3 [])]) (fr := true) (by kernel_rfl) (an (an (ti (ti (ti (ti tt)))) (an (an e2634 (an (ti (ti tt)) (an (Qh (dt h2635)) tt))) (an (an (ti (an e2638 (ti tt))) (an (ti (ti tt)) (an (Qh (dt h2639)) tt))) (an (an (ti (ti (an e2642 tt))) e2681) (an (ti (ti (ti tt))) tt))))) (an (ti (ti (ti tt))) (an (ti tt) tt))) (Wv.of_eq Q2m)
   | inr r2680 =>
    dsimp only at h
    have e2682 : ((((True)) /\ ((True))) /\ VRun none Try.prog (szF Try.f12) (.rangeFunc (.tmp 24) #[25, 26] (Wl Try.f12 0) (Qfx Try.f12 0)) ⟨mkA [(2, VV.pt 0 0), (3, VV.pt 1 0), (4, VV.pt 2 0), (5, VV.pt 3 0), (24, VV.fn 54 [VV.tp [vi r2640] 0])], [some ⟨true, 1, [VV.tr (List.map vi a0) a0.length]⟩, some ⟨true, 1, Qb a1⟩, some ⟨true, 1, [vi 0, vi 0]⟩, some ⟨true, 1, [vi 0]⟩], .nil⟩ .ret ⟨mkA [(2, VV.pt 0 0), (3, VV.pt 1 0), (4, VV.pt 2 0), (5, VV.pt 3 0), (24, VV.fn 54 [VV.tp [vi r2640] 0])], [some ⟨true, 1, [VV.tr (List.map vi a0) a0.length]⟩, some ⟨true, 1, Qb a1⟩, some ⟨true, 1, [vi r2680.1, vi r2680.2.1]⟩, some ⟨true, 1, [vi r2680.2.2]⟩], .nil⟩) := ⟨⟨tt, tt⟩, VRun.range pn rfl (by kernel_rfl) (Qjt h2676) (by kernel_rfl) (of_decide_eq_true (by kernel_rfl)) (by decide) hph2677⟩
    injection h with h; subst h
    exact Qn pm pn Try.func12 (r0 := VV.tu [VV.ag [vi r2680.1, vi r2680.2.1], vi r2680.2.2]) (ans := [.reg (nN 4 []), .reg (.n :: .call (vi r2632) :: .n :: []), .reg (.n :: .n :: []), .br false, .reg (.n :: .call (vi r2636) :: .n :: []), .reg (.n :: .n :: []), .br false, .reg (.n :: .n :: .call (VV.fn 54 [VV.tp [vi r2640] 0]) :: []), .sub ⟨[(2, none), (3, none), (4, none), (5, none), (24, none)], [none, none, none, none], []⟩ .ret ⟨mkA [(2, VV.pt 0 0), (3, VV.pt 1 0), (4, VV.pt 2 0), (5, VV.pt 3 0), (24, VV.fn 54 [VV.tp [vi r2640] 0])], [some ⟨true, 1, [VV.tr (List.map vi a0) a0.length]⟩, some ⟨true, 1, Qb a1⟩, some ⟨true, 1, [vi r2680.1, vi r2680.2.1]⟩, some ⟨true, 1, [vi r2680.2.2]⟩], .nil⟩]) (fr := true) (by kernel_rfl) (an (an (ti (ti (ti (ti tt)))) (an (an e2634 (an (ti (ti tt)) (an (Qh (dt h2635)) tt))) (an (an (ti (an e2638 (ti tt))) (an (ti (ti tt)) (an (Qh (dt h2639)) tt))) (an (ti (ti (an e2642 tt))) e2682)))) (an (ti (ti (ti tt))) (an (ti tt) tt))) (Wv.of_eq (Q2n r2680))
  ·injection h with h; subst h
   exact Qn pm pn Try.func12 (r0 := VV.tu [VV.ag [vi 0, vi 0], vi r2636]) (ans := [.reg (nN 4 []), .reg (.n :: .call (vi r2632) :: .n :: []), .reg (.n :: .n :: []), .br false, .reg (.n :: .call (vi r2636) :: .n :: []), .reg (.n :: .n :: []), .br true, .reg (nN 4 [])]) (fr := true) (by kernel_rfl) (an (an (ti (ti (ti (ti tt)))) (an (an e2634 (an (ti (ti tt)) (an (Qh (dt h2635)) tt))) (an (ti (an e2638 (ti tt))) (an (ti (ti tt)) (an (Q8 (df h2639)) (an (ti (ti (ti (ti tt)))) tt)))))) (an (ti (ti (ti tt))) (an (ti tt) tt))) (Wv.of_eq (Qyq r2636))
 ·injection h with h; subst h
  exact Qn pm pn Try.func12 (r0 := VV.tu [VV.ag [vi 0, vi 0], vi r2632]) (ans := [.reg (nN 4 []), .reg (.n :: .call (vi r2632) :: .n :: []), .reg (.n :: .n :: []), .br true, .reg (nN 4 [])]) (fr := true) (by kernel_rfl) (an (an (ti (ti (ti (ti tt)))) (an e2634 (an (ti (ti tt)) (an (Q8 (df h2635)) (an (ti (ti (ti (ti tt)))) tt))))) (an (ti (ti (ti tt))) (an (ti tt) tt))) (Wv.of_eq (Qyq r2632))
def Qba (k : Nat) (a0 : Ql) : Option Bool :=
 some (decide (200 < (w64 (a0.Hi - a0.Lo))))
theorem Qgo (k : Nat) (a0 : Ql) (r : Bool) (h : Qba k a0 = some r) : VC Try.prog 33 [VV.ag (Qc a0)] (vb r) := by
 unfold Qba at h
 injection h with h; subst h
 exact Qn pm pn Try.func33 (r0 := vb (decide (200 < (w64 (a0.Hi - a0.Lo))))) (ans := [.reg (.n :: .n :: []), .reg (nN 7 [])]) (fr := true) (by kernel_rfl) (an (an (ti (ti tt)) (an (ti (ti (ti (ti (ti (ti (ti tt))))))) tt)) (ti tt)) (Wv.refl _)
def Qw (a0 : (List Ql)) (x8 : Int) : VS := ⟨mkA [(0, VV.tr (flatMap Qc a0) a0.length), (1, VV.fn 33 []), (7, vi (a0.length : Int)), (8, vi x8)], [], .nil⟩
def Zg (a0 : (List Ql)) (r : Int) : VS := ⟨mkA [(4, vi r)], [], .nil⟩
def Zh (a0 : (List Ql)) (r : Unit) : VS := ⟨mkA [], [], .nil⟩
def Qj (k : Nat) (a0 : (List Ql)) : Nat -> Int -> Option (Sum Int Unit)
 | 0, _ => none
 | fuel + 1, x8 => if x8 < (a0.length : Int) then (if 0 <= x8 /\ x8 < (a0.length : Int) then ((Qba k (a0.getD x8.toNat default)).bind fun r2737 => (if r2737 = true then (some (.inl x8)) else (Qj k a0 fuel (w64 (x8 + 1))))) else none) else (some (.inr ()))
theorem Jf (k : Nat) (a0 : (List Ql)) : ∀ (fuel : Nat) (x8 : Int) (r : Sum Int Unit), Qj k a0 fuel x8 = some r -> (match r with | .inl r => Yt none Try.prog (szF Try.f55) (Jh Try.f55 0) (Qw a0 x8) .ret (Zg a0 r) | .inr r => Yt none Try.prog (szF Try.f55) (Jh Try.f55 0) (Qw a0 x8) (.exit 0) (Zh a0 r)) := by
 intro fuel
 induction fuel with
 | zero => intro x8 r h; rw [Qj.eq_1] at h; cases h
 | succ fuel ih =>
  intro x8 r h
  rw [Qj.eq_2] at h
  rcases ifs h with ⟨h2734, h⟩ | ⟨h2734, h⟩
  ·obtain ⟨h2735, h⟩ := ifn h
   have e2736 := (show Xx Try.prog 49 (x8.toNat * 2) (flatMap Qc a0) = some (VV.ag (Qc (a0.getD x8.toNat default))) from Qdo ag49 Qc 2 sz49 Qo a0 default h2735 (by omega))
   obtain ⟨r2737, h2738, h⟩ := bs h
   have e2739 := (Qgo k (a0.getD x8.toNat default) _ h2738)
   have e2740 := (ti (ti (ti (an h2735 (an e2736 (an e2739 tt))))))
   rcases ifs h with ⟨h2741, h⟩ | ⟨h2741, h⟩
   ·injection h with h; subst h
    exact Q5 (c := ⟨[(4, none)], [], []⟩) (s1 := (Zg a0 x8)) pm pn (ans := [.reg (.n :: []), .br true, .reg (.n :: .n :: []), .reg (nN 4 (.v (VV.ag (Qc (a0.getD x8.toNat default))) :: .call (vb r2737) :: [])), .br true, .reg (.n :: .n :: [])]) (by kernel_rfl) (by intro e; cases e) (an (an (ti tt) (an (an (dt h2734) tt) (an (ti (ti tt)) (an e2740 (an h2741 (an (ti (ti tt)) tt)))))) (ti tt))
   ·have h2 := ih _ _ h
    obtain ⟨q, hv, hq⟩ := pkR (rd := none) (P := Try.prog) (fn := Try.f55) (k := 0) (s := (Qw a0 x8)) (ans := [.reg (.n :: []), .br true, .reg (.n :: .n :: []), .reg (nN 4 (.v (VV.ag (Qc (a0.getD x8.toNat default))) :: .call (vb r2737) :: [])), .br false, .reg (.n :: .n :: [])]) (c := ⟨[(0, none), (1, none), (7, none), (8, none)], [], []⟩) (e := .normal) (s1 := (Qw a0 (w64 (x8 + 1)))) (an (an (ti tt) (an (an (dt h2734) tt) (an (an (ti (ti tt)) (an e2740 (an (Zl h2741) tt))) (ti (ti tt))))) (ti tt)) (by kernel_rfl)
    cases r with
    | inl r => exact Zd pm pn hv hq h2
    | inr r =>
     exact Zd pm pn hv hq h2
  ·injection h with h; subst h
   exact Q5 (c := ⟨[], [], []⟩) (s1 := (Zh a0 ())) pm pn (ans := [.reg (.n :: []), .br false]) (by kernel_rfl) (by intro e; cases e) (an (an (ti tt) (an (df h2734) tt)) (ti tt))
def Zc (k : Nat) (a0 : (List Ql)) (a1 : Unit) : Option Int :=
 (Qj k a0 k 0).bind fun r2743 => (match r2743 with | .inl r2744 => (some r2744) | .inr r2745 => (some (-1)))
theorem J3 (k : Nat) (a0 : (List Ql)) (a1 : Unit) (r : Int) (h : Zc k a0 a1 = some r) : VC Try.prog 55 [VV.tr (flatMap Qc a0) a0.length, VV.fn 33 []] (vi r) := by
 unfold Zc at h
 obtain ⟨r2743, h2742, h⟩ := bs h
 have hph2742 := Jf k a0 _ _ _ h2742
 cases r2743 with
 | inl r2744 =>
  dsimp only at h
  have e2746 := (an (ti tt) (VRun.loop hph2742))
  injection h with h; subst h
  exact Qn pm pn Try.func55 (r0 := vi r2744) (ans := [.reg (.n :: []), .reg (nN 3 []), .sub ⟨[(0, none), (1, none), (7, none), (8, none)], [], []⟩ .ret (Zg a0 r2744)]) (fr := true) (by kernel_rfl) (an (an (ti tt) (an (ti (ti (ti tt))) e2746)) (ti tt)) (Wv.refl _)
 | inr r2745 =>
  dsimp only at h
  have e2747 := (an (ti tt) (VRun.loop hph2742))
  injection h with h; subst h
  exact Qn pm pn Try.func55 (r0 := vi (-1)) (ans := [.reg (.n :: []), .reg (nN 3 []), .sub ⟨[(0, none), (1, none), (7, none), (8, none)], [], []⟩ (.exit 0) (Zh a0 r2745), .reg (.n :: [])]) (fr := true) (by kernel_rfl) (an (an (ti tt) (an (an (ti (ti (ti tt))) e2747) (an (ti tt) tt))) (ti tt)) (Wv.refl _)
def Qr (k : Nat) (a0 : (List Ql)) (a1 : Unit) : Option Bool :=
 (Zc k a0 a1).bind fun r2751 => (some (decide (0 <= r2751)))
theorem Jm (k : Nat) (a0 : (List Ql)) (a1 : Unit) (r : Bool) (h : Qr k a0 a1 = some r) : VC Try.prog 32 [VV.tr (flatMap Qc a0) a0.length, VV.fn 33 []] (vb r) := by
 unfold Qr at h
 obtain ⟨r2751, h2752, h⟩ := bs h
 have e2753 := (J3 k a0 a1 _ h2752)
 injection h with h; subst h
 exact Qn pm pn Try.func32 (r0 := vb (decide (0 <= r2751))) (ans := [.reg (.n :: []), .reg (.n :: .n :: .call (vi r2751) :: .n :: .n :: [])]) (fr := true) (by kernel_rfl) (an (an (ti tt) (an (ti (ti (an e2753 (ti (ti tt))))) tt)) (ti tt)) (Wv.refl _)
def Xc (k : Nat) (a0 : (List Ql)) : Option (List Ql) :=
 if ([] : List Ql).length + a0.length <= 1000000000 then (some (([] : List Ql) ++ a0)) else none
theorem Qbp (k : Nat) (a0 : (List Ql)) (r : (List Ql)) (h : Xc k a0 = some r) : VC Try.prog 56 [VV.tr (flatMap Qc a0) a0.length] (VV.fw 2 (flatMap Qc r) r.length) := by
 unfold Xc at h
 rcases Nat.eq_zero_or_pos a0.length with hz0 | h2762
 ·obtain rfl := List.length_eq_zero_iff.1 hz0
  obtain ⟨hz1, h⟩ := ifn h
  injection h with h; subst h
  exact (show VC Try.prog 56 [VV.tr [] 0] (VV.fw 2 [] 0) from VC.Q1u (pre := []) (post := []) (Qn pm pn Try.func56 (r0 := VV.c (.slice none 0 0)) (ans := [.reg (.n :: []), .reg (.n :: .n :: []), .br true, .reg (.n :: [])]) (fr := true) (by kernel_rfl) (an (an (ti tt) (an (ti (ti tt)) (an rt (an (ti tt) tt)))) (ti tt)) Wv.Qpu) (Qn pm pn Try.func56 (r0 := VV.fw 2 (List.drop 0 (List.map unfr ([] ++ []))) (0 + 0)) (ans := [.reg (.n :: []), .reg (.n :: .n :: []), .br false, .reg (nN 4 [])]) (fr := true) (by kernel_rfl) (an (an (ti tt) (an (an (ti (ti tt)) (an rf tt)) (an (ti (ti (an (show List.length ([] : List VV) = 0 * 2 /\ List.length ([] : List VV) = 0 * 2 /\ (0 + 0) * 16 <= 140737488355328 /\ 0 + 0 < 1099511627776 /\ List.all ([] : List VV) VV.still = true from by decide) (ti tt)))) tt))) (an (show List.all (([] : List VV) ++ []) new0 = true from rfl) tt)) (Wv.refl _)))
 ·obtain ⟨h2763, h⟩ := ifn h
  have e2764 := (show List.length [] = 0 * 2 /\ List.length (flatMap Qc a0) = a0.length * 2 /\ (0 + a0.length) * 16 <= 140737488355328 /\ 0 + a0.length < 1099511627776 /\ List.all (flatMap Qc a0) VV.still = true from ⟨(by rw [show [] = flatMap Qc ([] : List Ql) from rfl]; rw [Qa2 Qo] <;> simp), (by rw [Qa2 Qo] <;> simp), (by first | omega | (simp at h2763 ⊢; omega)), (by first | omega | (simp at h2763 ⊢; omega)), (by exact Qha _)⟩)
  injection h with h; subst h
  exact Qn pm pn Try.func56 (r0 := VV.fw 2 (List.drop 0 (List.map unfr ([] ++ (flatMap Qc a0)))) (0 + a0.length)) (ans := [.reg (.n :: []), .reg (.n :: .n :: []), .br false, .reg (nN 4 [])]) (fr := true) (by kernel_rfl) (an (an (ti tt) (an (an (ti (an h2762 tt)) (an rf tt)) (an (ti (ti (an e2764 (ti tt)))) tt))) (an (show List.all ([] ++ (flatMap Qc a0)) new0 = true from (by rw [show [] ++ (flatMap Qc a0) = flatMap Qc (([] : List Ql) ++ a0) from (by rw [show [] = flatMap Qc ([] : List Ql) from rfl]; exact List.flatMap_append.symm)]; exact Qfj _)) tt)) (Wv.of_eq (by simp only [show [] ++ (flatMap Qc a0) = flatMap Qc (([] : List Ql) ++ a0) from (by rw [show [] = flatMap Qc ([] : List Ql) from rfl]; exact List.flatMap_append.symm), Qa7, Qz, J6, Qaz, map_cons, map_nil, un_i, un_k, un_b, un_s, Qb2, Qff, length_map, length_replicate, length_append, List.length_set, length_cons, length_nil, Qm, Q9, Zr, Xm, Xn, Zp, Zq, Zj, Qp]))
def Wy (a0 : (List Ql)) (a1 : Qg) (a2 : Int) (y1 : List Ql) (x8 : Int) : VS := ⟨mkA [(0, VV.tr (flatMap Qc a0) a0.length), (2, vi a2), (4, VV.pt 0 0), (7, VV.rf 1 0 y1.length), (8, vi x8)], [some ⟨true, 1, Qb a1⟩, some ⟨false, 2, flatMap Qc y1⟩], .nil⟩
def Qa4 (a0 : (List Ql)) (a1 : Qg) (a2 : Int) (r : Unit) : VS := ⟨mkA [(6, vb false)], [], .nil⟩
def Qa5 (a0 : (List Ql)) (a1 : Qg) (a2 : Int) (r : Unit) : VS := ⟨mkA [], [], .nil⟩
def Xr (k : Nat) (a0 : (List Ql)) (a1 : Qg) (a2 : Int) : Nat -> (List Ql) -> Int -> Option (Sum Unit Unit)
 | 0, _, _ => none
 | fuel + 1, y1, x8 => if 0 <= a2 /\ a2 < (a0.length : Int) then (if x8 <= ((a0.getD a2.toNat default).Hi) then (if 0 <= a2 /\ a2 < (y1.length : Int) then ((Ja k (y1.set a2.toNat (⟨x8, x8⟩ : Ql)) a1).bind fun r2848 => (if r2848.1 = 0 then (some (.inl ())) else (Xr k a0 a1 a2 fuel (y1.set a2.toNat (⟨x8, x8⟩ : Ql)) (w64 (x8 + 1))))) else none) else (some (.inr ()))) else none
theorem Qfm (k : Nat) (a0 : (List Ql)) (a1 : Qg) (a2 : Int) : ∀ (fuel : Nat) (y1 : List Ql) (x8 : Int) (r : Sum Unit Unit), Xr k a0 a1 a2 fuel y1 x8 = some r -> (match r with | .inl r => Yt none Try.prog (szF Try.f34) (Jh Try.f34 0) (Wy a0 a1 a2 y1 x8) .ret (Qa4 a0 a1 a2 r) | .inr r => Yt none Try.prog (szF Try.f34) (Jh Try.f34 0) (Wy a0 a1 a2 y1 x8) (.exit 0) (Qa5 a0 a1 a2 r)) := by
 intro fuel
 induction fuel with
 | zero => intro y1 x8 r h; rw [Xr.eq_1] at h; cases h
 | succ fuel ih =>
  intro y1 x8 r h
  rw [Xr.eq_2] at h
  obtain ⟨h2841, h⟩ := ifn h
  have e2842 := (show Xx Try.prog 3 (a2.toNat * 2 + 1) (flatMap Qc a0) = some (vi ((a0.getD a2.toNat default).Hi)) from (Qb3 ag3 Qc 2 1 Qo (by omega) a0 default h2841 (by omega)).trans rfl)
  have e2843 := (ti (ti (ti (an h2841 (ti (an e2842 (ti tt)))))))
  rcases ifs h with ⟨h2844, h⟩ | ⟨h2844, h⟩
  ·obtain ⟨h2845, h⟩ := ifn h
   have e2846 := (show (0 + a2.toNat * 2) + 2 <= List.length (flatMap Qc y1) from (by rw [Qc1 Qo]; have := h2845; omega))
   have e2847 := (ti (ti (ti (ti (ti (an h2845 (an e2846 tt)))))))
   obtain ⟨r2848, h2849, h⟩ := bs h
   have e2850 := (show VC Try.prog 26 [VV.tr (List.drop 0 (List.map unfr (putT (0 + a2.toNat * 2) (flatMap Qc y1) [vi x8, vi x8]))) y1.length, VV.ag (Qb a1)] (VV.tu [vi r2848.1, VV.ag (Qa0 r2848.2)]) from (VC.args (Qfu k (y1.set a2.toNat (⟨x8, x8⟩ : Ql)) a1 _ h2849) (by simp only [show putT (0 + a2.toNat * 2) (flatMap Qc y1) [vi x8, vi x8] = flatMap Qc (y1.set a2.toNat (⟨x8, x8⟩ : Ql)) from (by exact Ju Qo y1 h2845 (⟨x8, x8⟩ : Ql) (by omega)), Qa7, Qz, J6, Qaz, map_cons, map_nil, un_i, un_k, un_b, un_s, Qb2, Qff, length_map, length_replicate, length_append, List.length_set, length_cons, length_nil, Qm, Q9, Zr, Xm, Xn, Zp, Zq, Zj, Qp]; done)))
   have e2851 := (ti (ti (an e2850 (ti (ti (ti (ti (ti (ti tt)))))))))
   rcases ifs h with ⟨h2852, h⟩ | ⟨h2852, h⟩
   ·injection h with h; subst h
    exact Q5 (c := ⟨[(6, none)], [], []⟩) (s1 := (Qa4 a0 a1 a2 ())) pm pn (ans := [.reg (nN 5 (.v (vi ((a0.getD a2.toNat default).Hi)) :: .n :: [])), .br true, .reg (nN 7 []), .reg (.n :: .n :: .call (VV.tu [vi r2848.1, VV.ag (Qa0 r2848.2)]) :: nN 6 []), .reg (.n :: .n :: []), .br true, .reg (.n :: [])]) (by kernel_rfl) (by intro e; cases e) (an (an (an e2843 (an (dt h2844) tt)) (an e2847 (an e2851 (an (ti (ti tt)) (an (dt h2852) (an (ti tt) tt)))))) (ti tt))
   ·have h2 := ih _ _ _ h
    obtain ⟨q, hv, hq⟩ := pkR (rd := none) (P := Try.prog) (fn := Try.f34) (k := 0) (s := (Wy a0 a1 a2 y1 x8)) (ans := [.reg (nN 5 (.v (vi ((a0.getD a2.toNat default).Hi)) :: .n :: [])), .br true, .reg (nN 7 []), .reg (.n :: .n :: .call (VV.tu [vi r2848.1, VV.ag (Qa0 r2848.2)]) :: nN 6 []), .reg (.n :: .n :: []), .br false, .reg (nN 3 [])]) (c := ⟨[(0, none), (2, none), (4, none), (7, some (VV.rf 1 0 ((y1.set a2.toNat (⟨x8, x8⟩ : Ql)).length))), (8, none)], [none, some (flatMap Qc (y1.set a2.toNat (⟨x8, x8⟩ : Ql)))], []⟩) (e := .normal) (s1 := (Wy a0 a1 a2 (y1.set a2.toNat (⟨x8, x8⟩ : Ql)) (w64 (x8 + 1)))) (an (an (an e2843 (an (dt h2844) tt)) (an (an e2847 (an e2851 (an (ti (ti tt)) (an (df h2852) tt)))) (ti (ti (ti tt))))) (an (an (show Wv (VV.rf 1 0 y1.length) (VV.rf 1 0 ((y1.set a2.toNat (⟨x8, x8⟩ : Ql)).length)) from (Wv.of_eq (by simp))) tt) (an (show putT (0 + a2.toNat * 2) (flatMap Qc y1) [vi x8, vi x8] = flatMap Qc (y1.set a2.toNat (⟨x8, x8⟩ : Ql)) from (by exact Ju Qo y1 h2845 (⟨x8, x8⟩ : Ql) (by omega))) tt))) (by kernel_rfl)
    cases r with
    | inl r => exact Zd pm pn hv hq h2
    | inr r =>
     exact Zd pm pn hv hq h2
  ·injection h with h; subst h
   exact Q5 (c := ⟨[], [], []⟩) (s1 := (Qa5 a0 a1 a2 ())) pm pn (ans := [.reg (nN 5 (.v (vi ((a0.getD a2.toNat default).Hi)) :: .n :: [])), .br false]) (by kernel_rfl) (by intro e; cases e) (an (an e2843 (an (df h2844) tt)) (ti tt))
def Qyr (z0 : (List Ql)) : List Ans := (.n :: .own (flatMap Qc z0) z0.length none (VV.fw 2 (flatMap Qc z0) z0.length) :: .n :: [])
def Qbb (k : Nat) (a0 : (List Ql)) (a1 : Qg) (a2 : Int) : Option Bool :=
 (Xc k a0).bind fun r2812 => (if 0 <= a2 /\ a2 < (a0.length : Int) then ((Xr k a0 a1 a2 k r2812 ((a0.getD a2.toNat default).Lo)).bind fun r2854 => (match r2854 with | .inl r2855 => (some false) | .inr r2856 => (some true))) else none)
theorem Qim (k : Nat) (a0 : (List Ql)) (a1 : Qg) (a2 : Int) (r : Bool) (h : Qbb k a0 a1 a2 = some r) : VC Try.prog 34 [VV.tr (flatMap Qc a0) a0.length, VV.ag (Qb a1), vi a2] (vb r) := by
 unfold Qbb at h
 obtain ⟨r2812, h2813, h⟩ := bs h
 have e2814 := (show VC Try.prog 56 [VV.tr (flatMap Qc a0) a0.length] (VV.fw 2 (flatMap Qc r2812) r2812.length) /\ (flatMap Qc r2812 = flatMap Qc r2812 /\ r2812.length = r2812.length) /\ List.all (flatMap Qc r2812) VV.isC = true /\ (r2812.length = 0 -> flatMap Qc r2812 = []) from ⟨Qbp k a0 _ h2813, ⟨rfl, rfl⟩, Qc7 _, fun h => by rw [List.length_eq_zero_iff.1 h]; rfl⟩)
 obtain ⟨h2815, h⟩ := ifn h
 have e2816 := (show Xx Try.prog 3 (a2.toNat * 2 + 0) (flatMap Qc a0) = some (vi ((a0.getD a2.toNat default).Lo)) from (Qb3 ag3 Qc 2 0 Qo (by omega) a0 default h2815 (by omega)).trans rfl)
 obtain ⟨r2854, h2853, h⟩ := bs h
 have hph2853 := Qfm k a0 a1 a2 _ _ _ _ h2853
 cases r2854 with
 | inl r2855 =>
  dsimp only at h
  have e2857 := (an (ti tt) (VRun.loop hph2853))
  injection h with h; subst h
  exact Qn pm pn Try.func34 (r0 := vb false) (ans := [.reg (.n :: .n :: []), .reg (Qyr r2812), .reg (nN 4 (.v (vi ((a0.getD a2.toNat default).Lo)) :: .n :: [])), .sub ⟨[(0, none), (2, none), (4, none), (7, none), (8, none)], [none, none], []⟩ .ret (Qa4 a0 a1 a2 r2855)]) (fr := true) (by kernel_rfl) (an (an (ti (ti tt)) (an (ti (an e2814 (ti tt))) (an (ti (ti (an h2815 (ti (an e2816 (ti tt)))))) e2857))) (ti tt)) (Wv.refl _)
 | inr r2856 =>
  dsimp only at h
  have e2858 := (an (ti tt) (VRun.loop hph2853))
  injection h with h; subst h
  exact Qn pm pn Try.func34 (r0 := vb true) (ans := [.reg (.n :: .n :: []), .reg (Qyr r2812), .reg (nN 4 (.v (vi ((a0.getD a2.toNat default).Lo)) :: .n :: [])), .sub ⟨[(0, none), (2, none), (4, none), (7, none), (8, none)], [none, none], []⟩ (.exit 0) (Qa5 a0 a1 a2 r2856), .reg (.n :: [])]) (fr := true) (by kernel_rfl) (an (an (ti (ti tt)) (an (ti (an e2814 (ti tt))) (an (an (ti (ti (an h2815 (ti (an e2816 (ti tt)))))) e2858) (an (ti tt) tt)))) (ti tt)) (Wv.refl _)
def Qpa (z0 : (Int × A39 × Int)) : List Ans := (.n :: .n :: .call (VV.tu [vi z0.1, VV.ag (Qa0 z0.2.1), vi z0.2.2]) :: nN 8 [])
def Y5 (a0 : (List Ql)) (a1 : Qg) (x26 : Int) : VS := ⟨mkA [(0, VV.tr (flatMap Qc a0) a0.length), (3, VV.pt 0 0), (25, vi (a0.length : Int)), (26, vi x26)], [some ⟨true, 1, Qb a1⟩], .nil⟩
def Qat (a0 : (List Ql)) (a1 : Qg) (r : Int) : VS := ⟨mkA [(4, vi r), (5, vi 0)], [], .nil⟩
def Qau (a0 : (List Ql)) (a1 : Qg) (r : Unit) : VS := ⟨mkA [], [], .nil⟩
def Xd (k : Nat) (a0 : (List Ql)) (a1 : Qg) : Nat -> Int -> Option (Sum Int Unit)
 | 0, _ => none
 | fuel + 1, x26 => if x26 < (a0.length : Int) then ((Qbb k a0 a1 x26).bind fun r2899 => (if r2899 = true then (some (.inl x26)) else (Xd k a0 a1 fuel (w64 (x26 + 1))))) else (some (.inr ()))
theorem Qe9 (k : Nat) (a0 : (List Ql)) (a1 : Qg) : ∀ (fuel : Nat) (x26 : Int) (r : Sum Int Unit), Xd k a0 a1 fuel x26 = some r -> (match r with | .inl r => Yt none Try.prog (szF Try.f14) (Jh Try.f14 0) (Y5 a0 a1 x26) .ret (Qat a0 a1 r) | .inr r => Yt none Try.prog (szF Try.f14) (Jh Try.f14 0) (Y5 a0 a1 x26) (.exit 0) (Qau a0 a1 r)) := by
 intro fuel
 induction fuel with
 | zero => intro x26 r h; rw [Xd.eq_1] at h; cases h
 | succ fuel ih =>
  intro x26 r h
  rw [Xd.eq_2] at h
  rcases ifs h with ⟨h2898, h⟩ | ⟨h2898, h⟩
  ·obtain ⟨r2899, h2900, h⟩ := bs h
   have e2901 := (Qim k a0 a1 x26 _ h2900)
   rcases ifs h with ⟨h2902, h⟩ | ⟨h2902, h⟩
   ·injection h with h; subst h
    exact Q5 (c := ⟨[(4, none), (5, none)], [], []⟩) (s1 := (Qat a0 a1 x26)) pm pn (ans := [.reg (.n :: []), .br true, .reg (.n :: .n :: []), .reg (nN 3 (.call (vb r2899) :: [])), .br true, .reg (nN 3 [])]) (by kernel_rfl) (by intro e; cases e) (an (an (ti tt) (an (an (dt h2898) tt) (an (ti (ti tt)) (an (ti (ti (ti (an e2901 tt)))) (an h2902 (an (ti (ti (ti tt))) tt)))))) (ti tt))
   ·have h2 := ih _ _ h
    obtain ⟨q, hv, hq⟩ := pkR (rd := none) (P := Try.prog) (fn := Try.f14) (k := 0) (s := (Y5 a0 a1 x26)) (ans := [.reg (.n :: []), .br true, .reg (.n :: .n :: []), .reg (nN 3 (.call (vb r2899) :: [])), .br false, .reg (.n :: .n :: [])]) (c := ⟨[(0, none), (3, none), (25, none), (26, none)], [none], []⟩) (e := .normal) (s1 := (Y5 a0 a1 (w64 (x26 + 1)))) (an (an (ti tt) (an (an (dt h2898) tt) (an (an (ti (ti tt)) (an (ti (ti (ti (an e2901 tt)))) (an (Zl h2902) tt))) (ti (ti tt))))) (ti tt)) (by kernel_rfl)
    cases r with
    | inl r => exact Zd pm pn hv hq h2
    | inr r =>
     exact Zd pm pn hv hq h2
  ·injection h with h; subst h
   exact Q5 (c := ⟨[], [], []⟩) (s1 := (Qau a0 a1 ())) pm pn (ans := [.reg (.n :: []), .br false]) (by kernel_rfl) (by intro e; cases e) (an (an (ti tt) (an (df h2898) tt)) (ti tt))
def Jb (k : Nat) (a0 : (List Ql)) (a1 : Qg) : Option (Int × Int) :=
 (Jq k a0 a1).bind fun r2879 => (if r2879.2.2 = 0 then (if r2879.1 = 0 then ((Qr k a0 ()).bind fun r2884 => (if r2884 = true then (some (0, 8)) else ((Xd k a0 a1 k 0).bind fun r2904 => (match r2904 with | .inl r2905 => (some (r2905, 0)) | .inr r2906 => (some (0, 12)))))) else (some (0, 24))) else (some (0, r2879.2.2)))
theorem Qa1 (k : Nat) (a0 : (List Ql)) (a1 : Qg) (r : (Int × Int)) (h : Jb k a0 a1 = some r) : VC Try.prog 14 [VV.tr (flatMap Qc a0) a0.length, VV.ag (Qb a1)] (VV.tu [vi r.1, vi r.2]) := by
 unfold Jb at h
 obtain ⟨r2879, h2880, h⟩ := bs h
 have e2881 := (ti (ti (an (Qae k a0 a1 _ h2880) (ti (ti (ti (ti (ti (ti (ti (ti tt)))))))))))
 rcases ifs h with ⟨h2882, h⟩ | ⟨h2882, h⟩
 ·rcases ifs h with ⟨h2883, h⟩ | ⟨h2883, h⟩
  ·obtain ⟨r2884, h2885, h⟩ := bs h
   have e2886 := (Jm k a0 () _ h2885)
   rcases ifs h with ⟨h2887, h⟩ | ⟨h2887, h⟩
   ·injection h with h; subst h
    exact Qn pm pn Try.func14 (r0 := VV.tu [vi 0, vi 8]) (ans := [.reg (nN 3 []), .reg (Qpa r2879), .reg (.n :: .n :: []), .br false, .reg (.n :: .n :: []), .br false, .reg (.n :: .call (vb r2884) :: []), .br true, .reg (.n :: .n :: [])]) (fr := true) (by kernel_rfl) (an (an (ti (ti (ti tt))) (an e2881 (an (an (ti (ti tt)) (an (Qh (dt h2882)) tt)) (an (an (ti (ti tt)) (an (Qh (dt h2883)) tt)) (an (ti (an e2886 tt)) (an h2887 (an (ti (ti tt)) tt))))))) (ti (ti tt))) (Wv.refl _)
   ·obtain ⟨r2904, h2903, h⟩ := bs h
    have hph2903 := Qe9 k a0 a1 _ _ _ h2903
    cases r2904 with
    | inl r2905 =>
     dsimp only at h
     have e2907 := (an (ti tt) (VRun.loop hph2903))
     injection h with h; subst h
     exact Qn pm pn Try.func14 (r0 := VV.tu [vi r2905, vi 0]) (ans := [.reg (nN 3 []), .reg (Qpa r2879), .reg (.n :: .n :: []), .br false, .reg (.n :: .n :: []), .br false, .reg (.n :: .call (vb r2884) :: []), .br false, .reg (nN 3 []), .sub ⟨[(0, none), (3, none), (25, none), (26, none)], [none], []⟩ .ret (Qat a0 a1 r2905)]) (fr := true) (by kernel_rfl) (an (an (ti (ti (ti tt))) (an e2881 (an (an (ti (ti tt)) (an (Qh (dt h2882)) tt)) (an (an (ti (ti tt)) (an (Qh (dt h2883)) tt)) (an (an (ti (an e2886 tt)) (an (Zl h2887) tt)) (an (ti (ti (ti tt))) e2907)))))) (ti (ti tt))) (Wv.refl _)
    | inr r2906 =>
     dsimp only at h
     have e2908 := (an (ti tt) (VRun.loop hph2903))
     injection h with h; subst h
     exact Qn pm pn Try.func14 (r0 := VV.tu [vi 0, vi 12]) (ans := [.reg (nN 3 []), .reg (Qpa r2879), .reg (.n :: .n :: []), .br false, .reg (.n :: .n :: []), .br false, .reg (.n :: .call (vb r2884) :: []), .br false, .reg (nN 3 []), .sub ⟨[(0, none), (3, none), (25, none), (26, none)], [none], []⟩ (.exit 0) (Qau a0 a1 r2906), .reg (.n :: .n :: [])]) (fr := true) (by kernel_rfl) (an (an (ti (ti (ti tt))) (an e2881 (an (an (ti (ti tt)) (an (Qh (dt h2882)) tt)) (an (an (ti (ti tt)) (an (Qh (dt h2883)) tt)) (an (an (ti (an e2886 tt)) (an (Zl h2887) tt)) (an (an (ti (ti (ti tt))) e2908) (an (ti (ti tt)) tt))))))) (ti (ti tt))) (Wv.refl _)
  ·injection h with h; subst h
   exact Qn pm pn Try.func14 (r0 := VV.tu [vi 0, vi 24]) (ans := [.reg (nN 3 []), .reg (Qpa r2879), .reg (.n :: .n :: []), .br false, .reg (.n :: .n :: []), .br true, .reg (.n :: .n :: [])]) (fr := true) (by kernel_rfl) (an (an (ti (ti (ti tt))) (an e2881 (an (an (ti (ti tt)) (an (Qh (dt h2882)) tt)) (an (ti (ti tt)) (an (Q8 (df h2883)) (an (ti (ti tt)) tt)))))) (ti (ti tt))) (Wv.refl _)
 ·injection h with h; subst h
  exact Qn pm pn Try.func14 (r0 := VV.tu [vi 0, vi r2879.2.2]) (ans := [.reg (nN 3 []), .reg (Qpa r2879), .reg (.n :: .n :: []), .br true, .reg (nN 3 [])]) (fr := true) (by kernel_rfl) (an (an (ti (ti (ti tt))) (an e2881 (an (ti (ti tt)) (an (Q8 (df h2882)) (an (ti (ti (ti tt))) tt))))) (ti (ti tt))) (Wv.refl _)
def Zx (k : Nat) (a0 : (List Ql)) : Option (List Ql) :=
 if ([] : List Ql).length + a0.length <= 1000000000 then (some (([] : List Ql) ++ a0)) else none
theorem Jw (k : Nat) (a0 : (List Ql)) (r : (List Ql)) (h : Zx k a0 = some r) : VC Try.prog 15 [VV.tr (flatMap Qc a0) a0.length] (VV.fw 2 (flatMap Qc r) r.length) := by
 unfold Zx at h
 obtain ⟨h2911, h⟩ := ifn h
 have e2912 := (show List.length [] = 0 * 2 /\ List.length (flatMap Qc a0) = a0.length * 2 /\ (0 + a0.length) * 16 <= 140737488355328 /\ 0 + a0.length < 1099511627776 /\ List.all (flatMap Qc a0) VV.still = true from ⟨(by rw [show [] = flatMap Qc ([] : List Ql) from rfl]; rw [Qa2 Qo] <;> simp), (by rw [Qa2 Qo] <;> simp), (by first | omega | (simp at h2911 ⊢; omega)), (by first | omega | (simp at h2911 ⊢; omega)), (by exact Qha _)⟩)
 injection h with h; subst h
 exact Qn pm pn Try.func15 (r0 := VV.fw 2 (List.drop 0 (List.map unfr ([] ++ (flatMap Qc a0)))) (0 + a0.length)) (ans := [.reg (.n :: []), .reg (nN 4 [])]) (fr := true) (by kernel_rfl) (an (an (ti tt) (an (ti (ti (an e2912 (ti tt)))) tt)) (an (show List.all ([] ++ (flatMap Qc a0)) new0 = true from (by rw [show [] ++ (flatMap Qc a0) = flatMap Qc (([] : List Ql) ++ a0) from (by rw [show [] = flatMap Qc ([] : List Ql) from rfl]; exact List.flatMap_append.symm)]; exact Qfj _)) tt)) (Wv.of_eq (by simp only [show [] ++ (flatMap Qc a0) = flatMap Qc (([] : List Ql) ++ a0) from (by rw [show [] = flatMap Qc ([] : List Ql) from rfl]; exact List.flatMap_append.symm), Qa7, Qz, J6, Qaz, map_cons, map_nil, un_i, un_k, un_b, un_s, Qb2, Qff, length_map, length_replicate, length_append, List.length_set, length_cons, length_nil, Qm, Q9, Zr, Xm, Xn, Zp, Zq, Zj, Qp]))
end Go.Proofs.Ytjfkkcldffgekaa.Vg

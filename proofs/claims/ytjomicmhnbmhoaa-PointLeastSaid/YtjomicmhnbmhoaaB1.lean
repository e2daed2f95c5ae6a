import Derived.Test.YtjomicmhnbmhoaaAF
namespace Go.Proofs.Ytjomicmhnbmhoaa.Vg
set_option maxRecDepth 100000
set_option maxHeartbeats 4000000
set_option linter.unusedVariables false
set_option linter.unusedSimpArgs false
open Go Go.Proofs.Ytjomicmhnbmhoaa.Ev Go.Proofs.Ytjomicmhnbmhoaa.Vv
open List (flatMap length_cons length_nil length_map length_append map_cons map_nil length_replicate)
structure Qo where
 At : Int
 Value : Int
 deriving Inhabited
def Qg (x : Qo) : List VV := [vi x.At, vi x.Value]
theorem Je (x : Qo) : (Qg x).length = 2 := rfl
theorem Qo7 (xs : List Qo) : (xs.flatMap Qg).all VV.still = true := Qlt (fun _ => rfl) xs
theorem Ql5 (xs : List Qo) : (xs.flatMap Qg).all new0 = true := Qlt (fun _ => rfl) xs
theorem Zu (xs : List Qo) : (xs.flatMap Qg).map unfr = xs.flatMap Qg := Qk0 (fun _ => rfl) xs
theorem ag68 : Qgw Try.prog 68 = some true := by kernel_rfl
theorem sz68 : szOf Try.prog 68 = some 2 := by kernel_rfl
def Qbi (k : Nat) (a0 : (List Qo)) : Option Bool :=
 if (a0.length : Int) <= 6 then (some true) else (if 40 < (a0.length : Int) then (some (decide ((a0.length : Int) <= 43))) else (some false))
theorem Qgx (k : Nat) (a0 : (List Qo)) (r : Bool) (h : Qbi k a0 = some r) : VC Try.prog 55 [VV.tr (flatMap Qg a0) a0.length] (vb r) := by
 unfold Qbi at h
 rcases ifs h with ⟨h11462, h⟩ | ⟨h11462, h⟩
 ·have e11463 := (t4 (w4 (dt h11462) (t3 (w2 (dt h11462) (ti tt)))))
  obtain rfl := si h
  exact Qi pm pn Try.func55 (r0 := vb true) (ans := [.reg (.n :: []), .reg (nN 4 (nS 8 (.b true :: .n :: [])))]) (fr := true) (by kernel_rfl) (an (an (ti tt) (an e11463 tt)) (ti tt)) (Wv.refl _)
 ·rcases ifs h with ⟨h11464, h⟩ | ⟨h11464, h⟩
  ·have e11465 := (an (df h11462) (dt h11464))
   have e11466 := (t4 (w4 (tf h11462) (w3 (te h11464) (an e11465 (an (df h11462) (ti tt))))))
   obtain rfl := si h
   exact Qi pm pn Try.func55 (r0 := vb (decide ((a0.length : Int) <= 43))) (ans := [.reg (.n :: []), .reg (nN 11 (.b true :: .b false :: .n :: []))]) (fr := true) (by kernel_rfl) (an (an (ti tt) (an e11466 tt)) (ti tt)) (Wv.refl _)
  ·have e11467 := (an (df h11462) (df h11464))
   have e11468 := (t4 (w4 (tf h11462) (w3 (df h11464) (an e11467 (an (df h11462) (ti tt))))))
   obtain rfl := si h
   exact Qi pm pn Try.func55 (r0 := vb false) (ans := [.reg (.n :: []), .reg (nN 8 (nS 3 (.b false :: .b false :: .n :: [])))]) (fr := true) (by kernel_rfl) (an (an (ti tt) (an e11468 tt)) (ti tt)) (Wv.refl _)
def Qa2 (k : Nat) (a0 : (List Qo)) : Option (List Qo) :=
 if ([] : List Qo).length + a0.length <= 1000000000 then (some (([] : List Qo) ++ a0)) else none
theorem Qgi (k : Nat) (a0 : (List Qo)) (r : (List Qo)) (h : Qa2 k a0 = some r) : VC Try.prog 30 [VV.tr (flatMap Qg a0) a0.length] (VV.fw 2 (flatMap Qg r) r.length) := by
 unfold Qa2 at h
 obtain ⟨h11471, h⟩ := ifn h
 have e11472 := (show List.length [] = 0 * 2 /\ List.length (flatMap Qg a0) = a0.length * 2 /\ (0 + a0.length) * 16 <= 140737488355328 /\ 0 + a0.length < 1099511627776 /\ List.all (flatMap Qg a0) VV.still = true from ⟨(by rw [show [] = flatMap Qg ([] : List Qo) from rfl]; rw [Qfg Je] <;> simp), (by rw [Qfg Je] <;> simp), (by first | omega | (simp at h11471 ⊢; omega)), (by first | omega | (simp at h11471 ⊢; omega)), (by exact Qo7 _)⟩)
 obtain rfl := si h
 exact Qi pm pn Try.func30 (r0 := VV.fw 2 (List.drop 0 (List.map unfr ([] ++ (flatMap Qg a0)))) (0 + a0.length)) (ans := [.reg (.n :: []), .reg (nN 4 [])]) (fr := true) (by kernel_rfl) (an (an (ti tt) (an (t2 (an e11472 (ti tt))) tt)) (an (show List.all ([] ++ (flatMap Qg a0)) new0 = true from (by rw [show [] ++ (flatMap Qg a0) = flatMap Qg (([] : List Qo) ++ a0) from (by rw [show [] = flatMap Qg ([] : List Qo) from rfl]; exact List.flatMap_append.symm)]; exact Ql5 _)) tt)) (Wv.of_eq (by first | (simp only [show [] ++ (flatMap Qg a0) = flatMap Qg (([] : List Qo) ++ a0) from (by rw [show [] = flatMap Qg ([] : List Qo) from rfl]; exact List.flatMap_append.symm), Qdb, Qj, Qfn, Qcb, map_cons, map_nil, un_i, un_k, un_b, un_s, Jg, Qf0, length_map, length_replicate, length_append, List.length_set, length_cons, length_nil, Nat.zero_add, Xf, X0, Wj, Xm, X7, Xh, Zu]; done) | (simp only [show [] ++ (flatMap Qg a0) = flatMap Qg (([] : List Qo) ++ a0) from (by rw [show [] = flatMap Qg ([] : List Qo) from rfl]; exact List.flatMap_append.symm), Qdb, Qj, Qfn, Qcb, map_cons, map_nil, un_i, un_k, un_b, un_s, Jg, Qf0, length_map, length_replicate, length_append, List.length_set, length_cons, length_nil, Nat.zero_add, Xf, X0, Wj, Xm, X7, Xh, Zu]; rfl)))
theorem Q6i (z0 : (List Qo)) : [vi 1, vi 40, VV.tr (List.map vi ([(z0.length : Int)] : List Int)) (([(z0.length : Int)] : List Int).length)] = [vi 1, vi 40, VV.tr [vi (z0.length : Int)] 1] := by first | rfl | (simp only [Qj, map_cons, map_nil, un_i, Jg, length_map, length_cons, length_nil]; done) | (simp only [Qj, map_cons, map_nil, un_i, Jg, length_map, length_cons, length_nil]; rfl) | (simp only [Qj, map_cons, map_nil, un_i, Jg, length_map, length_cons, length_nil, length_cons, length_nil, length_append]; done)
theorem Q6j (z0 : (List Qo)) (z1 : Int) : [vi 1000000, VV.tr (List.map vi ([(z0.getD z1.toNat default).At, (z0.getD z1.toNat default).Value] : List Int)) (([(z0.getD z1.toNat default).At, (z0.getD z1.toNat default).Value] : List Int).length)] = [vi 1000000, VV.tr [vi ((z0.getD z1.toNat default).At), vi ((z0.getD z1.toNat default).Value)] 2] := by first | rfl | (simp only [Qj, map_cons, map_nil, un_i, Jg, length_map, length_cons, length_nil]; done) | (simp only [Qj, map_cons, map_nil, un_i, Jg, length_map, length_cons, length_nil]; rfl) | (simp only [Qj, map_cons, map_nil, un_i, Jg, length_map, length_cons, length_nil, length_cons, length_nil, length_append]; done)
def Q2v (z0 : (List Qo)) (z1 : Int) : List Ans := (nN 10 (.v (vi ((z0.getD (w64 (z1 - 1)).toNat default).At)) :: .n :: .b true :: .n :: []))
def Yo (a0 : (List Qo)) (x12 : Int) : VS := ⟨mkA [(0, VV.tr (flatMap Qg a0) a0.length), (10, VV.tr (flatMap Qg a0) a0.length), (11, vi (a0.length : Int)), (12, vi x12)], [], .nil⟩
def Qbo (a0 : (List Qo)) (r : Int) : VS := ⟨mkA [(2, vi r)], [], .nil⟩
def Qdw (a0 : (List Qo)) (r : Unit) : VS := ⟨mkA [], [], .nil⟩
def Xw (k : Nat) (a0 : (List Qo)) : Nat -> Int -> Option (Sum Int Unit)
 | 0, _ => none
 | fuel + 1, x12 => if x12 < (a0.length : Int) then (if 0 <= x12 /\ x12 < (a0.length : Int) then ((Yc k 1000000 ([(a0.getD x12.toNat default).At, (a0.getD x12.toNat default).Value] : List Int)).bind fun r11558 => (if r11558 = true then (if 0 < x12 then (if 0 <= w64 (x12 - 1) /\ w64 (x12 - 1) < (a0.length : Int) then (if ((a0.getD x12.toNat default).At) <= ((a0.getD (w64 (x12 - 1)).toNat default).At) then (some (.inl 9)) else (Xw k a0 fuel (w64 (x12 + 1)))) else none) else (Xw k a0 fuel (w64 (x12 + 1)))) else (some (.inl 2)))) else none) else (some (.inr ()))
theorem Qi5 (k : Nat) (a0 : (List Qo)) : ∀ (fuel : Nat) (x12 : Int) (r : Sum Int Unit), Xw k a0 fuel x12 = some r -> (match r with | .inl r => Jb none Try.prog (szF Try.f53) (Zy Try.f53 0) (Yo a0 x12) .ret (Qbo a0 r) | .inr r => Jb none Try.prog (szF Try.f53) (Zy Try.f53 0) (Yo a0 x12) (.exit 0) (Qdw a0 r)) := by
 intro fuel
 induction fuel with
 | zero => intro x12 r h; rw [Xw.eq_1] at h; cases h
 | succ fuel ih =>
  intro x12 r h
  rw [Xw.eq_2] at h
  rcases ifs h with ⟨h11554, h⟩ | ⟨h11554, h⟩
  ·obtain ⟨h11555, h⟩ := ifn h
   have e11556 := (Qbm ag68 Qg 2 sz68 Je a0 default h11555 rfl)
   have e11557 := (ti (an h11555 (an e11556 (t3 tt))))
   obtain ⟨r11558, h11559, h⟩ := bs h
   have e11560 := (VC.args (Qap k 1000000 ([(a0.getD x12.toNat default).At, (a0.getD x12.toNat default).Value] : List Int) _ h11559) (Q6j a0 x12))
   have e11561 := (t5 (an e11560 (t2 tt)))
   rcases ifs h with ⟨h11562, h⟩ | ⟨h11562, h⟩
   ·rcases ifs h with ⟨h11563, h⟩ | ⟨h11563, h⟩
    ·obtain ⟨h11564, h⟩ := ifn h
     have e11565 := (an (dt h11563) (show Zg Try.prog 3 ((w64 (x12 - 1)).toNat * 2 + 0) (flatMap Qg a0) = some (vi ((a0.getD (w64 (x12 - 1)).toNat default).At)) from (Qdr ag3 Qg 2 0 Je (by omega) a0 default h11564 (by omega)).trans rfl))
     have e11566 := (t3 (w5 (te h11563) (an (an (dt h11563) h11564) (an (te h11563) (an e11565 (an (te h11563) (an (dt h11563) (ti tt))))))))
     rcases ifs h with ⟨h11567, h⟩ | ⟨h11567, h⟩
     ·obtain rfl := si h
      exact Qk (c := ⟨[(2, none)], [], []⟩) (s1 := (Qbo a0 9)) pm pn (ans := [.reg (.n :: []), .br true, .reg (.n :: .n :: .v (VV.ag (Qg (a0.getD x12.toNat default))) :: nN 3 []), .reg (nN 4 (.v VV.any :: .call (vb r11558) :: .n :: .n :: [])), .br false, .reg (Q2v a0 x12), .br true, .reg (.n :: [])]) (by kernel_rfl) nofun (an (an (ti tt) (an (te h11554) (an e11557 (an e11561 (an (Qh h11562) (an e11566 (an (dt h11567) (an (ti tt) tt)))))))) (ti tt))
     ·have h2 := ih _ _ h
      obtain ⟨q, hv, hq⟩ := pK none Try.prog Try.f53 0 (Yo a0 x12) [.reg (.n :: []), .br true, .reg (.n :: .n :: .v (VV.ag (Qg (a0.getD x12.toNat default))) :: nN 3 []), .reg (nN 4 (.v VV.any :: .call (vb r11558) :: .n :: .n :: [])), .br false, .reg (Q2v a0 x12), .br false, .reg (.n :: .n :: [])] ⟨(tn [0, 10, 11, 12]), [], []⟩ .normal (Yo a0 (w64 (x12 + 1))) (an (an (ti tt) (an (te h11554) (an (an e11557 (an e11561 (an (Qh h11562) (an e11566 (tf h11567))))) (t2 tt)))) (ti tt)) (by kernel_rfl)
      cases r <;> exact Qd pm pn hv hq h2
    ·have e11568 := (t3 (w9 (df h11563) (an (df h11563) (ti tt))))
     have h2 := ih _ _ h
     obtain ⟨q, hv, hq⟩ := pK none Try.prog Try.f53 0 (Yo a0 x12) [.reg (.n :: []), .br true, .reg (.n :: .n :: .v (VV.ag (Qg (a0.getD x12.toNat default))) :: nN 3 []), .reg (nN 4 (.v VV.any :: .call (vb r11558) :: .n :: .n :: [])), .br false, .reg (nN 3 (nS 9 (.b false :: .n :: []))), .br false, .reg (.n :: .n :: [])] ⟨(tn [0, 10, 11, 12]), [], []⟩ .normal (Yo a0 (w64 (x12 + 1))) (an (an (ti tt) (an (te h11554) (an (an e11557 (an e11561 (an (Qh h11562) (an e11568 (an rf tt))))) (t2 tt)))) (ti tt)) (by kernel_rfl)
     cases r <;> exact Qd pm pn hv hq h2
   ·obtain rfl := si h
    exact Qk (c := ⟨[(2, none)], [], []⟩) (s1 := (Qbo a0 2)) pm pn (ans := [.reg (.n :: []), .br true, .reg (.n :: .n :: .v (VV.ag (Qg (a0.getD x12.toNat default))) :: nN 3 []), .reg (nN 4 (.v VV.any :: .call (vb r11558) :: .n :: .n :: [])), .br true, .reg (.n :: [])]) (by kernel_rfl) nofun (an (an (ti tt) (an (te h11554) (an e11557 (an e11561 (an (Qr (Qn h11562)) (an (ti tt) tt)))))) (ti tt))
  ·obtain rfl := si h
   exact Qk (c := ⟨[], [], []⟩) (s1 := (Qdw a0 ())) pm pn (ans := [.reg (.n :: []), .br false]) (by kernel_rfl) nofun (an (an (ti tt) (tf h11554)) (ti tt))
def Qbj (k : Nat) (a0 : (List Qo)) : Option Int :=
 (Zv k 1 40 ([(a0.length : Int)] : List Int)).bind fun r11524 => (if r11524 = true then ((Xw k a0 k 0).bind fun r11570 => (match r11570 with | .inl r11571 => (some r11571) | .inr r11572 => (some 0))) else (some 10))
theorem Qfq (k : Nat) (a0 : (List Qo)) (r : Int) (h : Qbj k a0 = some r) : VC Try.prog 53 [VV.tr (flatMap Qg a0) a0.length] (vi r) := by
 unfold Qbj at h
 obtain ⟨r11524, h11525, h⟩ := bs h
 have e11526 := (VC.args (Xk k 1 40 ([(a0.length : Int)] : List Int) _ h11525) (Q6i a0))
 rcases ifs h with ⟨h11527, h⟩ | ⟨h11527, h⟩
 ·obtain ⟨r11570, h11569, h⟩ := bs h
  have hph11569 := Qi5 k a0 _ _ _ h11569
  cases r11570 with
  | inl r11571 =>
   dsimp only at h
   have e11573 := (an (ti tt) (VRun.loop hph11569))
   obtain rfl := si h
   exact Qi pm pn Try.func53 (r0 := vi r11571) (ans := [.reg (.n :: []), .reg (.n :: .n :: .v VV.any :: .call (vb r11524) :: .n :: []), .br false, .reg (nN 3 []), .sub ⟨(tn [0, 10, 11, 12]), [], []⟩ .ret (Qbo a0 r11571)]) (fr := true) (by kernel_rfl) (an (an (ti tt) (an (an (t3 (an e11526 (ti tt))) (an (Qh h11527) tt)) (an (t3 tt) e11573))) (ti tt)) (Wv.refl _)
  | inr r11572 =>
   dsimp only at h
   have e11574 := (an (ti tt) (VRun.loop hph11569))
   obtain rfl := si h
   exact Qi pm pn Try.func53 (r0 := vi 0) (ans := [.reg (.n :: []), .reg (.n :: .n :: .v VV.any :: .call (vb r11524) :: .n :: []), .br false, .reg (nN 3 []), .sub ⟨(tn [0, 10, 11, 12]), [], []⟩ (.exit 0) (Qdw a0 r11572), .reg (.n :: [])]) (fr := true) (by kernel_rfl) (an (an (ti tt) (an (an (t3 (an e11526 (ti tt))) (an (Qh h11527) tt)) (an (an (t3 tt) e11574) (an (ti tt) tt)))) (ti tt)) (Wv.refl _)
 ·obtain rfl := si h
  exact Qi pm pn Try.func53 (r0 := vi 10) (ans := [.reg (.n :: []), .reg (.n :: .n :: .v VV.any :: .call (vb r11524) :: .n :: []), .br true, .reg (.n :: [])]) (fr := true) (by kernel_rfl) (an (an (ti tt) (an (t3 (an e11526 (ti tt))) (an (Qr (Qn h11527)) (an (ti tt) tt)))) (ti tt)) (Wv.refl _)
def Qho (k : Nat) (a0 : Qo) (q0_0 : Int) : Option Bool :=
 some (decide (q0_0 < a0.At))
theorem Qmd (k : Nat) (a0 : Qo) (q0_0 : Int) (r : Bool) (h : Qho k a0 q0_0 = some r) : VC Try.prog 75 [VV.ag (Qg a0), VV.tp [vi q0_0] 0] (vb r) := by
 unfold Qho at h
 have e11579 := (show Zg Try.prog 3 0 [vi q0_0] = some (vi q0_0) from (Qjh ag3 rfl))
 obtain rfl := si h
 exact Qi pm pn Try.func75 (r0 := vb (decide (q0_0 < a0.At))) (ans := [.reg (.n :: .n :: []), .reg (.n :: .n :: .v (vi q0_0) :: .n :: .n :: [])]) (fr := true) (by kernel_rfl) (an (an (t2 tt) (an (t2 (an e11579 (t2 tt))) tt)) (ti tt)) (Wv.refl _)
def Q8 (a0 : (List Qo)) (a1 : Int) (x8 : Int) : VS := ⟨mkA [(0, VV.tr (flatMap Qg a0) a0.length), (1, VV.fn 75 [VV.tp [vi a1] 0]), (7, vi (a0.length : Int)), (8, vi x8)], [], .nil⟩
def Zz (a0 : (List Qo)) (a1 : Int) (r : Int) : VS := ⟨mkA [(4, vi r)], [], .nil⟩
def Z4 (a0 : (List Qo)) (a1 : Int) (r : Unit) : VS := ⟨mkA [], [], .nil⟩
def Ql (k : Nat) (a0 : (List Qo)) (a1 : Int) : Nat -> Int -> Option (Sum Int Unit)
 | 0, _ => none
 | fuel + 1, x8 => if x8 < (a0.length : Int) then (if 0 <= x8 /\ x8 < (a0.length : Int) then ((Qho k (a0.getD x8.toNat default) a1).bind fun r11626 => (if r11626 = true then (some (.inl x8)) else (Ql k a0 a1 fuel (w64 (x8 + 1))))) else none) else (some (.inr ()))
theorem Qad (k : Nat) (a0 : (List Qo)) (a1 : Int) : ∀ (fuel : Nat) (x8 : Int) (r : Sum Int Unit), Ql k a0 a1 fuel x8 = some r -> (match r with | .inl r => Jb none Try.prog (szF Try.f74) (Zy Try.f74 0) (Q8 a0 a1 x8) .ret (Zz a0 a1 r) | .inr r => Jb none Try.prog (szF Try.f74) (Zy Try.f74 0) (Q8 a0 a1 x8) (.exit 0) (Z4 a0 a1 r)) := by
 intro fuel
 induction fuel with
 | zero => intro x8 r h; rw [Ql.eq_1] at h; cases h
 | succ fuel ih =>
  intro x8 r h
  rw [Ql.eq_2] at h
  rcases ifs h with ⟨h11623, h⟩ | ⟨h11623, h⟩
  ·obtain ⟨h11624, h⟩ := ifn h
   have e11625 := (Qbm ag68 Qg 2 sz68 Je a0 default h11624 rfl)
   obtain ⟨r11626, h11627, h⟩ := bs h
   have e11628 := (Qmd k (a0.getD x8.toNat default) a1 _ h11627)
   have e11629 := (t3 (an h11624 (an e11625 (an e11628 tt))))
   rcases ifs h with ⟨h11630, h⟩ | ⟨h11630, h⟩
   ·obtain rfl := si h
    exact Qk (c := ⟨[(4, none)], [], []⟩) (s1 := (Zz a0 a1 x8)) pm pn (ans := [.reg (.n :: []), .br true, .reg (.n :: .n :: []), .reg (nN 4 (.v (VV.ag (Qg (a0.getD x8.toNat default))) :: .call (vb r11626) :: [])), .br true, .reg (.n :: .n :: [])]) (by kernel_rfl) nofun (an (an (ti tt) (an (te h11623) (an (t2 tt) (an e11629 (an h11630 (an (t2 tt) tt)))))) (ti tt))
   ·have h2 := ih _ _ h
    obtain ⟨q, hv, hq⟩ := pK none Try.prog Try.f74 0 (Q8 a0 a1 x8) [.reg (.n :: []), .br true, .reg (.n :: .n :: []), .reg (nN 4 (.v (VV.ag (Qg (a0.getD x8.toNat default))) :: .call (vb r11626) :: [])), .br false, .reg (.n :: .n :: [])] ⟨(tn [0, 1, 7, 8]), [], []⟩ .normal (Q8 a0 a1 (w64 (x8 + 1))) (an (an (ti tt) (an (te h11623) (an (an (t2 tt) (an e11629 (an (Qn h11630) tt))) (t2 tt)))) (ti tt)) (by kernel_rfl)
    cases r <;> exact Qd pm pn hv hq h2
  ·obtain rfl := si h
   exact Qk (c := ⟨[], [], []⟩) (s1 := (Z4 a0 a1 ())) pm pn (ans := [.reg (.n :: []), .br false]) (by kernel_rfl) nofun (an (an (ti tt) (tf h11623)) (ti tt))
def Qz (k : Nat) (a0 : (List Qo)) (a1 : Int) : Option Int :=
 (Ql k a0 a1 k 0).bind fun r11632 => (match r11632 with | .inl r11633 => (some r11633) | .inr r11634 => (some (-1)))
theorem Qa4 (k : Nat) (a0 : (List Qo)) (a1 : Int) (r : Int) (h : Qz k a0 a1 = some r) : VC Try.prog 74 [VV.tr (flatMap Qg a0) a0.length, VV.fn 75 [VV.tp [vi a1] 0]] (vi r) := by
 unfold Qz at h
 obtain ⟨r11632, h11631, h⟩ := bs h
 have hph11631 := Qad k a0 a1 _ _ _ h11631
 cases r11632 with
 | inl r11633 =>
  dsimp only at h
  have e11635 := (an (ti tt) (VRun.loop hph11631))
  obtain rfl := si h
  exact Qi pm pn Try.func74 (r0 := vi r11633) (ans := [.reg (.n :: []), .reg (nN 3 []), .sub ⟨(tn [0, 1, 7, 8]), [], []⟩ .ret (Zz a0 a1 r11633)]) (fr := true) (by kernel_rfl) (an (an (ti tt) (an (t3 tt) e11635)) (ti tt)) (Wv.refl _)
 | inr r11634 =>
  dsimp only at h
  have e11636 := (an (ti tt) (VRun.loop hph11631))
  obtain rfl := si h
  exact Qi pm pn Try.func74 (r0 := vi (-1)) (ans := [.reg (.n :: []), .reg (nN 3 []), .sub ⟨(tn [0, 1, 7, 8]), [], []⟩ (.exit 0) (Z4 a0 a1 r11634), .reg (.n :: [])]) (fr := true) (by kernel_rfl) (an (an (ti tt) (an (an (t3 tt) e11636) (an (ti tt) tt))) (ti tt)) (Wv.refl _)
def Qes (k : Nat) (a0 : Int) (a1 : Int) : Option Int :=
 if a1 ≠ 0 then (if (a0.tmod a1) < 0 then (some (w64 ((w64 (a0.tdiv a1)) - 1))) else (some (w64 (a0.tdiv a1)))) else none
theorem Qi6 (k : Nat) (a0 : Int) (a1 : Int) (r : Int) (h : Qes k a0 a1 = some r) : VC Try.prog 73 [vi a0, vi a1] (vi r) := by
 unfold Qes at h
 obtain ⟨h11655, h⟩ := ifn h
 rcases ifs h with ⟨h11656, h⟩ | ⟨h11656, h⟩
 ·obtain rfl := si h
  exact Qi pm pn Try.func73 (r0 := vi (w64 ((w64 (a0.tdiv a1)) - 1))) (ans := [.reg (.n :: []), .reg (nN 4 []), .br true, .reg (nN 5 [])]) (fr := true) (by kernel_rfl) (an (an (ti tt) (an (t2 (an h11655 (ti tt))) (an (dt h11656) (an (t2 (an h11655 (t2 tt))) tt)))) (ti tt)) (Wv.refl _)
 ·obtain rfl := si h
  exact Qi pm pn Try.func73 (r0 := vi (w64 (a0.tdiv a1))) (ans := [.reg (.n :: []), .reg (nN 4 []), .br false, .reg (nN 4 [])]) (fr := true) (by kernel_rfl) (an (an (ti tt) (an (an (t2 (an h11655 (ti tt))) (tf h11656)) (an (t2 (an h11655 (ti tt))) tt))) (ti tt)) (Wv.refl _)
def Q2w (z0 : (List Qo)) : List Ans := (nN 6 (.v (vi ((z0.getD (w64 ((z0.length : Int) - 1)).toNat default).Value)) :: .n :: []))
def Qzc (z0 : (List Qo)) (z1 : Int) : List Ans := (nN 4 (.v (VV.ag (Qg (z0.getD (w64 (z1 - 1)).toNat default))) :: nN 3 (.v (VV.ag (Qg (z0.getD z1.toNat default))) :: nN 4 [])))
def Qdx (k : Nat) (a0 : (List Qo)) (a1 : Int) : Option Int :=
 (Qz k a0 a1).bind fun r11661 => (if r11661 = (-1) then (if 0 <= w64 ((a0.length : Int) - 1) /\ w64 ((a0.length : Int) - 1) < (a0.length : Int) then (some ((a0.getD (w64 ((a0.length : Int) - 1)).toNat default).Value)) else none) else (if r11661 = 0 then (if (0 : Int) <= 0 /\ 0 < (a0.length : Int) then (some ((a0.getD ((0 : Int)).toNat default).Value)) else none) else (if 0 <= w64 (r11661 - 1) /\ w64 (r11661 - 1) < (a0.length : Int) then (if 0 <= r11661 /\ r11661 < (a0.length : Int) then ((Qes k (w64 ((w64 (((a0.getD r11661.toNat default).Value) - ((a0.getD (w64 (r11661 - 1)).toNat default).Value))) * (w64 (a1 - ((a0.getD (w64 (r11661 - 1)).toNat default).At))))) (w64 (((a0.getD r11661.toNat default).At) - ((a0.getD (w64 (r11661 - 1)).toNat default).At)))).bind fun r11677 => (some (w64 (((a0.getD (w64 (r11661 - 1)).toNat default).Value) + r11677)))) else none) else none)))
theorem Qg4 (k : Nat) (a0 : (List Qo)) (a1 : Int) (r : Int) (h : Qdx k a0 a1 = some r) : VC Try.prog 54 [VV.tr (flatMap Qg a0) a0.length, vi a1] (vi r) := by
 unfold Qdx at h
 obtain ⟨r11661, h11662, h⟩ := bs h
 have e11663 := (Qa4 k a0 a1 _ h11662)
 rcases ifs h with ⟨h11664, h⟩ | ⟨h11664, h⟩
 ·obtain ⟨h11665, h⟩ := ifn h
  have e11666 := (show Zg Try.prog 3 ((w64 ((a0.length : Int) - 1)).toNat * 2 + 1) (flatMap Qg a0) = some (vi ((a0.getD (w64 ((a0.length : Int) - 1)).toNat default).Value)) from (Qdr ag3 Qg 2 1 Je (by omega) a0 default h11665 (by omega)).trans rfl)
  have e11667 := (t4 (an h11665 (ti (an e11666 (ti tt)))))
  obtain rfl := si h
  exact Qi pm pn Try.func54 (r0 := vi ((a0.getD (w64 ((a0.length : Int) - 1)).toNat default).Value)) (ans := [.reg (.n :: .n :: []), .frz 0, .reg (.n :: .n :: .call (vi r11661) :: .n :: []), .reg (.n :: []), .reg (.n :: .n :: []), .br true, .reg (Q2w a0)]) (fr := true) (by kernel_rfl) (an (an (t2 tt) (an (t2 (an e11663 (ti tt))) (an (ti tt) (an (t2 tt) (an (dt h11664) (an e11667 tt)))))) (ti tt)) (Wv.refl _)
 ·rcases ifs h with ⟨h11668, h⟩ | ⟨h11668, h⟩
  ·obtain ⟨h11669, h⟩ := ifn h
   have e11670 := (show Zg Try.prog 3 (((0 : Int)).toNat * 2 + 1) (flatMap Qg a0) = some (vi ((a0.getD ((0 : Int)).toNat default).Value)) from (Qdr ag3 Qg 2 1 Je (by omega) a0 default h11669 (by omega)).trans rfl)
   obtain rfl := si h
   exact Qi pm pn Try.func54 (r0 := vi ((a0.getD ((0 : Int)).toNat default).Value)) (ans := [.reg (.n :: .n :: []), .frz 0, .reg (.n :: .n :: .call (vi r11661) :: .n :: []), .reg (.n :: []), .reg (.n :: .n :: []), .br false, .reg (.n :: .n :: []), .br true, .reg (nN 3 (.v (vi ((a0.getD ((0 : Int)).toNat default).Value)) :: .n :: []))]) (fr := true) (by kernel_rfl) (an (an (t2 tt) (an (t2 (an e11663 (ti tt))) (an (ti tt) (an (t2 tt) (an (df h11664) (an (t2 tt) (an (dt h11668) (an (ti (an h11669 (ti (an e11670 (ti tt))))) tt)))))))) (ti tt)) (Wv.refl _)
  ·obtain ⟨h11671, h⟩ := ifn h
   have e11672 := (Qbm ag68 Qg 2 sz68 Je a0 default h11671 rfl)
   obtain ⟨h11673, h⟩ := ifn h
   have e11674 := (Qbm ag68 Qg 2 sz68 Je a0 default h11673 rfl)
   have e11675 := (t3 (an h11671 (an e11672 (t2 (an h11673 (an e11674 (t4 tt)))))))
   have e11676 := (show Zg Try.prog 3 0 [vi a1] = some (vi a1) from (Qjh ag3 rfl))
   obtain ⟨r11677, h11678, h⟩ := bs h
   have e11679 := (Qi6 k (w64 ((w64 (((a0.getD r11661.toNat default).Value) - ((a0.getD (w64 (r11661 - 1)).toNat default).Value))) * (w64 (a1 - ((a0.getD (w64 (r11661 - 1)).toNat default).At))))) (w64 (((a0.getD r11661.toNat default).At) - ((a0.getD (w64 (r11661 - 1)).toNat default).At))) _ h11678)
   have e11680 := (t7 (an e11676 (t9 (an e11679 (t2 tt)))))
   obtain rfl := si h
   exact Qi pm pn Try.func54 (r0 := vi (w64 (((a0.getD (w64 (r11661 - 1)).toNat default).Value) + r11677))) (ans := [.reg (.n :: .n :: []), .frz 0, .reg (.n :: .n :: .call (vi r11661) :: .n :: []), .reg (.n :: []), .reg (.n :: .n :: []), .br false, .reg (.n :: .n :: []), .br false, .reg (Qzc a0 r11661), .reg (nN 7 (.v (vi a1) :: nN 9 (.call (vi r11677) :: .n :: .n :: [])))]) (fr := true) (by kernel_rfl) (an (an (t2 tt) (an (t2 (an e11663 (ti tt))) (an (an (ti tt) (an (t2 tt) (an (df h11664) (an (t2 tt) (tf h11668))))) (an e11675 (an e11680 tt))))) (ti tt)) (Wv.refl _)
theorem Q6k (z0 : Int) : [vi 1000000, VV.tr (List.map vi ([z0] : List Int)) (([z0] : List Int).length)] = [vi 1000000, VV.tr [vi z0] 1] := by first | rfl | (simp only [Qj, map_cons, map_nil, un_i, Jg, length_map, length_cons, length_nil]; done) | (simp only [Qj, map_cons, map_nil, un_i, Jg, length_map, length_cons, length_nil]; rfl) | (simp only [Qj, map_cons, map_nil, un_i, Jg, length_map, length_cons, length_nil, length_cons, length_nil, length_append]; done)
def Qix (k : Nat) (a0 : (List Qo)) (a1 : Int) : Option (Int × Int) :=
 (Qbj k a0).bind fun r11692 => (if r11692 = 0 then ((Yc k 1000000 ([a1] : List Int)).bind fun r11696 => (if r11696 = true then ((Qdx k a0 a1).bind fun r11700 => (some (r11700, 0))) else (some (0, 2)))) else (some (0, r11692)))
theorem Qno (k : Nat) (a0 : (List Qo)) (a1 : Int) (r : (Int × Int)) (h : Qix k a0 a1 = some r) : VC Try.prog 23 [VV.tr (flatMap Qg a0) a0.length, vi a1] (VV.tu [vi r.1, vi r.2]) := by
 unfold Qix at h
 obtain ⟨r11692, h11693, h⟩ := bs h
 have e11694 := (ti (an (Qfq k a0 _ h11693) (ti tt)))
 rcases ifs h with ⟨h11695, h⟩ | ⟨h11695, h⟩
 ·obtain ⟨r11696, h11697, h⟩ := bs h
  have e11698 := (VC.args (Qap k 1000000 ([a1] : List Int) _ h11697) (Q6k a1))
  rcases ifs h with ⟨h11699, h⟩ | ⟨h11699, h⟩
  ·obtain ⟨r11700, h11701, h⟩ := bs h
   have e11702 := (t2 (an (Qg4 k a0 a1 _ h11701) (t2 tt)))
   obtain rfl := si h
   exact Qi pm pn Try.func23 (r0 := VV.tu [vi r11700, vi 0]) (ans := [.reg (.n :: .n :: []), .reg (.n :: .call (vi r11692) :: .n :: []), .reg (.n :: .n :: []), .br false, .reg (.n :: .v VV.any :: .call (vb r11696) :: .n :: []), .br false, .reg (.n :: .n :: .call (vi r11700) :: .n :: .n :: [])]) (fr := true) (by kernel_rfl) (an (an (t2 tt) (an (an e11694 (an (t2 tt) (ta h11695))) (an (an (t2 (an e11698 (ti tt))) (an (Qh h11699) tt)) (an e11702 tt)))) (t2 tt)) (Wv.refl _)
  ·obtain rfl := si h
   exact Qi pm pn Try.func23 (r0 := VV.tu [vi 0, vi 2]) (ans := [.reg (.n :: .n :: []), .reg (.n :: .call (vi r11692) :: .n :: []), .reg (.n :: .n :: []), .br false, .reg (.n :: .v VV.any :: .call (vb r11696) :: .n :: []), .br true, .reg (.n :: .n :: [])]) (fr := true) (by kernel_rfl) (an (an (t2 tt) (an (an e11694 (an (t2 tt) (ta h11695))) (an (t2 (an e11698 (ti tt))) (an (Qr (Qn h11699)) (an (t2 tt) tt))))) (t2 tt)) (Wv.refl _)
 ·obtain rfl := si h
  exact Qi pm pn Try.func23 (r0 := VV.tu [vi 0, vi r11692]) (ans := [.reg (.n :: .n :: []), .reg (.n :: .call (vi r11692) :: .n :: []), .reg (.n :: .n :: []), .br true, .reg (nN 3 [])]) (fr := true) (by kernel_rfl) (an (an (t2 tt) (an e11694 (an (t2 tt) (an (td h11695) (an (t3 tt) tt))))) (t2 tt)) (Wv.refl _)
def Q7 (k : Nat) (a0 : Int) (a1 : Int) (a2 : Int) : Option Bool :=
 if a1 <= a0 then (some (decide (a0 <= a2))) else (some false)
theorem Zb (k : Nat) (a0 : Int) (a1 : Int) (a2 : Int) (r : Bool) (h : Q7 k a0 a1 a2 = some r) : VC Try.prog 16 [vi a0, vi a1, vi a2] (vb r) := by
 unfold Q7 at h
 rcases ifs h with ⟨h11706, h⟩ | ⟨h11706, h⟩
 ·have e11707 := (t4 (w3 (te h11706) (an (dt h11706) (ti tt))))
  obtain rfl := si h
  exact Qi pm pn Try.func16 (r0 := vb (decide (a0 <= a2))) (ans := [.reg (.n :: []), .reg (nN 7 (.b true :: .n :: []))]) (fr := true) (by kernel_rfl) (an (an (ti tt) (an e11707 tt)) (ti tt)) (Wv.refl _)
 ·have e11708 := (t4 (w4 (df h11706) (ti tt)))
  obtain rfl := si h
  exact Qi pm pn Try.func16 (r0 := vb false) (ans := [.reg (.n :: []), .reg (nN 4 (nS 3 (.b false :: .n :: [])))]) (fr := true) (by kernel_rfl) (an (an (ti tt) (an e11708 tt)) (ti tt)) (Wv.refl _)
def Qbe (k : Nat) (a0 : Int) : Option Bool :=
 (Q7 k a0 (-1000000) 1000000).bind fun r11719 => (some r11719)
theorem Qfu (k : Nat) (a0 : Int) (r : Bool) (h : Qbe k a0 = some r) : VC Try.prog 80 [vi a0] (vb r) := by
 unfold Qbe at h
 obtain ⟨r11719, h11720, h⟩ := bs h
 have e11721 := (Zb k a0 (-1000000) 1000000 _ h11720)
 obtain rfl := si h
 exact Qi pm pn Try.func80 (r0 := vb r11719) (ans := [.reg (.n :: []), .reg (.n :: .call (vb r11719) :: .n :: [])]) (fr := true) (by kernel_rfl) (an (an (ti tt) (an (ti (an e11721 (ti tt))) tt)) (ti tt)) (Wv.refl _)
def Qvl (z0 : (List Qo)) (z1 : Int) (z2 : Bool) (z3 : Bool) : List Ans := (nN 4 (.v (vi ((z0.getD z1.toNat default).At)) :: .call (vb z2) :: nN 6 (.v (vi ((z0.getD z1.toNat default).Value)) :: .call (vb z3) :: .n :: .b false :: [])))
def Q2x (z0 : (List Qo)) (z1 : Int) : List Ans := (nN 7 (.v (vi ((z0.getD z1.toNat default).At)) :: nN 5 (.v (vi ((z0.getD (w64 (z1 - 1)).toNat default).At)) :: .n :: .b true :: [])))
def Q6l (z0 : (List Qo)) (z1 : Int) (z2 : Bool) : List Ans := (nN 4 (.v (vi ((z0.getD z1.toNat default).At)) :: .call (vb z2) :: .n :: .n :: nS 7 (.b true :: [])))
def X3 (a0 : (List Qo)) (x3 : Int) : VS := ⟨mkA [(0, VV.tr (flatMap Qg a0) a0.length), (3, vi x3)], [], .nil⟩
def Zd (k : Nat) (a0 : (List Qo)) : Nat -> Int -> Option (Sum Int Unit)
 | 0, _ => none
 | fuel + 1, x3 => if x3 < (a0.length : Int) then (if 0 <= x3 /\ x3 < (a0.length : Int) then ((Qbe k ((a0.getD x3.toNat default).At)).bind fun r11827 => (if r11827 = true then ((Qbe k ((a0.getD x3.toNat default).Value)).bind fun r11832 => (if r11832 = true then (if 0 < x3 then (if 0 <= w64 (x3 - 1) /\ w64 (x3 - 1) < (a0.length : Int) then (if ((a0.getD x3.toNat default).At) <= ((a0.getD (w64 (x3 - 1)).toNat default).At) then (some (.inl 9)) else (Zd k a0 fuel (w64 (x3 + 1)))) else none) else (Zd k a0 fuel (w64 (x3 + 1)))) else (some (.inl 2)))) else (some (.inl 2)))) else none) else (some (.inr ()))
theorem Qgj (k : Nat) (a0 : (List Qo)) : ∀ (fuel : Nat) (x3 : Int) (r : Sum Int Unit), Zd k a0 fuel x3 = some r -> (match r with | .inl r => Jb none Try.prog (szF Try.f66) (Zy Try.f66 0) (X3 a0 x3) .ret (Qbo a0 r) | .inr r => Jb none Try.prog (szF Try.f66) (Zy Try.f66 0) (X3 a0 x3) (.exit 0) (Qdw a0 r)) := by
 intro fuel
 induction fuel with
 | zero => intro x3 r h; rw [Zd.eq_1] at h; cases h
 | succ fuel ih =>
  intro x3 r h
  rw [Zd.eq_2] at h
  rcases ifs h with ⟨h11824, h⟩ | ⟨h11824, h⟩
  ·obtain ⟨h11825, h⟩ := ifn h
   have e11826 := (show Zg Try.prog 3 (x3.toNat * 2 + 0) (flatMap Qg a0) = some (vi ((a0.getD x3.toNat default).At)) from (Qdr ag3 Qg 2 0 Je (by omega) a0 default h11825 (by omega)).trans rfl)
   obtain ⟨r11827, h11828, h⟩ := bs h
   have e11829 := (Qfu k ((a0.getD x3.toNat default).At) _ h11828)
   rcases ifs h with ⟨h11830, h⟩ | ⟨h11830, h⟩
   ·have e11831 := (an (Qh h11830) (show Zg Try.prog 3 (x3.toNat * 2 + 1) (flatMap Qg a0) = some (vi ((a0.getD x3.toNat default).Value)) from (Qdr ag3 Qg 2 1 Je (by omega) a0 default h11825 (by omega)).trans rfl))
    obtain ⟨r11832, h11833, h⟩ := bs h
    have e11834 := (an (Qh h11830) (Qfu k ((a0.getD x3.toNat default).Value) _ h11833))
    have e11835 := (t2 (an h11825 (ti (an e11826 (an e11829 (t2 (w2 (an (Qh h11830) tt) (an (an (Qh h11830) h11825) (an (an (Qh h11830) tt) (an e11831 (an e11834 (an (an (Qh h11830) tt) (an (Qh h11830) tt)))))))))))))
    rcases ifs h with ⟨h11836, h⟩ | ⟨h11836, h⟩
    ·rcases ifs h with ⟨h11837, h⟩ | ⟨h11837, h⟩
     ·have e11838 := (an (dt h11837) (show Zg Try.prog 3 (x3.toNat * 2 + 0) (flatMap Qg a0) = some (vi ((a0.getD x3.toNat default).At)) from (Qdr ag3 Qg 2 0 Je (by omega) a0 default h11825 (by omega)).trans rfl))
      obtain ⟨h11839, h⟩ := ifn h
      have e11840 := (an (dt h11837) (show Zg Try.prog 3 ((w64 (x3 - 1)).toNat * 2 + 0) (flatMap Qg a0) = some (vi ((a0.getD (w64 (x3 - 1)).toNat default).At)) from (Qdr ag3 Qg 2 0 Je (by omega) a0 default h11839 (by omega)).trans rfl))
      have e11841 := (t3 (w2 (te h11837) (an (an (dt h11837) h11825) (an (te h11837) (an e11838 (w3 (te h11837) (an (an (dt h11837) h11839) (an (te h11837) (an e11840 (an (te h11837) (te h11837)))))))))))
      rcases ifs h with ⟨h11842, h⟩ | ⟨h11842, h⟩
      ·obtain rfl := si h
       exact Qk (c := ⟨[(2, none)], [], []⟩) (s1 := (Qbo a0 9)) pm pn (ans := [.reg (nN 4 []), .br true, .reg (Qvl a0 x3 r11827 r11832), .br false, .reg (Q2x a0 x3), .br true, .reg (.n :: [])]) (by kernel_rfl) nofun (an (an (an (t4 tt) (te h11824)) (an (an e11835 (an (Qh h11836) tt)) (an e11841 (an (dt h11842) (an (ti tt) tt))))) (ti tt))
      ·have h2 := ih _ _ h
       obtain ⟨q, hv, hq⟩ := pK none Try.prog Try.f66 0 (X3 a0 x3) [.reg (nN 4 []), .br true, .reg (Qvl a0 x3 r11827 r11832), .br false, .reg (Q2x a0 x3), .br false, .reg (nN 3 [])] ⟨(tn [0, 3]), [], []⟩ .normal (X3 a0 (w64 (x3 + 1))) (an (an (an (t4 tt) (te h11824)) (an (an (an e11835 (an (Qh h11836) tt)) (an e11841 (tf h11842))) (t3 tt))) (ti tt)) (by kernel_rfl)
       cases r <;> exact Qd pm pn hv hq h2
     ·have e11843 := (t3 (w9 (df h11837) (w3 (df h11837) (tf h11837))))
      have h2 := ih _ _ h
      obtain ⟨q, hv, hq⟩ := pK none Try.prog Try.f66 0 (X3 a0 x3) [.reg (nN 4 []), .br true, .reg (Qvl a0 x3 r11827 r11832), .br false, .reg (nN 3 (nS 12 (.b false :: []))), .br false, .reg (nN 3 [])] ⟨(tn [0, 3]), [], []⟩ .normal (X3 a0 (w64 (x3 + 1))) (an (an (an (t4 tt) (te h11824)) (an (an (an e11835 (an (Qh h11836) tt)) (an e11843 (an rf tt))) (t3 tt))) (ti tt)) (by kernel_rfl)
      cases r <;> exact Qd pm pn hv hq h2
    ·obtain rfl := si h
     exact Qk (c := ⟨[(2, none)], [], []⟩) (s1 := (Qbo a0 2)) pm pn (ans := [.reg (nN 4 []), .br true, .reg (Qvl a0 x3 r11827 r11832), .br true, .reg (.n :: [])]) (by kernel_rfl) nofun (an (an (an (t4 tt) (te h11824)) (an e11835 (an (Qr (Qn h11836)) (an (ti tt) tt)))) (ti tt))
   ·have e11844 := (t2 (an h11825 (ti (an e11826 (an e11829 (t2 (w8 (Qr (Qn h11830)) tt)))))))
    obtain rfl := si h
    exact Qk (c := ⟨[(2, none)], [], []⟩) (s1 := (Qbo a0 2)) pm pn (ans := [.reg (nN 4 []), .br true, .reg (Q6l a0 x3 r11827), .br true, .reg (.n :: [])]) (by kernel_rfl) nofun (an (an (an (t4 tt) (te h11824)) (an e11844 (an rt (an (ti tt) tt)))) (ti tt))
  ·obtain rfl := si h
   exact Qk (c := ⟨[], [], []⟩) (s1 := (Qdw a0 ())) pm pn (ans := [.reg (nN 4 []), .br false]) (by kernel_rfl) nofun (an (an (t4 tt) (tf h11824)) (ti tt))
def Yf (k : Nat) (a0 : (List Qo)) : Option Int :=
 (Q7 k (a0.length : Int) 1 40).bind fun r11783 => (if r11783 = true then ((Zd k a0 k 0).bind fun r11846 => (match r11846 with | .inl r11847 => (some r11847) | .inr r11848 => (some 0))) else (some 10))
theorem Qe9 (k : Nat) (a0 : (List Qo)) (r : Int) (h : Yf k a0 = some r) : VC Try.prog 66 [VV.tr (flatMap Qg a0) a0.length] (vi r) := by
 unfold Yf at h
 obtain ⟨r11783, h11784, h⟩ := bs h
 have e11785 := (Zb k (a0.length : Int) 1 40 _ h11784)
 rcases ifs h with ⟨h11786, h⟩ | ⟨h11786, h⟩
 ·obtain ⟨r11846, h11845, h⟩ := bs h
  have hph11845 := Qgj k a0 _ _ _ h11845
  cases r11846 with
  | inl r11847 =>
   dsimp only at h
   have e11849 := (an (ti tt) (VRun.loop hph11845))
   obtain rfl := si h
   exact Qi pm pn Try.func66 (r0 := vi r11847) (ans := [.reg (.n :: []), .reg (.n :: .n :: .call (vb r11783) :: .n :: []), .br false, .reg (.n :: []), .sub ⟨(tn [0, 3]), [], []⟩ .ret (Qbo a0 r11847)]) (fr := true) (by kernel_rfl) (an (an (ti tt) (an (an (t2 (an e11785 (ti tt))) (an (Qh h11786) tt)) (an (ti tt) e11849))) (ti tt)) (Wv.refl _)
  | inr r11848 =>
   dsimp only at h
   have e11850 := (an (ti tt) (VRun.loop hph11845))
   obtain rfl := si h
   exact Qi pm pn Try.func66 (r0 := vi 0) (ans := [.reg (.n :: []), .reg (.n :: .n :: .call (vb r11783) :: .n :: []), .br false, .reg (.n :: []), .sub ⟨(tn [0, 3]), [], []⟩ (.exit 0) (Qdw a0 r11848), .reg (.n :: [])]) (fr := true) (by kernel_rfl) (an (an (ti tt) (an (an (t2 (an e11785 (ti tt))) (an (Qh h11786) tt)) (an (an (ti tt) e11850) (an (ti tt) tt)))) (ti tt)) (Wv.refl _)
 ·obtain rfl := si h
  exact Qi pm pn Try.func66 (r0 := vi 10) (ans := [.reg (.n :: []), .reg (.n :: .n :: .call (vb r11783) :: .n :: []), .br true, .reg (.n :: [])]) (fr := true) (by kernel_rfl) (an (an (ti tt) (an (t2 (an e11785 (ti tt))) (an (Qr (Qn h11786)) (an (ti tt) tt)))) (ti tt)) (Wv.refl _)
theorem Qkl (k : Nat) (a0 : Int) (a1 : Int) (r : Int) (h : Qes k a0 a1 = some r) : VC Try.prog 19 [vi a0, vi a1] (vi r) := by
 unfold Qes at h
 obtain ⟨h11865, h⟩ := ifn h
 rcases ifs h with ⟨h11866, h⟩ | ⟨h11866, h⟩
 ·obtain rfl := si h
  exact Qi pm pn Try.func19 (r0 := vi (w64 ((w64 (a0.tdiv a1)) - 1))) (ans := [.reg (.n :: []), .reg (nN 4 []), .reg (nN 4 []), .br true, .reg (nN 3 []), .reg (.n :: .n :: [])]) (fr := true) (by kernel_rfl) (an (an (ti tt) (an (t2 (an h11865 (ti tt))) (an (an (t2 (an h11865 (ti tt))) (an (dt h11866) (t3 tt))) (an (t2 tt) tt)))) (ti tt)) (Wv.refl _)
 ·obtain rfl := si h
  exact Qi pm pn Try.func19 (r0 := vi (w64 (a0.tdiv a1))) (ans := [.reg (.n :: []), .reg (nN 4 []), .reg (nN 4 []), .br false, .reg (.n :: .n :: [])]) (fr := true) (by kernel_rfl) (an (an (ti tt) (an (t2 (an h11865 (ti tt))) (an (an (t2 (an h11865 (ti tt))) (tf h11866)) (an (t2 tt) tt)))) (ti tt)) (Wv.refl _)
def Qab (a0 : (List Qo)) (a1 : Int) (x5 : Int) : VS := ⟨mkA [(0, VV.tr (flatMap Qg a0) a0.length), (1, vi a1), (5, vi x5)], [], .nil⟩
def Qbx (a0 : (List Qo)) (a1 : Int) (r : Unit) : VS := ⟨mkA [(0, VV.tr (flatMap Qg a0) a0.length)], [], .nil⟩
def Xg (k : Nat) (a0 : (List Qo)) (a1 : Int) : Nat -> Int -> Option (Sum Int Unit)
 | 0, _ => none
 | fuel + 1, x5 => if x5 < (a0.length : Int) then (if 0 <= w64 (x5 - 1) /\ w64 (x5 - 1) < (a0.length : Int) then (if 0 <= x5 /\ x5 < (a0.length : Int) then (if a1 < ((a0.getD x5.toNat default).At) then ((Qes k (w64 ((w64 (((a0.getD x5.toNat default).Value) - ((a0.getD (w64 (x5 - 1)).toNat default).Value))) * (w64 (a1 - ((a0.getD (w64 (x5 - 1)).toNat default).At))))) (w64 (((a0.getD x5.toNat default).At) - ((a0.getD (w64 (x5 - 1)).toNat default).At)))).bind fun r11936 => (some (.inl (w64 (((a0.getD (w64 (x5 - 1)).toNat default).Value) + r11936))))) else (Xg k a0 a1 fuel (w64 (x5 + 1)))) else none) else none) else (some (.inr ()))
theorem Qhi (k : Nat) (a0 : (List Qo)) (a1 : Int) : ∀ (fuel : Nat) (x5 : Int) (r : Sum Int Unit), Xg k a0 a1 fuel x5 = some r -> (match r with | .inl r => Jb none Try.prog (szF Try.f84) (Zy Try.f84 0) (Qab a0 a1 x5) .ret (Zz a0 a1 r) | .inr r => Jb none Try.prog (szF Try.f84) (Zy Try.f84 0) (Qab a0 a1 x5) (.exit 0) (Qbx a0 a1 r)) := by
 intro fuel
 induction fuel with
 | zero => intro x5 r h; rw [Xg.eq_1] at h; cases h
 | succ fuel ih =>
  intro x5 r h
  rw [Xg.eq_2] at h
  rcases ifs h with ⟨h11929, h⟩ | ⟨h11929, h⟩
  ·obtain ⟨h11930, h⟩ := ifn h
   have e11931 := (Qbm ag68 Qg 2 sz68 Je a0 default h11930 rfl)
   obtain ⟨h11932, h⟩ := ifn h
   have e11933 := (Qbm ag68 Qg 2 sz68 Je a0 default h11932 rfl)
   have e11934 := (t3 (an h11930 (an e11931 (t2 (an h11932 (an e11933 (t4 tt)))))))
   rcases ifs h with ⟨h11935, h⟩ | ⟨h11935, h⟩
   ·obtain ⟨r11936, h11937, h⟩ := bs h
    have e11938 := (Qkl k (w64 ((w64 (((a0.getD x5.toNat default).Value) - ((a0.getD (w64 (x5 - 1)).toNat default).Value))) * (w64 (a1 - ((a0.getD (w64 (x5 - 1)).toNat default).At))))) (w64 (((a0.getD x5.toNat default).At) - ((a0.getD (w64 (x5 - 1)).toNat default).At))) _ h11937)
    have e11939 := (t9 (t8 (an e11938 (t2 tt))))
    obtain rfl := si h
    exact Qk (c := ⟨[(4, none)], [], []⟩) (s1 := (Zz a0 a1 (w64 (((a0.getD (w64 (x5 - 1)).toNat default).Value) + r11936)))) pm pn (ans := [.reg (nN 4 []), .br true, .reg (Qzc a0 x5), .reg (nN 4 []), .br true, .reg (nN 17 (.call (vi r11936) :: .n :: .n :: []))]) (by kernel_rfl) nofun (an (an (an (t4 tt) (te h11929)) (an e11934 (an (t4 tt) (an (dt h11935) (an e11939 tt))))) (ti tt))
   ·have h2 := ih _ _ h
    obtain ⟨q, hv, hq⟩ := pK none Try.prog Try.f84 0 (Qab a0 a1 x5) [.reg (nN 4 []), .br true, .reg (Qzc a0 x5), .reg (nN 4 []), .br false, .reg (nN 3 [])] ⟨(tn [0, 1, 5]), [], []⟩ .normal (Qab a0 a1 (w64 (x5 + 1))) (an (an (an (t4 tt) (te h11929)) (an (an e11934 (an (t4 tt) (tf h11935))) (t3 tt))) (ti tt)) (by kernel_rfl)
    cases r <;> exact Qd pm pn hv hq h2
  ·obtain rfl := si h
   exact Qk (c := ⟨[(0, none)], [], []⟩) (s1 := (Qbx a0 a1 ())) pm pn (ans := [.reg (nN 4 []), .br false]) (by kernel_rfl) nofun (an (an (t4 tt) (tf h11929)) (ti tt))
def Wq (k : Nat) (a0 : (List Qo)) (a1 : Int) : Option Int :=
 if (0 : Int) <= 0 /\ 0 < (a0.length : Int) then (if a1 <= ((a0.getD ((0 : Int)).toNat default).At) then (some ((a0.getD ((0 : Int)).toNat default).Value)) else ((Xg k a0 a1 k 1).bind fun r11941 => (match r11941 with | .inl r11942 => (some r11942) | .inr r11943 => (if 0 <= w64 ((a0.length : Int) - 1) /\ w64 ((a0.length : Int) - 1) < (a0.length : Int) then (some ((a0.getD (w64 ((a0.length : Int) - 1)).toNat default).Value)) else none)))) else none
theorem Qfv (k : Nat) (a0 : (List Qo)) (a1 : Int) (r : Int) (h : Wq k a0 a1 = some r) : VC Try.prog 84 [VV.tr (flatMap Qg a0) a0.length, vi a1] (vi r) := by
 unfold Wq at h
 obtain ⟨h11902, h⟩ := ifn h
 have e11903 := (show Zg Try.prog 3 (((0 : Int)).toNat * 2 + 0) (flatMap Qg a0) = some (vi ((a0.getD ((0 : Int)).toNat default).At)) from (Qdr ag3 Qg 2 0 Je (by omega) a0 default h11902 (by omega)).trans rfl)
 have e11904 := (t2 (an h11902 (ti (an e11903 (ti tt)))))
 rcases ifs h with ⟨h11905, h⟩ | ⟨h11905, h⟩
 ·have e11906 := (show Zg Try.prog 3 (((0 : Int)).toNat * 2 + 1) (flatMap Qg a0) = some (vi ((a0.getD ((0 : Int)).toNat default).Value)) from (Qdr ag3 Qg 2 1 Je (by omega) a0 default h11902 (by omega)).trans rfl)
  obtain rfl := si h
  exact Qi pm pn Try.func84 (r0 := vi ((a0.getD ((0 : Int)).toNat default).Value)) (ans := [.reg (.n :: []), .reg (nN 4 (.v (vi ((a0.getD ((0 : Int)).toNat default).At)) :: .n :: [])), .br true, .reg (nN 3 (.v (vi ((a0.getD ((0 : Int)).toNat default).Value)) :: .n :: []))]) (fr := true) (by kernel_rfl) (an (an (ti tt) (an e11904 (an (dt h11905) (an (ti (an h11902 (ti (an e11906 (ti tt))))) tt)))) (ti tt)) (Wv.refl _)
 ·obtain ⟨r11941, h11940, h⟩ := bs h
  have hph11940 := Qhi k a0 a1 _ _ _ h11940
  cases r11941 with
  | inl r11942 =>
   dsimp only at h
   have e11944 := (an (ti tt) (VRun.loop hph11940))
   obtain rfl := si h
   exact Qi pm pn Try.func84 (r0 := vi r11942) (ans := [.reg (.n :: []), .reg (nN 4 (.v (vi ((a0.getD ((0 : Int)).toNat default).At)) :: .n :: [])), .br false, .reg (.n :: []), .sub ⟨(tn [0, 1, 5]), [], []⟩ .ret (Zz a0 a1 r11942)]) (fr := true) (by kernel_rfl) (an (an (ti tt) (an (an e11904 (tf h11905)) (an (ti tt) e11944))) (ti tt)) (Wv.refl _)
  | inr r11943 =>
   dsimp only at h
   have e11945 := (an (ti tt) (VRun.loop hph11940))
   obtain ⟨h11946, h⟩ := ifn h
   have e11947 := (show Zg Try.prog 3 ((w64 ((a0.length : Int) - 1)).toNat * 2 + 1) (flatMap Qg a0) = some (vi ((a0.getD (w64 ((a0.length : Int) - 1)).toNat default).Value)) from (Qdr ag3 Qg 2 1 Je (by omega) a0 default h11946 (by omega)).trans rfl)
   have e11948 := (t4 (an h11946 (ti (an e11947 (ti tt)))))
   obtain rfl := si h
   exact Qi pm pn Try.func84 (r0 := vi ((a0.getD (w64 ((a0.length : Int) - 1)).toNat default).Value)) (ans := [.reg (.n :: []), .reg (nN 4 (.v (vi ((a0.getD ((0 : Int)).toNat default).At)) :: .n :: [])), .br false, .reg (.n :: []), .sub ⟨(tn [0, 1, 5]), [], []⟩ (.exit 0) (Qbx a0 a1 r11943), .reg (Q2w a0)]) (fr := true) (by kernel_rfl) (an (an (ti tt) (an (an e11904 (tf h11905)) (an (an (ti tt) e11945) (an e11948 tt)))) (ti tt)) (Wv.refl _)
end Go.Proofs.Ytjomicmhnbmhoaa.Vg

import Derived.Test.YtjomicmhnbmhoaaB4
namespace Go.Proofs.Ytjomicmhnbmhoaa.Vg
set_option maxRecDepth 100000
set_option maxHeartbeats 4000000
set_option linter.unusedVariables false
set_option linter.unusedSimpArgs false
open Go Go.Proofs.Ytjomicmhnbmhoaa.Ev Go.Proofs.Ytjomicmhnbmhoaa.Vv
open List (flatMap length_cons length_nil length_map length_append map_cons map_nil length_replicate)
def Qea (k : Nat) (a0 : Int) (a1 : Int) : Option (Int × Bool) :=
 some (maxI (w64 (a1 - a0)) (w64 (a0 - a1)), decide (648000 < (maxI (w64 (a1 - a0)) (w64 (a0 - a1)))))
theorem Qlw (k : Nat) (a0 : Int) (a1 : Int) (r : (Int × Bool)) (h : Qea k a0 a1 = some r) : VC Try.prog 46 [vi a0, vi a1] (VV.tu [vi r.1, vb r.2]) := by
 unfold Qea at h
 obtain rfl := si h
 exact Qi pm pn Try.func46 (r0 := VV.tu [vi (maxI (w64 (a1 - a0)) (w64 (a0 - a1))), vb (decide (648000 < (maxI (w64 (a1 - a0)) (w64 (a0 - a1)))))]) (ans := [.reg (.n :: .n :: []), .reg (nN 8 []), .reg (nN 5 [])]) (fr := true) (by kernel_rfl) (an (an (t2 tt) (an (t8 tt) (an (t5 tt) tt))) (t2 tt)) (Wv.refl _)
def Qaa (a0 : (List Int)) (a1 : Int) (x8 : Int) : VS := ⟨mkA [(0, VV.tr (List.map vi a0) a0.length), (1, vi a1), (7, vi (a0.length : Int)), (8, vi x8)], [], .nil⟩
def Qbt (a0 : (List Int)) (a1 : Int) (r : Int) : VS := ⟨mkA [(4, vi r)], [], .nil⟩
def Qbu (a0 : (List Int)) (a1 : Int) (r : Unit) : VS := ⟨mkA [], [], .nil⟩
def Zh (k : Nat) (a0 : (List Int)) (a1 : Int) : Nat -> Int -> Option (Sum Int Unit)
 | 0, _ => none
 | fuel + 1, x8 => if x8 < (a0.length : Int) then (if 0 <= x8 /\ x8 < (a0.length : Int) then (if a1 = (a0.getD x8.toNat 0) then (some (.inl x8)) else (Zh k a0 a1 fuel (w64 (x8 + 1)))) else none) else (some (.inr ()))
theorem Qhf (k : Nat) (a0 : (List Int)) (a1 : Int) : ∀ (fuel : Nat) (x8 : Int) (r : Sum Int Unit), Zh k a0 a1 fuel x8 = some r -> (match r with | .inl r => Jb none Try.prog (szF Try.f71) (Zy Try.f71 0) (Qaa a0 a1 x8) .ret (Qbt a0 a1 r) | .inr r => Jb none Try.prog (szF Try.f71) (Zy Try.f71 0) (Qaa a0 a1 x8) (.exit 0) (Qbu a0 a1 r)) := by
 intro fuel
 induction fuel with
 | zero => intro x8 r h; rw [Zh.eq_1] at h; cases h
 | succ fuel ih =>
  intro x8 r h
  rw [Zh.eq_2] at h
  rcases ifs h with ⟨h13481, h⟩ | ⟨h13481, h⟩
  ·obtain ⟨h13482, h⟩ := ifn h
   have e13483 := (X8 ag3 vi a0 0 h13482 rfl)
   have e13484 := (t3 (an h13482 (an e13483 (ti tt))))
   rcases ifs h with ⟨h13485, h⟩ | ⟨h13485, h⟩
   ·obtain rfl := si h
    exact Qk (c := ⟨[(4, none)], [], []⟩) (s1 := (Qbt a0 a1 x8)) pm pn (ans := [.reg (.n :: []), .br true, .reg (.n :: .n :: []), .reg (nN 4 (.v (vi (a0.getD x8.toNat 0)) :: .n :: [])), .br true, .reg (.n :: .n :: [])]) (by kernel_rfl) nofun (an (an (ti tt) (an (te h13481) (an (t2 tt) (an e13484 (an (dt h13485) (an (t2 tt) tt)))))) (ti tt))
   ·have h2 := ih _ _ h
    obtain ⟨q, hv, hq⟩ := pK none Try.prog Try.f71 0 (Qaa a0 a1 x8) [.reg (.n :: []), .br true, .reg (.n :: .n :: []), .reg (nN 4 (.v (vi (a0.getD x8.toNat 0)) :: .n :: [])), .br false, .reg (.n :: .n :: [])] ⟨(tn [0, 1, 7, 8]), [], []⟩ .normal (Qaa a0 a1 (w64 (x8 + 1))) (an (an (ti tt) (an (te h13481) (an (an (t2 tt) (an e13484 (tf h13485))) (t2 tt)))) (ti tt)) (by kernel_rfl)
    cases r <;> exact Qd pm pn hv hq h2
  ·obtain rfl := si h
   exact Qk (c := ⟨[], [], []⟩) (s1 := (Qbu a0 a1 ())) pm pn (ans := [.reg (.n :: []), .br false]) (by kernel_rfl) nofun (an (an (ti tt) (tf h13481)) (ti tt))
def Qbb (k : Nat) (a0 : (List Int)) (a1 : Int) : Option Int :=
 (Zh k a0 a1 k 0).bind fun r13487 => (match r13487 with | .inl r13488 => (some r13488) | .inr r13489 => (some (-1)))
theorem Qiy (k : Nat) (a0 : (List Int)) (a1 : Int) (r : Int) (h : Qbb k a0 a1 = some r) : VC Try.prog 71 [VV.tr (List.map vi a0) a0.length, vi a1] (vi r) := by
 unfold Qbb at h
 obtain ⟨r13487, h13486, h⟩ := bs h
 have hph13486 := Qhf k a0 a1 _ _ _ h13486
 cases r13487 with
 | inl r13488 =>
  dsimp only at h
  have e13490 := (an (ti tt) (VRun.loop hph13486))
  obtain rfl := si h
  exact Qi pm pn Try.func71 (r0 := vi r13488) (ans := [.reg (.n :: []), .reg (nN 3 []), .sub ⟨(tn [0, 1, 7, 8]), [], []⟩ .ret (Qbt a0 a1 r13488)]) (fr := true) (by kernel_rfl) (an (an (ti tt) (an (t3 tt) e13490)) (ti tt)) (Wv.refl _)
 | inr r13489 =>
  dsimp only at h
  have e13491 := (an (ti tt) (VRun.loop hph13486))
  obtain rfl := si h
  exact Qi pm pn Try.func71 (r0 := vi (-1)) (ans := [.reg (.n :: []), .reg (nN 3 []), .sub ⟨(tn [0, 1, 7, 8]), [], []⟩ (.exit 0) (Qbu a0 a1 r13489), .reg (.n :: [])]) (fr := true) (by kernel_rfl) (an (an (ti tt) (an (an (t3 tt) e13491) (an (ti tt) tt))) (ti tt)) (Wv.refl _)
def Q2l (z0 : X9) (z1 : Int) (z2 : Int) : List Ans := (nN 5 (.v (VV.tr (List.map vi ((z0.stops.getD z1.toNat default).turns)) (((z0.stops.getD z1.toNat default).turns).length)) :: .n :: .call (vi z2) :: .n :: []))
def Q5z (z0 : X9) (z1 : Int) (z2 : Int) : List Ans := (nN 7 (.v (VV.tr (List.map vi ((z0.stops.getD z1.toNat default).positions)) (((z0.stops.getD z1.toNat default).positions).length)) :: .n :: .n :: .v (vi (((z0.stops.getD z1.toNat default).positions).getD z2.toNat 0)) :: .n :: .n :: []))
def Qba (a0 : X9) (a1 : (List Int)) (y1 : List Int) (x21 : Int) : VS := ⟨mkA [(2, VV.pt 0 0), (6, VV.rf 1 0 y1.length), (19, VV.tr (List.map vi a1) a1.length), (20, vi (a1.length : Int)), (21, vi x21)], [some ⟨true, 1, Jk a0⟩, some ⟨false, 1, List.map vi y1⟩], .nil⟩
def Qcy (a0 : X9) (a1 : (List Int)) (r : Unit) : VS := ⟨mkA [(4, VV.c (.slice none 0 0)), (5, vi 6)], [], .nil⟩
def Qcz (a0 : X9) (a1 : (List Int)) (r : (List Int)) : VS := ⟨mkA [(6, VV.rf 1 0 r.length)], [some ⟨true, 1, Jk a0⟩, some ⟨false, 1, List.map vi r⟩], .nil⟩
def Xu (k : Nat) (a0 : X9) (a1 : (List Int)) : Nat -> (List Int) -> Int -> Option (Sum Unit (List Int))
 | 0, _, _ => none
 | fuel + 1, y1, x21 => if x21 < (a1.length : Int) then (if 0 <= x21 /\ x21 < (a1.length : Int) then (if 0 <= x21 /\ x21 < (a0.stops.length : Int) then ((Qbb k ((a0.stops.getD x21.toNat default).turns) (a1.getD x21.toNat 0)).bind fun r13585 => (if r13585 < 0 then (some (.inl ())) else (if 0 <= r13585 /\ r13585 < (((a0.stops.getD x21.toNat default).positions).length : Int) then (if 0 <= x21 /\ x21 < (y1.length : Int) then (Xu k a0 a1 fuel (y1.set x21.toNat (((a0.stops.getD x21.toNat default).positions).getD r13585.toNat 0)) (w64 (x21 + 1))) else none) else none))) else none) else none) else (some (.inr y1))
theorem Qie (k : Nat) (a0 : X9) (a1 : (List Int)) : ∀ (fuel : Nat) (y1 : List Int) (x21 : Int) (r : Sum Unit (List Int)), Xu k a0 a1 fuel y1 x21 = some r -> (match r with | .inl r => Jb none Try.prog (szF Try.f39) (Zy Try.f39 0) (Qba a0 a1 y1 x21) .ret (Qcy a0 a1 r) | .inr r => Jb none Try.prog (szF Try.f39) (Zy Try.f39 0) (Qba a0 a1 y1 x21) (.exit 0) (Qcz a0 a1 r)) := by
 intro fuel
 induction fuel with
 | zero => intro y1 x21 r h; rw [Xu.eq_1] at h; cases h
 | succ fuel ih =>
  intro y1 x21 r h
  rw [Xu.eq_2] at h
  rcases ifs h with ⟨h13580, h⟩ | ⟨h13580, h⟩
  ·obtain ⟨h13581, h⟩ := ifn h
   have e13582 := (X8 ag3 vi a1 0 h13581 rfl)
   obtain ⟨h13583, h⟩ := ifn h
   have e13584 := (show Zg Try.prog 31 (x21.toNat * 8 + 6) (flatMap Zi a0.stops) = some (VV.tr (List.map vi ((a0.stops.getD x21.toNat default).turns)) (((a0.stops.getD x21.toNat default).turns).length)) from (Qdr ag31 Zi 8 6 Qep (by omega) a0.stops default h13583 (by omega)).trans rfl)
   obtain ⟨r13585, h13586, h⟩ := bs h
   have e13587 := (Qiy k ((a0.stops.getD x21.toNat default).turns) (a1.getD x21.toNat 0) _ h13586)
   have e13588 := (t3 (an h13583 (ti (an e13584 (ti (an e13587 (ti tt)))))))
   rcases ifs h with ⟨h13589, h⟩ | ⟨h13589, h⟩
   ·obtain rfl := si h
    exact Qk (c := ⟨(tn [4, 5]), [], []⟩) (s1 := (Qcy a0 a1 ())) pm pn (ans := [.reg (.n :: []), .br true, .reg (.n :: .n :: .v (vi (a1.getD x21.toNat 0)) :: .n :: .n :: []), .reg (Q2l a0 x21 r13585), .reg (.n :: .n :: []), .br true, .reg (.n :: .n :: [])]) (by kernel_rfl) nofun (an (an (ti tt) (an (te h13580) (an (ti (an h13581 (an e13582 (t2 tt)))) (an e13588 (an (t2 tt) (an (dt h13589) (an (t2 tt) tt))))))) (ti tt))
   ·have e13590 := (show Zg Try.prog 31 (x21.toNat * 8 + 7) (flatMap Zi a0.stops) = some (VV.tr (List.map vi ((a0.stops.getD x21.toNat default).positions)) (((a0.stops.getD x21.toNat default).positions).length)) from (Qdr ag31 Zi 8 7 Qep (by omega) a0.stops default h13583 (by omega)).trans rfl)
    obtain ⟨h13591, h⟩ := ifn h
    have e13592 := (X8 ag3 vi ((a0.stops.getD x21.toNat default).positions) 0 h13591 rfl)
    obtain ⟨h13593, h⟩ := ifn h
    have e13594 := (show (0 + x21.toNat * 1) + 1 <= List.length (List.map vi y1) from (by simp only [length_map]; omega))
    have e13595 := (t5 (an h13583 (ti (an e13590 (ti (an h13591 (an e13592 (an h13593 (an e13594 tt)))))))))
    have h2 := ih _ _ _ h
    obtain ⟨q, hv, hq⟩ := pK none Try.prog Try.f39 0 (Qba a0 a1 y1 x21) [.reg (.n :: []), .br true, .reg (.n :: .n :: .v (vi (a1.getD x21.toNat 0)) :: .n :: .n :: []), .reg (Q2l a0 x21 r13585), .reg (.n :: .n :: []), .br false, .reg (Q5z a0 x21 r13585), .reg (.n :: .n :: [])] ⟨[(2, none), (6, some (VV.rf 1 0 ((y1.set x21.toNat (((a0.stops.getD x21.toNat default).positions).getD r13585.toNat 0)).length))), (19, none), (20, none), (21, none)], [none, some (List.map vi (y1.set x21.toNat (((a0.stops.getD x21.toNat default).positions).getD r13585.toNat 0)))], []⟩ .normal (Qba a0 a1 (y1.set x21.toNat (((a0.stops.getD x21.toNat default).positions).getD r13585.toNat 0)) (w64 (x21 + 1))) (an (an (ti tt) (an (te h13580) (an (an (ti (an h13581 (an e13582 (t2 tt)))) (an e13588 (an (an (t2 tt) (tf h13589)) e13595))) (t2 tt)))) (an (an (show Wv (VV.rf 1 0 y1.length) (VV.rf 1 0 ((y1.set x21.toNat (((a0.stops.getD x21.toNat default).positions).getD r13585.toNat 0)).length)) from (Wv.of_eq (by simp))) tt) (an (show putT (0 + x21.toNat * 1) (List.map vi y1) [vi (((a0.stops.getD x21.toNat default).positions).getD r13585.toNat 0)] = List.map vi (y1.set x21.toNat (((a0.stops.getD x21.toNat default).positions).getD r13585.toNat 0)) from (by exact Qkx y1 h13593 (((a0.stops.getD x21.toNat default).positions).getD r13585.toNat 0) (by omega))) tt))) (by kernel_rfl)
    cases r <;> exact Qd pm pn hv hq h2
  ·obtain rfl := si h
   exact Qk (c := ⟨[(6, none)], [none, none], []⟩) (s1 := (Qcz a0 a1 y1)) pm pn (ans := [.reg (.n :: []), .br false]) (by kernel_rfl) nofun (an (an (ti tt) (tf h13580)) (ti tt))
def Qcw (k : Nat) (a0 : X9) (a1 : (List Int)) : Option ((List Int) × Int) :=
 if (a1.length : Int) = (a0.stops.length : Int) then (if 0 <= (a1.length : Int) /\ (a1.length : Int) <= 1000000000 then ((Xu k a0 a1 k (List.replicate (a1.length : Int).toNat (0 : Int)) 0).bind fun r13597 => (match r13597 with | .inl r13598 => (some ([], 6)) | .inr r13599 => (some (r13599, 0)))) else none) else (some ([], 10))
theorem Qkh (k : Nat) (a0 : X9) (a1 : (List Int)) (r : ((List Int) × Int)) (h : Qcw k a0 a1 = some r) : VC Try.prog 39 [VV.ag (Jk a0), VV.tr (List.map vi a1) a1.length] (VV.tu [VV.fw 1 (List.map vi r.1) r.1.length, vi r.2]) := by
 unfold Qcw at h
 rcases ifs h with ⟨h13543, h⟩ | ⟨h13543, h⟩
 ·obtain ⟨h13544, h⟩ := ifn h
  have e13545 := (show 0 <= (a1.length : Int) /\ (a1.length : Int) = (a1.length : Int) /\ (8 * (a1.length : Int).toNat) <= 281474976710656 /\ (a1.length : Int) < 1099511627776 from ⟨by omega, rfl, by omega, by omega⟩)
  obtain ⟨r13597, h13596, h⟩ := bs h
  have hph13596 := Qie k a0 a1 _ _ _ _ h13596
  cases r13597 with
  | inl r13598 =>
   dsimp only at h
   have e13600 := (an (an (an (show Wv (VV.rf 1 0 ((a1.length : Int).toNat)) (VV.rf 1 0 ((List.replicate (a1.length : Int).toNat (0 : Int)).length)) from (Wv.of_eq (by simp))) tt) (an (show List.replicate (a1.length : Int).toNat (VV.c (.int .i64 0)) = List.map vi (List.replicate (a1.length : Int).toNat (0 : Int)) from Qhg _) tt)) (VRun.loop hph13596))
   obtain rfl := si h
   exact Qi pm pn Try.func39 (r0 := VV.tu [VV.c (.slice none 0 0), vi 6]) (ans := [.reg (nN 3 []), .reg (nN 6 []), .br false, .reg (nN 4 []), .reg (nN 3 []), .sub ⟨[(2, none), (6, some (VV.rf 1 0 ((List.replicate (a1.length : Int).toNat (0 : Int)).length))), (19, none), (20, none), (21, none)], [none, some (List.map vi (List.replicate (a1.length : Int).toNat (0 : Int)))], []⟩ .ret (Qcy a0 a1 r13598)]) (fr := true) (by kernel_rfl) (an (an (t3 tt) (an (an (t6 tt) (ta h13543)) (an (t2 (an e13545 (ti tt))) (an (t3 tt) e13600)))) (t2 tt)) (Wv.tuL (.cons Wv.Qmv (.cons (Wv.refl _) .nil)))
  | inr r13599 =>
   dsimp only at h
   have e13601 := (an (an (an (show Wv (VV.rf 1 0 ((a1.length : Int).toNat)) (VV.rf 1 0 ((List.replicate (a1.length : Int).toNat (0 : Int)).length)) from (Wv.of_eq (by simp))) tt) (an (show List.replicate (a1.length : Int).toNat (VV.c (.int .i64 0)) = List.map vi (List.replicate (a1.length : Int).toNat (0 : Int)) from Qhg _) tt)) (VRun.loop hph13596))
   obtain rfl := si h
   exact Qi pm pn Try.func39 (r0 := VV.tu [VV.fw 1 (List.drop 0 (List.map unfr (List.map vi r13599))) r13599.length, vi 0]) (ans := [.reg (nN 3 []), .reg (nN 6 []), .br false, .reg (nN 4 []), .reg (nN 3 []), .sub ⟨[(2, none), (6, some (VV.rf 1 0 ((List.replicate (a1.length : Int).toNat (0 : Int)).length))), (19, none), (20, none), (21, none)], [none, some (List.map vi (List.replicate (a1.length : Int).toNat (0 : Int)))], []⟩ (.exit 0) (Qcz a0 a1 r13599), .reg (nN 3 [])]) (fr := true) (by kernel_rfl) (an (an (t3 tt) (an (an (t6 tt) (ta h13543)) (an (t2 (an e13545 (ti tt))) (an (an (t3 tt) e13601) (an (t3 tt) tt))))) (an (show List.all (List.map vi r13599) new0 = true from (by exact Qj1 _)) (ti tt))) (Wv.of_eq (Q5b r13599))
 ·obtain rfl := si h
  exact Qi pm pn Try.func39 (r0 := VV.tu [VV.c (.slice none 0 0), vi 10]) (ans := [.reg (nN 3 []), .reg (nN 6 []), .br true, .reg (.n :: .n :: [])]) (fr := true) (by kernel_rfl) (an (an (t3 tt) (an (t6 tt) (an (td h13543) (an (t2 tt) tt)))) (t2 tt)) (Wv.tuL (.cons Wv.Qmv (.cons (Wv.refl _) .nil)))
def Yh (k : Nat) (a0 : Int) (a1 : Int) : Option Int :=
 (Qea k a0 a1).bind fun r13614 => (if r13614.2 = true then (some (w64 (r13614.1 + 10000000000))) else (some r13614.1))
theorem Qdl (k : Nat) (a0 : Int) (a1 : Int) (r : Int) (h : Yh k a0 a1 = some r) : VC Try.prog 40 [vi a0, vi a1] (vi r) := by
 unfold Yh at h
 obtain ⟨r13614, h13615, h⟩ := bs h
 have e13616 := (t2 (an (Qlw k a0 a1 _ h13615) (t5 tt)))
 rcases ifs h with ⟨h13617, h⟩ | ⟨h13617, h⟩
 ·obtain rfl := si h
  exact Qi pm pn Try.func40 (r0 := vi (w64 (r13614.1 + 10000000000))) (ans := [.reg (.n :: []), .reg (.n :: .n :: .call (VV.tu [vi r13614.1, vb r13614.2]) :: nN 5 []), .reg (.n :: []), .br true, .reg (nN 3 [])]) (fr := true) (by kernel_rfl) (an (an (ti tt) (an e13616 (an (ti tt) (an h13617 (an (t3 tt) tt))))) (ti tt)) (Wv.refl _)
 ·obtain rfl := si h
  exact Qi pm pn Try.func40 (r0 := vi r13614.1) (ans := [.reg (.n :: []), .reg (.n :: .n :: .call (VV.tu [vi r13614.1, vb r13614.2]) :: nN 5 []), .reg (.n :: []), .br false, .reg (.n :: .n :: [])]) (fr := true) (by kernel_rfl) (an (an (ti tt) (an e13616 (an (an (ti tt) (an (Qn h13617) tt)) (an (t2 tt) tt)))) (ti tt)) (Wv.refl _)
def Qds (r13641 : ((List Int) × Int)) (x14 : Int) (x15 : Int) (x42 : Int) : VS := ⟨mkA [(14, vi x14), (15, vi x15), (40, VV.fr (List.map vi r13641.1) r13641.1.length), (41, vi (r13641.1.length : Int)), (42, vi x42)], [], .nil⟩
def Qdc (r13641 : ((List Int) × Int)) (r : Int) : VS := ⟨mkA [(14, vi r)], [], .nil⟩
def X5 (k : Nat) (r13641 : ((List Int) × Int)) : Nat -> Int -> Int -> Int -> Option (Int)
 | 0, _, _, _ => none
 | fuel + 1, x14, x15, x42 => if x42 < (r13641.1.length : Int) then (if 0 <= x42 /\ x42 < (r13641.1.length : Int) then ((Yh k x15 (r13641.1.getD x42.toNat 0)).bind fun r13661 => (X5 k r13641 fuel (w64 (x14 + r13661)) (r13641.1.getD x42.toNat 0) (w64 (x42 + 1)))) else none) else (some x14)
theorem Qik (k : Nat) (r13641 : ((List Int) × Int)) : ∀ (fuel : Nat) (x14 : Int) (x15 : Int) (x42 : Int) (r : Int), X5 k r13641 fuel x14 x15 x42 = some r -> (Jb none Try.prog (szF Try.f13) (Zy Try.f13 0) (Qds r13641 x14 x15 x42) (.exit 0) (Qdc r13641 r)) := by
 intro fuel
 induction fuel with
 | zero => intro x14 x15 x42 r h; rw [X5.eq_1] at h; cases h
 | succ fuel ih =>
  intro x14 x15 x42 r h
  rw [X5.eq_2] at h
  rcases ifs h with ⟨h13658, h⟩ | ⟨h13658, h⟩
  ·obtain ⟨h13659, h⟩ := ifn h
   have e13660 := (X8 ag3 vi r13641.1 0 h13659 rfl)
   obtain ⟨r13661, h13662, h⟩ := bs h
   have e13663 := (Qdl k x15 (r13641.1.getD x42.toNat 0) _ h13662)
   have h2 := ih _ _ _ _ h
   obtain ⟨q, hv, hq⟩ := pK none Try.prog Try.f13 0 (Qds r13641 x14 x15 x42) [.reg (.n :: []), .br true, .reg (.n :: .v (vi (r13641.1.getD x42.toNat 0)) :: .n :: []), .reg (nN 3 (.call (vi r13661) :: .n :: .n :: [])), .reg (.n :: .n :: []), .reg (.n :: .n :: [])] ⟨(tn [14, 15, 40, 41, 42]), [], []⟩ .normal (Qds r13641 (w64 (x14 + r13661)) (r13641.1.getD x42.toNat 0) (w64 (x42 + 1))) (an (an (ti tt) (an (te h13658) (an (an (an h13659 (an e13660 (ti tt))) (an (t3 (an e13663 (t2 tt))) (t2 tt))) (t2 tt)))) (ti tt)) (by kernel_rfl)
   exact Qd pm pn hv hq h2
  ·obtain rfl := si h
   exact Qk (c := ⟨[(14, none)], [], []⟩) (s1 := (Qdc r13641 x14)) pm pn (ans := [.reg (.n :: []), .br false]) (by kernel_rfl) nofun (an (an (ti tt) (tf h13658)) (ti tt))
def Qyf (z0 : (X9 × Int × Int)) : List Ans := (nN 3 (.call (VV.tu [VV.ag (Qiz z0.1), vi z0.2.1, vi z0.2.2]) :: nN 8 []))
def Q2m (z0 : ((List Int) × Int)) : List Ans := (.n :: .n :: .call (VV.tu [VV.fr (List.map vi z0.1) z0.1.length, vi z0.2]) :: nN 5 [])
def Qb1 (k : Nat) (a0 : Qc) (a1 : (List Qa)) (a2 : A26) (a3 : (List Int)) : Option (Int × Int) :=
 (Qeq k a0 a1 a2).bind fun r13636 => (if r13636.2.2 = 0 then ((Qcw k r13636.1 a3).bind fun r13641 => (if r13641.2 = 0 then ((X5 k r13641 k 0 r13636.1.begin 0).bind fun r13665 => (some (r13665, 0))) else (some (0, r13641.2)))) else (some (0, r13636.2.2)))
theorem Qhe (k : Nat) (a0 : Qc) (a1 : (List Qa)) (a2 : A26) (a3 : (List Int)) (r : (Int × Int)) (h : Qb1 k a0 a1 a2 a3 = some r) : VC Try.prog 13 [VV.ag (Qp a0), VV.tr (flatMap Qb a1) a1.length, VV.ag (Qch a2), VV.tr (List.map vi a3) a3.length] (VV.tu [vi r.1, vi r.2]) := by
 unfold Qb1 at h
 obtain ⟨r13636, h13637, h⟩ := bs h
 have e13638 := (show VC Try.prog 26 [VV.ag (Qp a0), VV.tr (flatMap Qb a1) a1.length, VV.ag (Qch a2)] (VV.tu [VV.ag (Qiz r13636.1), vi r13636.2.1, vi r13636.2.2]) from (VC.weak (Qhl k a0 a1 a2 _ h13637) (Wv.tuL (.cons (Wv.agL (.cons (Wv.refl _) (.cons (Wv.fw rfl rfl) .nil))) (.cons (Wv.refl _) (.cons (Wv.refl _) .nil))))))
 have e13639 := (t3 (an e13638 (t8 tt)))
 rcases ifs h with ⟨h13640, h⟩ | ⟨h13640, h⟩
 ·obtain ⟨r13641, h13642, h⟩ := bs h
  have e13643 := (show VC Try.prog 39 [VV.ag (Jk r13636.1), VV.tr (List.map vi a3) a3.length] (VV.tu [VV.fr (List.map vi r13641.1) r13641.1.length, vi r13641.2]) from (VC.weak (Qkh k r13636.1 a3 _ h13642) (Wv.tuL (.cons (Wv.fw rfl rfl) (.cons (Wv.refl _) .nil)))))
  have e13644 := (t2 (an e13643 (t5 tt)))
  rcases ifs h with ⟨h13645, h⟩ | ⟨h13645, h⟩
  ·obtain ⟨r13665, h13664, h⟩ := bs h
   have hph13664 := Qik k r13641 _ _ _ _ _ h13664
   have e13666 := (an (ti tt) (VRun.loop hph13664))
   obtain rfl := si h
   exact Qi pm pn Try.func13 (r0 := VV.tu [vi r13665, vi 0]) (ans := [.reg (nN 4 []), .reg (Qyf r13636), .reg (.n :: .n :: []), .br false, .reg (Q2m r13641), .reg (.n :: .n :: []), .br false, .reg (nN 4 []), .reg (nN 3 []), .sub ⟨(tn [14, 15, 40, 41, 42]), [], []⟩ (.exit 0) (Qdc r13641 r13665), .reg (nN 3 [])]) (fr := true) (by kernel_rfl) (an (an (t4 tt) (an e13639 (an (an (t2 tt) (ta h13640)) (an e13644 (an (an (t2 tt) (ta h13645)) (an (t4 tt) (an (an (t3 tt) e13666) (an (t3 tt) tt)))))))) (t2 tt)) (Wv.refl _)
  ·obtain rfl := si h
   exact Qi pm pn Try.func13 (r0 := VV.tu [vi 0, vi r13641.2]) (ans := [.reg (nN 4 []), .reg (Qyf r13636), .reg (.n :: .n :: []), .br false, .reg (Q2m r13641), .reg (.n :: .n :: []), .br true, .reg (nN 3 [])]) (fr := true) (by kernel_rfl) (an (an (t4 tt) (an e13639 (an (an (t2 tt) (ta h13640)) (an e13644 (an (t2 tt) (an (td h13645) (an (t3 tt) tt))))))) (t2 tt)) (Wv.refl _)
 ·obtain rfl := si h
  exact Qi pm pn Try.func13 (r0 := VV.tu [vi 0, vi r13636.2.2]) (ans := [.reg (nN 4 []), .reg (Qyf r13636), .reg (.n :: .n :: []), .br true, .reg (nN 3 [])]) (fr := true) (by kernel_rfl) (an (an (t4 tt) (an e13639 (an (t2 tt) (an (td h13640) (an (t3 tt) tt))))) (t2 tt)) (Wv.refl _)
def Qb2 (a0 : (List Int)) (a1 : Int) (x5 : Int) : VS := ⟨mkA [(0, VV.tr (List.map vi a0) a0.length), (1, vi a1), (5, vi x5)], [], .nil⟩
def Qdt (a0 : (List Int)) (a1 : Int) (r : Unit) : VS := ⟨mkA [(4, vb true)], [], .nil⟩
def Ja (k : Nat) (a0 : (List Int)) (a1 : Int) : Nat -> Int -> Option (Sum Unit Unit)
 | 0, _ => none
 | fuel + 1, x5 => if x5 < (a0.length : Int) then (if 0 <= x5 /\ x5 < (a0.length : Int) then (if (a0.getD x5.toNat 0) = a1 then (some (.inl ())) else (Ja k a0 a1 fuel (w64 (x5 + 1)))) else none) else (some (.inr ()))
theorem Qi0 (k : Nat) (a0 : (List Int)) (a1 : Int) : ∀ (fuel : Nat) (x5 : Int) (r : Sum Unit Unit), Ja k a0 a1 fuel x5 = some r -> (match r with | .inl r => Jb none Try.prog (szF Try.f35) (Zy Try.f35 0) (Qb2 a0 a1 x5) .ret (Qdt a0 a1 r) | .inr r => Jb none Try.prog (szF Try.f35) (Zy Try.f35 0) (Qb2 a0 a1 x5) (.exit 0) (Qbu a0 a1 r)) := by
 intro fuel
 induction fuel with
 | zero => intro x5 r h; rw [Ja.eq_1] at h; cases h
 | succ fuel ih =>
  intro x5 r h
  rw [Ja.eq_2] at h
  rcases ifs h with ⟨h13710, h⟩ | ⟨h13710, h⟩
  ·obtain ⟨h13711, h⟩ := ifn h
   have e13712 := (X8 ag3 vi a0 0 h13711 rfl)
   have e13713 := (t2 (an h13711 (an e13712 (t2 tt))))
   rcases ifs h with ⟨h13714, h⟩ | ⟨h13714, h⟩
   ·obtain rfl := si h
    exact Qk (c := ⟨[(4, none)], [], []⟩) (s1 := (Qdt a0 a1 ())) pm pn (ans := [.reg (nN 4 []), .br true, .reg (nN 3 (.v (vi (a0.getD x5.toNat 0)) :: .n :: .n :: [])), .br true, .reg (.n :: [])]) (by kernel_rfl) nofun (an (an (an (t4 tt) (te h13710)) (an e13713 (an (dt h13714) (an (ti tt) tt)))) (ti tt))
   ·have h2 := ih _ _ h
    obtain ⟨q, hv, hq⟩ := pK none Try.prog Try.f35 0 (Qb2 a0 a1 x5) [.reg (nN 4 []), .br true, .reg (nN 3 (.v (vi (a0.getD x5.toNat 0)) :: .n :: .n :: [])), .br false, .reg (nN 3 [])] ⟨(tn [0, 1, 5]), [], []⟩ .normal (Qb2 a0 a1 (w64 (x5 + 1))) (an (an (an (t4 tt) (te h13710)) (an (an e13713 (tf h13714)) (t3 tt))) (ti tt)) (by kernel_rfl)
    cases r <;> exact Qd pm pn hv hq h2
  ·obtain rfl := si h
   exact Qk (c := ⟨[], [], []⟩) (s1 := (Qbu a0 a1 ())) pm pn (ans := [.reg (nN 4 []), .br false]) (by kernel_rfl) nofun (an (an (t4 tt) (tf h13710)) (ti tt))
def Qeb (k : Nat) (a0 : (List Int)) (a1 : Int) : Option Bool :=
 (Ja k a0 a1 k 0).bind fun r13716 => (match r13716 with | .inl r13717 => (some true) | .inr r13718 => (some false))
theorem Qlx (k : Nat) (a0 : (List Int)) (a1 : Int) (r : Bool) (h : Qeb k a0 a1 = some r) : VC Try.prog 35 [VV.tr (List.map vi a0) a0.length, vi a1] (vb r) := by
 unfold Qeb at h
 obtain ⟨r13716, h13715, h⟩ := bs h
 have hph13715 := Qi0 k a0 a1 _ _ _ h13715
 cases r13716 with
 | inl r13717 =>
  dsimp only at h
  have e13719 := (an (ti tt) (VRun.loop hph13715))
  obtain rfl := si h
  exact Qi pm pn Try.func35 (r0 := vb true) (ans := [.reg (.n :: []), .reg (.n :: []), .sub ⟨(tn [0, 1, 5]), [], []⟩ .ret (Qdt a0 a1 r13717)]) (fr := true) (by kernel_rfl) (an (w2 (ti tt) e13719) (ti tt)) (Wv.refl _)
 | inr r13718 =>
  dsimp only at h
  have e13720 := (an (ti tt) (VRun.loop hph13715))
  obtain rfl := si h
  exact Qi pm pn Try.func35 (r0 := vb false) (ans := [.reg (.n :: []), .reg (.n :: []), .sub ⟨(tn [0, 1, 5]), [], []⟩ (.exit 0) (Qbu a0 a1 r13718), .reg (.n :: [])]) (fr := true) (by kernel_rfl) (an (an (ti tt) (an (an (ti tt) e13720) (an (ti tt) tt))) (ti tt)) (Wv.refl _)
def J7 (k : Nat) (a0 : Qc) (a1 : Qa) (a2 : Int) (a3 : Int) : Option Int :=
 (Y5 k a0 a1 a2).bind fun r13734 => (some (w64 (r13734.e0 + (w64 (a3 * 1296000)))))
theorem Qdd (k : Nat) (a0 : Qc) (a1 : Qa) (a2 : Int) (a3 : Int) (r : Int) (h : J7 k a0 a1 a2 a3 = some r) : VC Try.prog 36 [VV.ag (Qp a0), VV.ag (Qb a1), vi a2, vi a3] (vi r) := by
 unfold J7 at h
 obtain ⟨r13734, h13735, h⟩ := bs h
 have e13736 := (Qfk k a0 a1 a2 _ h13735)
 have e13737 := (show (0:Int) <= 0 /\ (0:Int) < ((2 : Nat) : Int) /\ Qyg ((0:Int).toNat * 1) none [vi r13734.e0, vi r13734.e1] = some (vi r13734.e0) from ⟨by decide, by decide, rfl⟩)
 have e13738 := (t3 (an e13736 (an e13737 (t4 tt))))
 obtain rfl := si h
 exact Qi pm pn Try.func36 (r0 := vi (w64 (r13734.e0 + (w64 (a3 * 1296000))))) (ans := [.reg (nN 3 []), .reg (nN 3 (.call (VV.ag (Qch r13734)) :: .v (vi r13734.e0) :: nN 4 []))]) (fr := true) (by kernel_rfl) (an (an (t3 tt) (an e13738 tt)) (ti tt)) (Wv.refl _)
def Qfi (k : Nat) (a0 : Int) : Option Int :=
 if a0 < 0 then (some (w64 (0 - a0))) else (some a0)
theorem Qly (k : Nat) (a0 : Int) (r : Int) (h : Qfi k a0 = some r) : VC Try.prog 85 [vi a0] (vi r) := by
 unfold Qfi at h
 rcases ifs h with ⟨h13744, h⟩ | ⟨h13744, h⟩
 ·obtain rfl := si h
  exact Qi pm pn Try.func85 (r0 := vi (w64 (0 - a0))) (ans := [.reg (.n :: []), .reg (.n :: .n :: []), .br true, .reg (nN 3 [])]) (fr := true) (by kernel_rfl) (an (an (ti tt) (an (t2 tt) (an (dt h13744) (an (t3 tt) tt)))) (ti tt)) (Wv.refl _)
 ·obtain rfl := si h
  exact Qi pm pn Try.func85 (r0 := vi a0) (ans := [.reg (.n :: []), .reg (.n :: .n :: []), .br false, .reg (.n :: .n :: [])]) (fr := true) (by kernel_rfl) (an (an (ti tt) (an (an (t2 tt) (tf h13744)) (an (t2 tt) tt))) (ti tt)) (Wv.refl _)
def Qdj (k : Nat) (a0 : Int) (a1 : Int) : Option (Int × Bool) :=
 (Qfi k (w64 (a1 - a0))).bind fun r13748 => (some (r13748, decide (648000 < r13748)))
theorem Qky (k : Nat) (a0 : Int) (a1 : Int) (r : (Int × Bool)) (h : Qdj k a0 a1 = some r) : VC Try.prog 70 [vi a0, vi a1] (VV.tu [vi r.1, vb r.2]) := by
 unfold Qdj at h
 obtain ⟨r13748, h13749, h⟩ := bs h
 have e13750 := (Qly k (w64 (a1 - a0)) _ h13749)
 obtain rfl := si h
 exact Qi pm pn Try.func70 (r0 := VV.tu [vi r13748, vb (decide (648000 < r13748))]) (ans := [.reg (.n :: .n :: []), .reg (nN 3 (.call (vi r13748) :: .n :: [])), .reg (nN 5 [])]) (fr := true) (by kernel_rfl) (an (an (t2 tt) (an (t3 (an e13750 (ti tt))) (an (t5 tt) tt))) (t2 tt)) (Wv.refl _)
def Qac (k : Nat) (a0 : Int) (a1 : Int) : Option Int :=
 (Qdj k a0 a1).bind fun r13756 => (if r13756.2 = true then (some (w64 (r13756.1 + 10000000000))) else (some r13756.1))
theorem Qe2 (k : Nat) (a0 : Int) (a1 : Int) (r : Int) (h : Qac k a0 a1 = some r) : VC Try.prog 37 [vi a0, vi a1] (vi r) := by
 unfold Qac at h
 obtain ⟨r13756, h13757, h⟩ := bs h
 have e13758 := (Qky k a0 a1 _ h13757)
 have e13759 := (t2 (an e13758 (t5 tt)))
 rcases ifs h with ⟨h13760, h⟩ | ⟨h13760, h⟩
 ·obtain rfl := si h
  exact Qi pm pn Try.func37 (r0 := vi (w64 (r13756.1 + 10000000000))) (ans := [.reg (.n :: []), .reg (.n :: .n :: .call (VV.tu [vi r13756.1, vb r13756.2]) :: nN 5 []), .reg (.n :: []), .br true, .reg (nN 3 []), .reg (.n :: .n :: [])]) (fr := true) (by kernel_rfl) (an (an (ti tt) (an e13759 (an (an (ti tt) (an h13760 (t3 tt))) (an (t2 tt) tt)))) (ti tt)) (Wv.refl _)
 ·obtain rfl := si h
  exact Qi pm pn Try.func37 (r0 := vi r13756.1) (ans := [.reg (.n :: []), .reg (.n :: .n :: .call (VV.tu [vi r13756.1, vb r13756.2]) :: nN 5 []), .reg (.n :: []), .br false, .reg (.n :: .n :: [])]) (fr := true) (by kernel_rfl) (an (an (ti tt) (an e13759 (an (an (ti tt) (an (Qn h13760) tt)) (an (t2 tt) tt)))) (ti tt)) (Wv.refl _)
def Q51 (z0 : (List Qa)) (z1 : Int) (z2 : (List Int)) (z3 : Int) : List Ans := (nN 4 (.v (VV.ag (Qb (z0.getD z1.toNat default))) :: nN 5 (.v (vi (z2.getD z1.toNat 0)) :: .call (vi z3) :: .n :: [])))
def Yi (a0 : Qc) (a1 : (List Qa)) (a2 : A26) (a3 : (List Int)) (x10 : Int) (x11 : Int) (x12 : Int) : VS := ⟨mkA [(1, VV.tr (flatMap Qb a1) a1.length), (3, VV.tr (List.map vi a3) a3.length), (4, VV.pt 0 0), (6, VV.pt 1 0), (10, vi x10), (11, vi x11), (12, vi x12)], [some ⟨true, 1, Qp a0⟩, some ⟨true, 1, Qch a2⟩], .nil⟩
def Qak (a0 : Qc) (a1 : (List Qa)) (a2 : A26) (a3 : (List Int)) (r : Unit) : VS := ⟨mkA [(8, vi 0), (9, vi 6)], [], .nil⟩
def Qal (a0 : Qc) (a1 : (List Qa)) (a2 : A26) (a3 : (List Int)) (r : Int) : VS := ⟨mkA [(10, vi r)], [], .nil⟩
def Zl (k : Nat) (a0 : Qc) (a1 : (List Qa)) (a2 : A26) (a3 : (List Int)) : Nat -> Int -> Int -> Int -> Option (Sum Unit Int)
 | 0, _, _, _ => none
 | fuel + 1, x10, x11, x12 => if x12 < (a1.length : Int) then (if 0 <= x12 /\ x12 < (a1.length : Int) then ((Jv k a0 (a1.getD x12.toNat default) a2.e0).bind fun r13881 => (if 0 <= x12 /\ x12 < (a3.length : Int) then ((Qeb k r13881.1 (a3.getD x12.toNat 0)).bind fun r13887 => (if r13887 = true then ((J7 k a0 (a1.getD x12.toNat default) a2.e0 (a3.getD x12.toNat 0)).bind fun r13895 => ((Qac k x11 r13895).bind fun r13899 => (Zl k a0 a1 a2 a3 fuel (w64 (x10 + r13899)) r13895 (w64 (x12 + 1))))) else (some (.inl ())))) else none)) else none) else (some (.inr x10))
theorem Qga (k : Nat) (a0 : Qc) (a1 : (List Qa)) (a2 : A26) (a3 : (List Int)) : ∀ (fuel : Nat) (x10 : Int) (x11 : Int) (x12 : Int) (r : Sum Unit Int), Zl k a0 a1 a2 a3 fuel x10 x11 x12 = some r -> (match r with | .inl r => Jb none Try.prog (szF Try.f11) (Zy Try.f11 0) (Yi a0 a1 a2 a3 x10 x11 x12) .ret (Qak a0 a1 a2 a3 r) | .inr r => Jb none Try.prog (szF Try.f11) (Zy Try.f11 0) (Yi a0 a1 a2 a3 x10 x11 x12) (.exit 0) (Qal a0 a1 a2 a3 r)) := by
 intro fuel
 induction fuel with
 | zero => intro x10 x11 x12 r h; rw [Zl.eq_1] at h; cases h
 | succ fuel ih =>
  intro x10 x11 x12 r h
  rw [Zl.eq_2] at h
  rcases ifs h with ⟨h13877, h⟩ | ⟨h13877, h⟩
  ·obtain ⟨h13878, h⟩ := ifn h
   have e13879 := (Qbm ag52 Qb 6 sz52 Xb a1 default h13878 rfl)
   have e13880 := (show (0:Int) <= 0 /\ (0:Int) < ((2 : Nat) : Int) from ⟨by decide, by decide⟩)
   obtain ⟨r13881, h13882, h⟩ := bs h
   have e13883 := (show VC Try.prog 34 [VV.ag (Qp a0), VV.ag (Qb (a1.getD x12.toNat default)), vi a2.e0] (VV.tu [VV.fr (List.map vi r13881.1) r13881.1.length, vi r13881.2]) from (VC.weak (Qao k a0 (a1.getD x12.toNat default) a2.e0 _ h13882) (Wv.tuL (.cons (Wv.fw rfl rfl) (.cons (Wv.refl _) .nil)))))
   have e13884 := (t3 (an h13878 (an e13879 (an e13880 (ti (an e13883 (t5 tt)))))))
   obtain ⟨h13885, h⟩ := ifn h
   have e13886 := (X8 ag3 vi a3 0 h13885 rfl)
   obtain ⟨r13887, h13888, h⟩ := bs h
   have e13889 := (Qlx k r13881.1 (a3.getD x12.toNat 0) _ h13888)
   have e13890 := (t3 (an h13885 (an e13886 (an e13889 (ti tt)))))
   rcases ifs h with ⟨h13891, h⟩ | ⟨h13891, h⟩
   ·obtain ⟨r13895, h13896, h⟩ := bs h
    have e13897 := (Qdd k a0 (a1.getD x12.toNat default) a2.e0 (a3.getD x12.toNat 0) _ h13896)
    have e13898 := (t3 (an h13878 (an e13879 (an e13880 (t3 (an h13885 (an e13886 (an e13897 (ti tt)))))))))
    obtain ⟨r13899, h13900, h⟩ := bs h
    have e13901 := (Qe2 k x11 r13895 _ h13900)
    have e13902 := (t3 (an e13901 (t4 tt)))
    have h2 := ih _ _ _ _ h
    obtain ⟨q, hv, hq⟩ := pK none Try.prog Try.f11 0 (Yi a0 a1 a2 a3 x10 x11 x12) [.reg (nN 4 []), .br true, .reg (Q3d a1 x12 r13881), .reg (nN 4 (.v (vi (a3.getD x12.toNat 0)) :: .call (vb r13887) :: .n :: [])), .br false, .reg (Q51 a1 x12 a3 r13895), .reg (nN 3 (.call (vi r13899) :: nN 4 [])), .reg (nN 3 [])] ⟨(tn [1, 3, 4, 6, 10, 11, 12]), [none, none], []⟩ .normal (Yi a0 a1 a2 a3 (w64 (x10 + r13899)) r13895 (w64 (x12 + 1))) (an (an (an (t4 tt) (te h13877)) (an (an e13884 (an (an e13890 (an (Qh h13891) tt)) (an e13898 e13902))) (t3 tt))) (ti tt)) (by kernel_rfl)
    cases r <;> exact Qd pm pn hv hq h2
   ·obtain rfl := si h
    exact Qk (c := ⟨(tn [8, 9]), [], []⟩) (s1 := (Qak a0 a1 a2 a3 ())) pm pn (ans := [.reg (nN 4 []), .br true, .reg (Q3d a1 x12 r13881), .reg (nN 4 (.v (vi (a3.getD x12.toNat 0)) :: .call (vb r13887) :: .n :: [])), .br true, .reg (.n :: .n :: [])]) (by kernel_rfl) nofun (an (an (an (t4 tt) (te h13877)) (an e13884 (an e13890 (an (Qr (Qn h13891)) (an (t2 tt) tt))))) (ti tt))
  ·obtain rfl := si h
   exact Qk (c := ⟨[(10, none)], [], []⟩) (s1 := (Qal a0 a1 a2 a3 x10)) pm pn (ans := [.reg (nN 4 []), .br false]) (by kernel_rfl) nofun (an (an (t4 tt) (tf h13877)) (ti tt))
def Wh (k : Nat) (a0 : Qc) (a1 : (List Qa)) (a2 : A26) (a3 : (List Int)) : Option (Int × Int) :=
 if (a3.length : Int) = (a1.length : Int) then ((Zl k a0 a1 a2 a3 k 0 a2.e1 0).bind fun r13904 => (match r13904 with | .inl r13905 => (some (0, 6)) | .inr r13906 => (some (r13906, 0)))) else (some (0, 10))
theorem Qhm (k : Nat) (a0 : Qc) (a1 : (List Qa)) (a2 : A26) (a3 : (List Int)) (r : (Int × Int)) (h : Wh k a0 a1 a2 a3 = some r) : VC Try.prog 11 [VV.ag (Qp a0), VV.tr (flatMap Qb a1) a1.length, VV.ag (Qch a2), VV.tr (List.map vi a3) a3.length] (VV.tu [vi r.1, vi r.2]) := by
 unfold Wh at h
 rcases ifs h with ⟨h13823, h⟩ | ⟨h13823, h⟩
 ·have e13824 := (show (0:Int) <= 1 /\ (1:Int) < ((2 : Nat) : Int) from ⟨by decide, by decide⟩)
  obtain ⟨r13904, h13903, h⟩ := bs h
  have hph13903 := Qga k a0 a1 a2 a3 _ _ _ _ _ h13903
  cases r13904 with
  | inl r13905 =>
   dsimp only at h
   have e13907 := (an (ti tt) (VRun.loop hph13903))
   obtain rfl := si h
   exact Qi pm pn Try.func11 (r0 := VV.tu [vi 0, vi 6]) (ans := [.reg (nN 4 []), .reg (nN 5 []), .br false, .reg (nN 4 []), .reg (.n :: []), .sub ⟨(tn [1, 3, 4, 6, 10, 11, 12]), [none, none], []⟩ .ret (Qak a0 a1 a2 a3 r13905)]) (fr := true) (by kernel_rfl) (an (an (t4 tt) (an (an (t5 tt) (ta h13823)) (an (an e13824 (t3 tt)) (an (ti tt) e13907)))) (t2 tt)) (Wv.refl _)
  | inr r13906 =>
   dsimp only at h
   have e13908 := (an (ti tt) (VRun.loop hph13903))
   obtain rfl := si h
   exact Qi pm pn Try.func11 (r0 := VV.tu [vi r13906, vi 0]) (ans := [.reg (nN 4 []), .reg (nN 5 []), .br false, .reg (nN 4 []), .reg (.n :: []), .sub ⟨(tn [1, 3, 4, 6, 10, 11, 12]), [none, none], []⟩ (.exit 0) (Qal a0 a1 a2 a3 r13906), .reg (nN 3 [])]) (fr := true) (by kernel_rfl) (an (an (t4 tt) (an (an (t5 tt) (ta h13823)) (an (an e13824 (t3 tt)) (an (an (ti tt) e13908) (an (t3 tt) tt))))) (t2 tt)) (Wv.refl _)
 ·obtain rfl := si h
  exact Qi pm pn Try.func11 (r0 := VV.tu [vi 0, vi 10]) (ans := [.reg (nN 4 []), .reg (nN 5 []), .br true, .reg (.n :: .n :: [])]) (fr := true) (by kernel_rfl) (an (an (t4 tt) (an (t5 tt) (an (td h13823) (an (t2 tt) tt)))) (t2 tt)) (Wv.refl _)
end Go.Proofs.Ytjomicmhnbmhoaa.Vg

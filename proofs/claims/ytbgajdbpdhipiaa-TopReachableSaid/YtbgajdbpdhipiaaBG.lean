import Derived.Test.YtbgajdbpdhipiaaBC
namespace Go.Proofs.Ytbgajdbpdhipiaa.Vg
set_option maxRecDepth 100000
set_option maxHeartbeats 4000000
set_option linter.unusedVariables false
set_option linter.unusedSimpArgs false
open Go Go.Proofs.Ytbgajdbpdhipiaa.Ev Go.Proofs.Ytbgajdbpdhipiaa.Vv
open List (flatMap length_cons length_nil length_map length_append map_cons map_nil length_replicate)
structure A47 where
 e0 : Int
 e1 : Int
 e2 : Int
 deriving Inhabited
def Qtv (x : A47) : List VV := [vi x.e0, vi x.e1, vi x.e2]
theorem Qi2 (xs : List A47) : (xs.flatMap Qtv).map unfr = xs.flatMap Qtv := Qh6 (fun _ => rfl) xs
theorem Q2a (z0 : Qd) (z1 : (List Qa)) (z2 : A47) : [VV.ag (Zf z0), VV.tr (flatMap Qb z1) z1.length, VV.ag (Qdy (⟨z2.e0, z2.e1⟩ : A26))] = [VV.ag (Zf z0), VV.tr (flatMap Qb z1) z1.length, VV.ag [vi z2.e0, vi z2.e1]] := by first | rfl | (simp only [Qn, map_cons, map_nil, un_i, Ji, length_cons, length_nil, X0, Z9, Y2]; done) | (simp only [Qn, map_cons, map_nil, un_i, Ji, length_cons, length_nil, X0, Z9, Y2]; rfl) | (simp only [Qn, map_cons, map_nil, un_i, Ji, length_cons, length_nil, X0, Z9, Y2, Zf, Qb, length_cons, length_nil, length_append]; done)
theorem Q2b (z0 : A47) : [vi 0, vi 10000000, VV.tr (List.map vi ([z0.e2] : List Int)) (([z0.e2] : List Int).length)] = [vi 0, vi 10000000, VV.tr [vi z0.e2] 1] := by first | rfl | (simp only [Qn, map_cons, map_nil, un_i, Ji, length_map, length_cons, length_nil]; done) | (simp only [Qn, map_cons, map_nil, un_i, Ji, length_map, length_cons, length_nil]; rfl) | (simp only [Qn, map_cons, map_nil, un_i, Ji, length_map, length_cons, length_nil, length_cons, length_nil, length_append]; done)
def Qzr (z0 : (Xp × Int × Int)) (z1 : Int) : List Ans := (.n :: .n :: .v (VV.ag [vs (((z0.1.stops.getD z1.toNat default).SkyTarget).Name), vi (((z0.1.stops.getD z1.toNat default).SkyTarget).Azimuth), vi (((z0.1.stops.getD z1.toNat default).SkyTarget).Height), vi (((z0.1.stops.getD z1.toNat default).SkyTarget).From), vi (((z0.1.stops.getD z1.toNat default).SkyTarget).To), vi (((z0.1.stops.getD z1.toNat default).SkyTarget).Dwell), VV.tr (List.map vi ((z0.1.stops.getD z1.toNat default).turns)) (((z0.1.stops.getD z1.toNat default).turns).length), VV.tr (List.map vi ((z0.1.stops.getD z1.toNat default).positions)) (((z0.1.stops.getD z1.toNat default).positions).length)]) :: nN 3 [])
def Qzs (z0 : ((List Int) × Int)) (z1 : Int) (z2 : (Int × Bool)) : List Ans := (nN 4 (.v (vi (z0.1.getD z1.toNat 0)) :: .call (VV.tu [vi z2.1, vb z2.2]) :: nN 5 []))
def Qzt (z0 : ((List Int) × Int)) (z1 : Int) (z2 : List Int) (z3 : Int) (z4 : Int) (z5 : (Xp × Int × Int)) : List Ans := (nN 3 (.v (vi (z0.1.getD z1.toNat 0)) :: nN 3 (.v (vi ((z2.set z1.toNat (maxI (w64 (z3 + z4)) (((z5.1.stops.getD z1.toNat default).SkyTarget).From))).getD z1.toNat 0)) :: nN 6 [])))
def Qax (a0 : Qd) (a2 : A47) (r3589 : (Xp × Int × Int)) (r3599 : ((List Int) × Int)) (y3 : List Int) (x16 : Int) (x17 : Int) (x61 : Int) : VS := ⟨mkA [(4, VV.pt 0 0), (14, VV.fr (List.map vi r3599.1) r3599.1.length), (15, VV.rf 3 0 y3.length), (16, vi x16), (17, vi x17), (59, VV.fr (flatMap Zb r3589.1.stops) r3589.1.stops.length), (60, vi (r3589.1.stops.length : Int)), (61, vi x61)], [some ⟨true, 1, Zf a0⟩, some ⟨true, 1, Qtv a2⟩, some ⟨true, 1, Qcv r3589.1⟩, some ⟨false, 1, List.map vi y3⟩], .nil⟩
def Qbs (a0 : Qd) (a2 : A47) (r3589 : (Xp × Int × Int)) (r3599 : ((List Int) × Int)) (r : Int) : VS := ⟨mkA [(8, VV.c (.slice none 0 0)), (9, vi r), (10, vi 18)], [], .nil⟩
def Qbt (a0 : Qd) (a2 : A47) (r3589 : (Xp × Int × Int)) (r3599 : ((List Int) × Int)) (r : (List Int)) : VS := ⟨mkA [(15, VV.rf 3 0 r.length)], [some ⟨true, 1, Zf a0⟩, some ⟨true, 1, Qtv a2⟩, some ⟨true, 1, Qcv r3589.1⟩, some ⟨false, 1, List.map vi r⟩], .nil⟩
def X3 (k : Nat) (a0 : Qd) (a2 : A47) (r3589 : (Xp × Int × Int)) (r3599 : ((List Int) × Int)) : Nat -> (List Int) -> Int -> Int -> Int -> Option (Sum Int (List Int))
 | 0, _, _, _, _ => none
 | fuel + 1, y3, x16, x17, x61 => if x61 < (r3589.1.stops.length : Int) then (if 0 <= x61 /\ x61 < (r3589.1.stops.length : Int) then (if 0 <= x61 /\ x61 < (r3599.1.length : Int) then ((Jw k x16 (r3599.1.getD x61.toNat 0)).bind fun r3657 => ((Qee k r3657.1 a0.Speed).bind fun r3661 => (if 0 <= x61 /\ x61 < (y3.length : Int) then (if 0 <= x61 /\ x61 < ((y3.set x61.toNat (maxI (w64 (x17 + r3661)) (((r3589.1.stops.getD x61.toNat default).SkyTarget).From))).length : Int) then (if x61 < ((y3.length : Nat) : Int) then (if (((r3589.1.stops.getD x61.toNat default).SkyTarget).To) < (w64 (((y3.set x61.toNat (maxI (w64 (x17 + r3661)) (((r3589.1.stops.getD x61.toNat default).SkyTarget).From))).getD x61.toNat 0) + (((r3589.1.stops.getD x61.toNat default).SkyTarget).Dwell))) then (some (.inl x61)) else (X3 k a0 a2 r3589 r3599 fuel (y3.set x61.toNat (maxI (w64 (x17 + r3661)) (((r3589.1.stops.getD x61.toNat default).SkyTarget).From))) (r3599.1.getD x61.toNat 0) (w64 (((y3.set x61.toNat (maxI (w64 (x17 + r3661)) (((r3589.1.stops.getD x61.toNat default).SkyTarget).From))).getD x61.toNat 0) + (((r3589.1.stops.getD x61.toNat default).SkyTarget).Dwell))) (w64 (x61 + 1)))) else none) else none) else none))) else none) else none) else (some (.inr y3))
theorem Qhk (k : Nat) (a0 : Qd) (a2 : A47) (r3589 : (Xp × Int × Int)) (r3599 : ((List Int) × Int)) : ∀ (fuel : Nat) (y3 : List Int) (x16 : Int) (x17 : Int) (x61 : Int) (r : Sum Int (List Int)), X3 k a0 a2 r3589 r3599 fuel y3 x16 x17 x61 = some r -> (match r with | .inl r => J9 none Try.prog (szF Try.f13) (X9 Try.f13 0) (Qax a0 a2 r3589 r3599 y3 x16 x17 x61) .ret (Qbs a0 a2 r3589 r3599 r) | .inr r => J9 none Try.prog (szF Try.f13) (X9 Try.f13 0) (Qax a0 a2 r3589 r3599 y3 x16 x17 x61) (.exit 0) (Qbt a0 a2 r3589 r3599 r)) := by
 intro fuel
 induction fuel with
 | zero => intro y3 x16 x17 x61 r h; rw [X3.eq_1] at h; cases h
 | succ fuel ih =>
  intro y3 x16 x17 x61 r h
  rw [X3.eq_2] at h
  rcases ifs h with ⟨h3652, h⟩ | ⟨h3652, h⟩
  ·obtain ⟨h3653, h⟩ := ifn h
   have e3654 := (show Ze Try.prog 74 (x61.toNat * 8) (flatMap Zb r3589.1.stops) = some (VV.ag [vs (((r3589.1.stops.getD x61.toNat default).SkyTarget).Name), vi (((r3589.1.stops.getD x61.toNat default).SkyTarget).Azimuth), vi (((r3589.1.stops.getD x61.toNat default).SkyTarget).Height), vi (((r3589.1.stops.getD x61.toNat default).SkyTarget).From), vi (((r3589.1.stops.getD x61.toNat default).SkyTarget).To), vi (((r3589.1.stops.getD x61.toNat default).SkyTarget).Dwell), VV.tr (List.map vi ((r3589.1.stops.getD x61.toNat default).turns)) (((r3589.1.stops.getD x61.toNat default).turns).length), VV.tr (List.map vi ((r3589.1.stops.getD x61.toNat default).positions)) (((r3589.1.stops.getD x61.toNat default).positions).length)]) from Qbb ag74 Zb 8 sz74 Qay r3589.1.stops default h3653 (by omega))
   obtain ⟨h3655, h⟩ := ifn h
   have e3656 := (show Ze Try.prog 3 (x61.toNat * 1) (List.map vi r3599.1) = some (vi (r3599.1.getD x61.toNat 0)) from Xj ag3 vi r3599.1 0 h3655 (by omega))
   obtain ⟨r3657, h3658, h⟩ := bs h
   have e3659 := (Qbu k x16 (r3599.1.getD x61.toNat 0) _ h3658)
   have e3660 := (t3 (an h3655 (an e3656 (an e3659 (t5 tt)))))
   obtain ⟨r3661, h3662, h⟩ := bs h
   have e3663 := (Qjk k r3657.1 a0.Speed _ h3662)
   obtain ⟨h3664, h⟩ := ifn h
   have e3665 := (show (0 + x61.toNat * 1) + 1 <= List.length (List.map vi y3) from (by simp only [length_map]; omega))
   have e3666 := (t6 (an e3663 (t5 (an h3664 (an e3665 tt)))))
   obtain ⟨h3668, h⟩ := ifn h
   obtain ⟨h3669, h⟩ := ifn h
   have e3670 := (show 0 <= x61 /\ x61 < ((y3.length : Nat) : Int) from ⟨h3668.1, h3669⟩)
   have e3671 := (show Ze Try.prog 3 (0 + x61.toNat * 1) (putT (0 + x61.toNat * 1) (List.map vi y3) [vi (maxI (w64 (x17 + r3661)) (((r3589.1.stops.getD x61.toNat default).SkyTarget).From))]) = some (vi ((y3.set x61.toNat (maxI (w64 (x17 + r3661)) (((r3589.1.stops.getD x61.toNat default).SkyTarget).From))).getD x61.toNat 0)) from (by rw [show putT (0 + x61.toNat * 1) (List.map vi y3) [vi (maxI (w64 (x17 + r3661)) (((r3589.1.stops.getD x61.toNat default).SkyTarget).From))] = List.map vi (y3.set x61.toNat (maxI (w64 (x17 + r3661)) (((r3589.1.stops.getD x61.toNat default).SkyTarget).From))) from (by exact Qfx y3 h3664 (maxI (w64 (x17 + r3661)) (((r3589.1.stops.getD x61.toNat default).SkyTarget).From)) (by omega))]; exact Xj ag3 vi (y3.set x61.toNat (maxI (w64 (x17 + r3661)) (((r3589.1.stops.getD x61.toNat default).SkyTarget).From))) 0 h3668 (by omega)))
   have e3672 := (t2 (an h3655 (an e3656 (t2 (an e3670 (an e3671 (t6 tt)))))))
   rcases ifs h with ⟨h3673, h⟩ | ⟨h3673, h⟩
   ·injection h with h; subst h
    exact Qj (c := ⟨[(8, none), (9, none), (10, none)], [], []⟩) (s1 := (Qbs a0 a2 r3589 r3599 x61)) pm pn (ans := [.reg (.n :: []), .br true, .reg (Qzr r3589 x61), .reg (Qzs r3599 x61 r3657), .reg (nN 6 (.call (vi r3661) :: nN 7 [])), .reg (Qzt r3599 x61 y3 x17 r3661 r3589), .reg (nN 5 []), .br true, .reg (nN 4 [])]) (by kernel_rfl) (by intro e; cases e) (an (an (ti tt) (an (te h3652) (an (ti (an h3653 (an e3654 (t3 tt)))) (an e3660 (an e3666 (an e3672 (an (t5 tt) (an (dt h3673) (an (t4 tt) tt))))))))) (ti tt))
   ·have h2 := ih _ _ _ _ _ h
    obtain ⟨q, hv, hq⟩ := pkR (rd := none) (P := Try.prog) (fn := Try.f13) (k := 0) (s := (Qax a0 a2 r3589 r3599 y3 x16 x17 x61)) (ans := [.reg (.n :: []), .br true, .reg (Qzr r3589 x61), .reg (Qzs r3599 x61 r3657), .reg (nN 6 (.call (vi r3661) :: nN 7 [])), .reg (Qzt r3599 x61 y3 x17 r3661 r3589), .reg (nN 5 []), .br false, .reg (.n :: .n :: [])]) (c := ⟨[(4, none), (14, none), (15, some (VV.rf 3 0 ((y3.set x61.toNat (maxI (w64 (x17 + r3661)) (((r3589.1.stops.getD x61.toNat default).SkyTarget).From))).length))), (16, none), (17, none), (59, none), (60, none), (61, none)], [none, none, none, some (List.map vi (y3.set x61.toNat (maxI (w64 (x17 + r3661)) (((r3589.1.stops.getD x61.toNat default).SkyTarget).From))))], []⟩) (e := .normal) (s1 := (Qax a0 a2 r3589 r3599 (y3.set x61.toNat (maxI (w64 (x17 + r3661)) (((r3589.1.stops.getD x61.toNat default).SkyTarget).From))) (r3599.1.getD x61.toNat 0) (w64 (((y3.set x61.toNat (maxI (w64 (x17 + r3661)) (((r3589.1.stops.getD x61.toNat default).SkyTarget).From))).getD x61.toNat 0) + (((r3589.1.stops.getD x61.toNat default).SkyTarget).Dwell))) (w64 (x61 + 1)))) (an (an (ti tt) (an (te h3652) (an (an (ti (an h3653 (an e3654 (t3 tt)))) (an e3660 (an e3666 (an e3672 (an (t5 tt) (tf h3673)))))) (t2 tt)))) (an (an (show Wv (VV.rf 3 0 y3.length) (VV.rf 3 0 ((y3.set x61.toNat (maxI (w64 (x17 + r3661)) (((r3589.1.stops.getD x61.toNat default).SkyTarget).From))).length)) from (Wv.of_eq (by simp))) tt) (an (show putT (0 + x61.toNat * 1) (List.map vi y3) [vi (maxI (w64 (x17 + r3661)) (((r3589.1.stops.getD x61.toNat default).SkyTarget).From))] = List.map vi (y3.set x61.toNat (maxI (w64 (x17 + r3661)) (((r3589.1.stops.getD x61.toNat default).SkyTarget).From))) from (by exact Qfx y3 h3664 (maxI (w64 (x17 + r3661)) (((r3589.1.stops.getD x61.toNat default).SkyTarget).From)) (by omega))) tt))) (by kernel_rfl)
    cases r with
    | inl r => exact Qv pm pn hv hq h2
    | inr r =>
     exact Qv pm pn hv hq h2
  ·injection h with h; subst h
   exact Qj (c := ⟨[(15, none)], [none, none, none, none], []⟩) (s1 := (Qbt a0 a2 r3589 r3599 y3)) pm pn (ans := [.reg (.n :: []), .br false]) (by kernel_rfl) (by intro e; cases e) (an (an (ti tt) (tf h3652)) (ti tt))
def Qu4 (z0 : ((List Int) × Int)) : List Ans := (.n :: .n :: .call (VV.tu [VV.fr (List.map vi z0.1) z0.1.length, vi z0.2]) :: nN 5 [])
theorem Q2c (z0 : (List Int)) : VV.tu [VV.fw 1 (List.drop 0 (List.map unfr (List.map vi z0))) z0.length, vi 0, vi 0] = VV.tu [VV.fw 1 (List.map vi z0) z0.length, vi 0, vi 0] := by first | rfl | (simp only [Qdl, Qn, map_cons, map_nil, un_i, length_map, length_cons, length_nil]; done) | (simp only [Qdl, Qn, map_cons, map_nil, un_i, length_map, length_cons, length_nil]; rfl) | (simp only [Qdl, Qn, map_cons, map_nil, un_i, length_map, length_cons, length_nil, length_cons, length_nil, length_append]; done)
def Qcb (k : Nat) (a0 : Qd) (a1 : (List Qa)) (a2 : A47) (a3 : (List Int)) : Option ((List Int) × Int × Int) :=
 (Qaz k a0 a1 (⟨a2.e0, a2.e1⟩ : A26)).bind fun r3589 => (if r3589.2.2 = 0 then ((Zh k 0 10000000 ([a2.e2] : List Int)).bind fun r3595 => (if r3595 = true then ((Y9 k r3589.1 a3).bind fun r3599 => (if r3599.2 = 0 then (if 0 <= (r3599.1.length : Int) /\ (r3599.1.length : Int) <= 1000000000 then ((X3 k a0 a2 r3589 r3599 k (List.replicate (r3599.1.length : Int).toNat (0 : Int)) r3589.1.begin a2.e2 0).bind fun r3675 => (match r3675 with | .inl r3676 => (some ([], r3676, 18)) | .inr r3677 => (some (r3677, 0, 0)))) else none) else (some ([], 0, r3599.2)))) else (some ([], 0, 2)))) else (some ([], 0, r3589.2.2)))
theorem Qkl (k : Nat) (a0 : Qd) (a1 : (List Qa)) (a2 : A47) (a3 : (List Int)) (r : ((List Int) × Int × Int)) (h : Qcb k a0 a1 a2 a3 = some r) : VC Try.prog 13 [VV.ag (Zf a0), VV.tr (flatMap Qb a1) a1.length, VV.ag (Qtv a2), VV.tr (List.map vi a3) a3.length] (VV.tu [VV.fw 1 (List.map vi r.1) r.1.length, vi r.2.1, vi r.2.2]) := by
 unfold Qcb at h
 have e3587 := (show (0:Int) <= 0 /\ (0:Int) < ((3 : Nat) : Int) from ⟨by decide, by decide⟩)
 have e3588 := (show (0:Int) <= 1 /\ (1:Int) < ((3 : Nat) : Int) from ⟨by decide, by decide⟩)
 obtain ⟨r3589, h3590, h⟩ := bs h
 have e3591 := (VC.args (VC.weak (Qdm k a0 a1 (⟨a2.e0, a2.e1⟩ : A26) _ h3590) (Wv.tuL (.cons (Wv.agL (.cons (Wv.refl _) (.cons (Wv.fw rfl rfl) .nil))) (.cons (Wv.refl _) (.cons (Wv.refl _) .nil))))) (Q2a a0 a1 a2))
 have e3592 := (t2 (an e3587 (ti (an e3588 (t2 (an e3591 (t8 tt)))))))
 rcases ifs h with ⟨h3593, h⟩ | ⟨h3593, h⟩
 ·have e3594 := (show (0:Int) <= 2 /\ (2:Int) < ((3 : Nat) : Int) from ⟨by decide, by decide⟩)
  obtain ⟨r3595, h3596, h⟩ := bs h
  have e3597 := (VC.args (Zo k 0 10000000 ([a2.e2] : List Int) _ h3596) (Q2b a2))
  rcases ifs h with ⟨h3598, h⟩ | ⟨h3598, h⟩
  ·obtain ⟨r3599, h3600, h⟩ := bs h
   have e3601 := (show VC Try.prog 23 [VV.ag (Xi r3589.1), VV.tr (List.map vi a3) a3.length] (VV.tu [VV.fr (List.map vi r3599.1) r3599.1.length, vi r3599.2]) from (VC.weak (Qgh k r3589.1 a3 _ h3600) (Wv.tuL (.cons (Wv.fw rfl rfl) (.cons (Wv.refl _) .nil)))))
   have e3602 := (t2 (an e3601 (t5 tt)))
   rcases ifs h with ⟨h3603, h⟩ | ⟨h3603, h⟩
   ·obtain ⟨h3604, h⟩ := ifn h
    have e3605 := (show 0 <= (r3599.1.length : Int) /\ (r3599.1.length : Int) = (r3599.1.length : Int) /\ (8 * (r3599.1.length : Int).toNat) <= 281474976710656 /\ (r3599.1.length : Int) < 1099511627776 from ⟨by omega, rfl, by omega, by omega⟩)
    obtain ⟨r3675, h3674, h⟩ := bs h
    have hph3674 := Qhk k a0 a2 r3589 r3599 _ _ _ _ _ _ h3674
    cases r3675 with
    | inl r3676 =>
     dsimp only at h
     have e3678 := (an (an (an (show Wv (VV.rf 3 0 ((r3599.1.length : Int).toNat)) (VV.rf 3 0 ((List.replicate (r3599.1.length : Int).toNat (0 : Int)).length)) from (Wv.of_eq (by simp))) tt) (an (show List.replicate (r3599.1.length : Int).toNat (VV.c (.int .i64 0)) = List.map vi (List.replicate (r3599.1.length : Int).toNat (0 : Int)) from Qbe _) tt)) (VRun.loop hph3674))
     injection h with h; subst h
     exact Qo pm pn Try.func13 (r0 := VV.tu [VV.c (.slice none 0 0), vi r3676, vi 18]) (ans := [.reg (nN 5 []), .reg (nN 7 (.call (VV.tu [VV.ag (Qcv r3589.1), vi r3589.2.1, vi r3589.2.2]) :: nN 8 [])), .reg (.n :: .n :: []), .br false, .reg (.n :: .n :: .v VV.any :: .call (vb r3595) :: .n :: []), .br false, .reg (Qu4 r3599), .reg (.n :: .n :: []), .br false, .reg (nN 4 []), .reg (nN 6 []), .reg (nN 4 []), .sub ⟨[(4, none), (14, none), (15, some (VV.rf 3 0 ((List.replicate (r3599.1.length : Int).toNat (0 : Int)).length))), (16, none), (17, none), (59, none), (60, none), (61, none)], [none, none, none, some (List.map vi (List.replicate (r3599.1.length : Int).toNat (0 : Int)))], []⟩ .ret (Qbs a0 a2 r3589 r3599 r3676)]) (fr := true) (by kernel_rfl) (an (an (t5 tt) (an e3592 (an (an (t2 tt) (ta h3593)) (an (an (an e3594 (t2 (an e3597 (ti tt)))) (an (Qi h3598) tt)) (an e3602 (an (an (t2 tt) (ta h3603)) (an (t2 (an e3605 (ti tt))) (an (t2 (an e3594 (t3 tt))) (an (t4 tt) e3678))))))))) (t3 tt)) (Wv.tuL (.cons Wv.Qhu (.cons (Wv.refl _) (.cons (Wv.refl _) .nil))))
    | inr r3677 =>
     dsimp only at h
     have e3679 := (an (an (an (show Wv (VV.rf 3 0 ((r3599.1.length : Int).toNat)) (VV.rf 3 0 ((List.replicate (r3599.1.length : Int).toNat (0 : Int)).length)) from (Wv.of_eq (by simp))) tt) (an (show List.replicate (r3599.1.length : Int).toNat (VV.c (.int .i64 0)) = List.map vi (List.replicate (r3599.1.length : Int).toNat (0 : Int)) from Qbe _) tt)) (VRun.loop hph3674))
     injection h with h; subst h
     exact Qo pm pn Try.func13 (r0 := VV.tu [VV.fw 1 (List.drop 0 (List.map unfr (List.map vi r3677))) r3677.length, vi 0, vi 0]) (ans := [.reg (nN 5 []), .reg (nN 7 (.call (VV.tu [VV.ag (Qcv r3589.1), vi r3589.2.1, vi r3589.2.2]) :: nN 8 [])), .reg (.n :: .n :: []), .br false, .reg (.n :: .n :: .v VV.any :: .call (vb r3595) :: .n :: []), .br false, .reg (Qu4 r3599), .reg (.n :: .n :: []), .br false, .reg (nN 4 []), .reg (nN 6 []), .reg (nN 4 []), .sub ⟨[(4, none), (14, none), (15, some (VV.rf 3 0 ((List.replicate (r3599.1.length : Int).toNat (0 : Int)).length))), (16, none), (17, none), (59, none), (60, none), (61, none)], [none, none, none, some (List.map vi (List.replicate (r3599.1.length : Int).toNat (0 : Int)))], []⟩ (.exit 0) (Qbt a0 a2 r3589 r3599 r3677), .reg (nN 4 [])]) (fr := true) (by kernel_rfl) (an (an (t5 tt) (an e3592 (an (an (t2 tt) (ta h3593)) (an (an (an e3594 (t2 (an e3597 (ti tt)))) (an (Qi h3598) tt)) (an e3602 (an (an (t2 tt) (ta h3603)) (an (t2 (an e3605 (ti tt))) (an (t2 (an e3594 (t3 tt))) (an (an (t4 tt) e3679) (an (t4 tt) tt)))))))))) (an (show List.all (List.map vi r3677) new0 = true from (by exact Qgm _)) (t2 tt))) (Wv.of_eq (Q2c r3677))
   ·injection h with h; subst h
    exact Qo pm pn Try.func13 (r0 := VV.tu [VV.c (.slice none 0 0), vi 0, vi r3599.2]) (ans := [.reg (nN 5 []), .reg (nN 7 (.call (VV.tu [VV.ag (Qcv r3589.1), vi r3589.2.1, vi r3589.2.2]) :: nN 8 [])), .reg (.n :: .n :: []), .br false, .reg (.n :: .n :: .v VV.any :: .call (vb r3595) :: .n :: []), .br false, .reg (Qu4 r3599), .reg (.n :: .n :: []), .br true, .reg (nN 4 [])]) (fr := true) (by kernel_rfl) (an (an (t5 tt) (an e3592 (an (an (t2 tt) (ta h3593)) (an (an (an e3594 (t2 (an e3597 (ti tt)))) (an (Qi h3598) tt)) (an e3602 (an (t2 tt) (an (td h3603) (an (t4 tt) tt)))))))) (t3 tt)) (Wv.tuL (.cons Wv.Qhu (.cons (Wv.refl _) (.cons (Wv.refl _) .nil))))
  ·injection h with h; subst h
   exact Qo pm pn Try.func13 (r0 := VV.tu [VV.c (.slice none 0 0), vi 0, vi 2]) (ans := [.reg (nN 5 []), .reg (nN 7 (.call (VV.tu [VV.ag (Qcv r3589.1), vi r3589.2.1, vi r3589.2.2]) :: nN 8 [])), .reg (.n :: .n :: []), .br false, .reg (.n :: .n :: .v VV.any :: .call (vb r3595) :: .n :: []), .br true, .reg (nN 3 [])]) (fr := true) (by kernel_rfl) (an (an (t5 tt) (an e3592 (an (an (t2 tt) (ta h3593)) (an (an e3594 (t2 (an e3597 (ti tt)))) (an (Qq (Qy h3598)) (an (t3 tt) tt)))))) (t3 tt)) (Wv.tuL (.cons Wv.Qhu (.cons (Wv.refl _) (.cons (Wv.refl _) .nil))))
 ·injection h with h; subst h
  exact Qo pm pn Try.func13 (r0 := VV.tu [VV.c (.slice none 0 0), vi 0, vi r3589.2.2]) (ans := [.reg (nN 5 []), .reg (nN 7 (.call (VV.tu [VV.ag (Qcv r3589.1), vi r3589.2.1, vi r3589.2.2]) :: nN 8 [])), .reg (.n :: .n :: []), .br true, .reg (nN 4 [])]) (fr := true) (by kernel_rfl) (an (an (t5 tt) (an e3592 (an (t2 tt) (an (td h3593) (an (t4 tt) tt))))) (t3 tt)) (Wv.tuL (.cons Wv.Qhu (.cons (Wv.refl _) (.cons (Wv.refl _) .nil))))
def Y3 (k : Nat) (a0 : Qd) (a1 : Qa) (a2 : Int) : Option Int :=
 (Y4 k a0).bind fun r3691 => (if r3691 = 0 then ((Yj k a1).bind fun r3695 => (if r3695 = 0 then ((Wh k a2).bind fun r3699 => (some r3699)) else (some r3695))) else (some r3691))
theorem Qdr (k : Nat) (a0 : Qd) (a1 : Qa) (a2 : Int) (r : Int) (h : Y3 k a0 a1 a2 = some r) : VC Try.prog 33 [VV.ag (Zf a0), VV.ag (Qb a1), vi a2] (vi r) := by
 unfold Y3 at h
 obtain ⟨r3691, h3692, h⟩ := bs h
 have e3693 := (ti (an (Qds k a0 _ h3692) (ti tt)))
 rcases ifs h with ⟨h3694, h⟩ | ⟨h3694, h⟩
 ·obtain ⟨r3695, h3696, h⟩ := bs h
  have e3697 := (ti (an (Qde k a1 _ h3696) (ti tt)))
  rcases ifs h with ⟨h3698, h⟩ | ⟨h3698, h⟩
  ·obtain ⟨r3699, h3700, h⟩ := bs h
   have e3701 := (ti (an (Qeu k a2 _ h3700) (ti tt)))
   injection h with h; subst h
   exact Qo pm pn Try.func33 (r0 := vi r3699) (ans := [.reg (nN 3 []), .reg (.n :: .call (vi r3691) :: .n :: []), .reg (.n :: .n :: []), .br false, .reg (.n :: .call (vi r3695) :: .n :: []), .reg (.n :: .n :: []), .br false, .reg (.n :: .call (vi r3699) :: .n :: [])]) (fr := true) (by kernel_rfl) (an (an (t3 tt) (an (an e3693 (an (t2 tt) (ta h3694))) (an (an e3697 (an (t2 tt) (ta h3698))) (an e3701 tt)))) (ti tt)) (Wv.refl _)
  ·injection h with h; subst h
   exact Qo pm pn Try.func33 (r0 := vi r3695) (ans := [.reg (nN 3 []), .reg (.n :: .call (vi r3691) :: .n :: []), .reg (.n :: .n :: []), .br false, .reg (.n :: .call (vi r3695) :: .n :: []), .reg (.n :: .n :: []), .br true, .reg (.n :: .n :: [])]) (fr := true) (by kernel_rfl) (an (an (t3 tt) (an (an e3693 (an (t2 tt) (ta h3694))) (an e3697 (an (t2 tt) (an (td h3698) (an (t2 tt) tt)))))) (ti tt)) (Wv.refl _)
 ·injection h with h; subst h
  exact Qo pm pn Try.func33 (r0 := vi r3691) (ans := [.reg (nN 3 []), .reg (.n :: .call (vi r3691) :: .n :: []), .reg (.n :: .n :: []), .br true, .reg (.n :: .n :: [])]) (fr := true) (by kernel_rfl) (an (an (t3 tt) (an e3693 (an (t2 tt) (an (td h3694) (an (t2 tt) tt))))) (ti tt)) (Wv.refl _)
def Qbf (k : Nat) (a0 : Qd) (a1 : Qa) (a2 : Int) : Option ((List Int) × Int) :=
 (Y3 k a0 a1 a2).bind fun r3710 => (if r3710 = 0 then ((Qbo k a0 a1 a2).bind fun r3714 => (some (r3714.1.turns, r3714.2))) else (some ([], r3710)))
theorem Qef (k : Nat) (a0 : Qd) (a1 : Qa) (a2 : Int) (r : ((List Int) × Int)) (h : Qbf k a0 a1 a2 = some r) : VC Try.prog 14 [VV.ag (Zf a0), VV.ag (Qb a1), vi a2] (VV.tu [VV.fr (List.map vi r.1) r.1.length, vi r.2]) := by
 unfold Qbf at h
 obtain ⟨r3710, h3711, h⟩ := bs h
 have e3712 := (Qdr k a0 a1 a2 _ h3711)
 rcases ifs h with ⟨h3713, h⟩ | ⟨h3713, h⟩
 ·obtain ⟨r3714, h3715, h⟩ := bs h
  have e3716 := (show VC Try.prog 34 [VV.ag (Zf a0), VV.ag (Qb a1), vi a2] (VV.tu [VV.ag (Qac r3714.1), vi r3714.2]) from (VC.weak (Qgd k a0 a1 a2 _ h3715) (Wv.tuL (.cons (Wv.agL (.cons (Wv.refl _) (.cons (Wv.refl _) (.cons (Wv.refl _) (.cons (Wv.refl _) (.cons (Wv.refl _) (.cons (Wv.refl _) (.cons (Wv.fw rfl rfl) (.cons (Wv.fw rfl rfl) .nil))))))))) (.cons (Wv.refl _) .nil)))))
  have e3717 := (t3 (an e3716 (t6 tt)))
  injection h with h; subst h
  exact Qo pm pn Try.func14 (r0 := VV.tu [VV.fr (List.map vi r3714.1.turns) r3714.1.turns.length, vi r3714.2]) (ans := [.reg (nN 4 []), .reg (nN 3 (.call (vi r3710) :: .n :: [])), .reg (.n :: .n :: []), .br false, .reg (nN 3 (.call (VV.tu [VV.ag (Qac r3714.1), vi r3714.2]) :: nN 6 [])), .reg (nN 5 [])]) (fr := true) (by kernel_rfl) (an (an (t4 tt) (an (an (t3 (an e3712 (ti tt))) (an (t2 tt) (ta h3713))) (an e3717 (an (t5 tt) tt)))) (t2 tt)) (Wv.refl _)
 ·injection h with h; subst h
  exact Qo pm pn Try.func14 (r0 := VV.tu [VV.c (.slice none 0 0), vi r3710]) (ans := [.reg (nN 4 []), .reg (nN 3 (.call (vi r3710) :: .n :: [])), .reg (.n :: .n :: []), .br true, .reg (nN 3 [])]) (fr := true) (by kernel_rfl) (an (an (t4 tt) (an (t3 (an e3712 (ti tt))) (an (t2 tt) (an (td h3713) (an (t3 tt) tt))))) (t2 tt)) (Wv.tuL (.cons Wv.Q0n (.cons (Wv.refl _) .nil)))
def Qa5 (k : Nat) (a0 : Qd) (a1 : (List Qa)) (a2 : A26) : Option (Int × Int) :=
 (Qaz k a0 a1 a2).bind fun r3722 => (some (r3722.2.1, r3722.2.2))
theorem Qhv (k : Nat) (a0 : Qd) (a1 : (List Qa)) (a2 : A26) (r : (Int × Int)) (h : Qa5 k a0 a1 a2 = some r) : VC Try.prog 12 [VV.ag (Zf a0), VV.tr (flatMap Qb a1) a1.length, VV.ag (Qdy a2)] (VV.tu [vi r.1, vi r.2]) := by
 unfold Qa5 at h
 obtain ⟨r3722, h3723, h⟩ := bs h
 have e3724 := (show VC Try.prog 22 [VV.ag (Zf a0), VV.tr (flatMap Qb a1) a1.length, VV.ag (Qdy a2)] (VV.tu [VV.ag (Qcv r3722.1), vi r3722.2.1, vi r3722.2.2]) from (VC.weak (Qdm k a0 a1 a2 _ h3723) (Wv.tuL (.cons (Wv.agL (.cons (Wv.refl _) (.cons (Wv.fw rfl rfl) .nil))) (.cons (Wv.refl _) (.cons (Wv.refl _) .nil))))))
 have e3725 := (t3 (an e3724 (t8 tt)))
 injection h with h; subst h
 exact Qo pm pn Try.func12 (r0 := VV.tu [vi r3722.2.1, vi r3722.2.2]) (ans := [.reg (nN 4 []), .reg (nN 3 (.call (VV.tu [VV.ag (Qcv r3722.1), vi r3722.2.1, vi r3722.2.2]) :: nN 8 [])), .reg (nN 4 [])]) (fr := true) (by kernel_rfl) (an (an (t4 tt) (an e3725 (an (t4 tt) tt))) (t2 tt)) (Wv.refl _)
theorem Q2d (z0 : Int) : VV.tu [VV.ag [vi 0, vi 0], vi z0] = VV.tu [VV.ag (Qdy (⟨0, 0⟩ : A26)), vi z0] := by first | rfl | (simp only [Qn, map_cons, map_nil, un_i, Y2]; done) | (simp only [Qn, map_cons, map_nil, un_i, Y2]; rfl) | (simp only [Qn, map_cons, map_nil, un_i, Y2, length_cons, length_nil, length_append]; done)
def Wi (k : Nat) (a0 : Qd) (a1 : Qa) (a2 : Int) : Option (A26 × Int) :=
 (Y3 k a0 a1 a2).bind fun r3733 => (if r3733 = 0 then ((Qap k a0 a1 a2).bind fun r3737 => (some (r3737, 0))) else (some ((⟨0, 0⟩ : A26), r3733)))
theorem Qcf (k : Nat) (a0 : Qd) (a1 : Qa) (a2 : Int) (r : (A26 × Int)) (h : Wi k a0 a1 a2 = some r) : VC Try.prog 15 [VV.ag (Zf a0), VV.ag (Qb a1), vi a2] (VV.tu [VV.ag (Qdy r.1), vi r.2]) := by
 unfold Wi at h
 obtain ⟨r3733, h3734, h⟩ := bs h
 have e3735 := (Qdr k a0 a1 a2 _ h3734)
 rcases ifs h with ⟨h3736, h⟩ | ⟨h3736, h⟩
 ·obtain ⟨r3737, h3738, h⟩ := bs h
  have e3739 := (t3 (an (Qev k a0 a1 a2 _ h3738) (t2 tt)))
  injection h with h; subst h
  exact Qo pm pn Try.func15 (r0 := VV.tu [VV.ag (Qdy r3737), vi 0]) (ans := [.reg (nN 4 []), .reg (nN 3 (.call (vi r3733) :: .n :: [])), .reg (.n :: .n :: []), .br false, .reg (nN 3 (.call (VV.ag (Qdy r3737)) :: .n :: .n :: []))]) (fr := true) (by kernel_rfl) (an (an (t4 tt) (an (an (t3 (an e3735 (ti tt))) (an (t2 tt) (ta h3736))) (an e3739 tt))) (an (t3 tt) (ti tt))) (Wv.refl _)
 ·injection h with h; subst h
  exact Qo pm pn Try.func15 (r0 := VV.tu [VV.ag [vi 0, vi 0], vi r3733]) (ans := [.reg (nN 4 []), .reg (nN 3 (.call (vi r3733) :: .n :: [])), .reg (.n :: .n :: []), .br true, .reg (nN 4 [])]) (fr := true) (by kernel_rfl) (an (an (t4 tt) (an (t3 (an e3735 (ti tt))) (an (t2 tt) (an (td h3736) (an (t4 tt) tt))))) (an (t3 tt) (ti tt))) (Wv.of_eq (Q2d r3733))
def Yk (a0 : (List Int)) (a1 : Int) (x5 : Int) : VS := ⟨mkA [(0, VV.tr (List.map vi a0) a0.length), (1, vi a1), (5, vi x5)], [], .nil⟩
def Qaj (a0 : (List Int)) (a1 : Int) (r : Unit) : VS := ⟨mkA [(4, vb true)], [], .nil⟩
def Xb (k : Nat) (a0 : (List Int)) (a1 : Int) : Nat -> Int -> Option (Sum Unit Unit)
 | 0, _ => none
 | fuel + 1, x5 => if x5 < (a0.length : Int) then (if 0 <= x5 /\ x5 < (a0.length : Int) then (if (a0.getD x5.toNat 0) = a1 then (some (.inl ())) else (Xb k a0 a1 fuel (w64 (x5 + 1)))) else none) else (some (.inr ()))
theorem Qe3 (k : Nat) (a0 : (List Int)) (a1 : Int) : ∀ (fuel : Nat) (x5 : Int) (r : Sum Unit Unit), Xb k a0 a1 fuel x5 = some r -> (match r with | .inl r => J9 none Try.prog (szF Try.f16) (X9 Try.f16 0) (Yk a0 a1 x5) .ret (Qaj a0 a1 r) | .inr r => J9 none Try.prog (szF Try.f16) (X9 Try.f16 0) (Yk a0 a1 x5) (.exit 0) (Yd a0 a1 r)) := by
 intro fuel
 induction fuel with
 | zero => intro x5 r h; rw [Xb.eq_1] at h; cases h
 | succ fuel ih =>
  intro x5 r h
  rw [Xb.eq_2] at h
  rcases ifs h with ⟨h3766, h⟩ | ⟨h3766, h⟩
  ·obtain ⟨h3767, h⟩ := ifn h
   have e3768 := (show Ze Try.prog 3 (x5.toNat * 1) (List.map vi a0) = some (vi (a0.getD x5.toNat 0)) from Xj ag3 vi a0 0 h3767 (by omega))
   rcases ifs h with ⟨h3769, h⟩ | ⟨h3769, h⟩
   ·injection h with h; subst h
    exact Qj (c := ⟨[(4, none)], [], []⟩) (s1 := (Qaj a0 a1 ())) pm pn (ans := [.reg (nN 4 []), .br true, .reg (nN 3 (.v (vi (a0.getD x5.toNat 0)) :: .n :: .n :: [])), .br true, .reg (.n :: [])]) (by kernel_rfl) (by intro e; cases e) (an (an (an (t4 tt) (te h3766)) (an (t2 (an h3767 (an e3768 (t2 tt)))) (an (dt h3769) (an (ti tt) tt)))) (ti tt))
   ·have h2 := ih _ _ h
    obtain ⟨q, hv, hq⟩ := pkR (rd := none) (P := Try.prog) (fn := Try.f16) (k := 0) (s := (Yk a0 a1 x5)) (ans := [.reg (nN 4 []), .br true, .reg (nN 3 (.v (vi (a0.getD x5.toNat 0)) :: .n :: .n :: [])), .br false, .reg (nN 3 [])]) (c := ⟨[(0, none), (1, none), (5, none)], [], []⟩) (e := .normal) (s1 := (Yk a0 a1 (w64 (x5 + 1)))) (an (an (an (t4 tt) (te h3766)) (an (an (t2 (an h3767 (an e3768 (t2 tt)))) (tf h3769)) (t3 tt))) (ti tt)) (by kernel_rfl)
    cases r with
    | inl r => exact Qv pm pn hv hq h2
    | inr r =>
     exact Qv pm pn hv hq h2
  ·injection h with h; subst h
   exact Qj (c := ⟨[], [], []⟩) (s1 := (Yd a0 a1 ())) pm pn (ans := [.reg (nN 4 []), .br false]) (by kernel_rfl) (by intro e; cases e) (an (an (t4 tt) (tf h3766)) (ti tt))
def Jy (k : Nat) (a0 : (List Int)) (a1 : Int) : Option Bool :=
 (Xb k a0 a1 k 0).bind fun r3771 => (match r3771 with | .inl r3772 => (some true) | .inr r3773 => (some false))
theorem Qbv (k : Nat) (a0 : (List Int)) (a1 : Int) (r : Bool) (h : Jy k a0 a1 = some r) : VC Try.prog 16 [VV.tr (List.map vi a0) a0.length, vi a1] (vb r) := by
 unfold Jy at h
 obtain ⟨r3771, h3770, h⟩ := bs h
 have hph3770 := Qe3 k a0 a1 _ _ _ h3770
 cases r3771 with
 | inl r3772 =>
  dsimp only at h
  have e3774 := (an (ti tt) (VRun.loop hph3770))
  injection h with h; subst h
  exact Qo pm pn Try.func16 (r0 := vb true) (ans := [.reg (.n :: []), .reg (.n :: []), .sub ⟨[(0, none), (1, none), (5, none)], [], []⟩ .ret (Qaj a0 a1 r3772)]) (fr := true) (by kernel_rfl) (an (u2 (ti tt) e3774) (ti tt)) (Wv.refl _)
 | inr r3773 =>
  dsimp only at h
  have e3775 := (an (ti tt) (VRun.loop hph3770))
  injection h with h; subst h
  exact Qo pm pn Try.func16 (r0 := vb false) (ans := [.reg (.n :: []), .reg (.n :: []), .sub ⟨[(0, none), (1, none), (5, none)], [], []⟩ (.exit 0) (Yd a0 a1 r3773), .reg (.n :: [])]) (fr := true) (by kernel_rfl) (an (an (ti tt) (an (an (ti tt) e3775) (an (ti tt) tt))) (ti tt)) (Wv.refl _)
theorem Jg (k : Nat) (a0 : Int) (a1 : Int) (r : Int) (h : Qee k a0 a1 = some r) : VC Try.prog 18 [vi a0, vi a1] (vi r) := by
 unfold Qee at h
 obtain ⟨r3779, h3780, h⟩ := bs h
 have e3781 := (Qgi k (w64 (0 - a0)) a1 _ h3780)
 injection h with h; subst h
 exact Qo pm pn Try.func18 (r0 := vi (w64 (0 - r3779))) (ans := [.reg (.n :: []), .reg (nN 3 (.call (vi r3779) :: .n :: .n :: []))]) (fr := true) (by kernel_rfl) (an (an (ti tt) (an (t3 (an e3781 (t2 tt))) tt)) (ti tt)) (Wv.refl _)
end Go.Proofs.Ytbgajdbpdhipiaa.Vg

import Derived.Test.YtenebnfhhhcfaaaG3
namespace Go.Proofs.Ytenebnfhhhcfaaa.Vg
set_option maxRecDepth 100000
set_option maxHeartbeats 4000000
set_option linter.unusedVariables false
set_option linter.unusedSimpArgs false
open Go Go.Proofs.Ytenebnfhhhcfaaa.Ev Go.Proofs.Ytenebnfhhhcfaaa.Vv
open List (flatMap length_cons length_nil length_map length_append map_cons map_nil length_replicate)
theorem ag62 : Y2 Try.prog 62 = some true := by kernel_rfl
theorem sz62 : szOf Try.prog 62 = some 2 := by kernel_rfl
theorem Qvh (z0 : Int) (z1 : (List Int)) (z2 : Int) : [VV.ag (Zm (⟨z0, z1⟩ : Jy)), vi z2] = [VV.ag [vi z0, VV.tr (List.map vi z1) z1.length], vi z2] := by first | rfl | (simp only [Xc, map_cons, map_nil, un_i, Qck, length_map, length_cons, length_nil, Xf]; done) | (simp only [Xc, map_cons, map_nil, un_i, Qck, length_map, length_cons, length_nil, Xf]; rfl) | (simp only [Xc, map_cons, map_nil, un_i, Qck, length_map, length_cons, length_nil, Xf, Zm, length_cons, length_nil, length_append]; done)
def Qvi (z0 : Int) (z1 : (List Int)) (z2 : Bool) : List Ans := (.v (VV.ag [vi z0, VV.tr (List.map vi z1) z1.length]) :: .n :: .call (vb z2) :: .n :: .n :: [])
def Xe (k : Nat) (a0 : Int) (q0_0 : Int) (q0_1 : (List Int)) : Option Bool :=
 (Za k (⟨q0_0, q0_1⟩ : Jy) a0).bind fun r473 => (some (!r473))
theorem Qaz (k : Nat) (a0 : Int) (q0_0 : Int) (q0_1 : (List Int)) (r : Bool) (h : Xe k a0 q0_0 q0_1 = some r) : VC Try.prog 44 [vi a0, VV.tp [vi q0_0, VV.tr (List.map vi q0_1) q0_1.length] 0] (vb r) := by
 unfold Xe at h
 have e472 := (show Jz Try.prog 62 0 [vi q0_0, VV.tr (List.map vi q0_1) q0_1.length] = some (VV.ag [vi q0_0, VV.tr (List.map vi q0_1) q0_1.length]) from (Quu ag62 sz62 rfl))
 obtain ⟨r473, h474, h⟩ := bs h
 have e475 := (VC.args (Qv k (⟨q0_0, q0_1⟩ : Jy) a0 _ h474) (Qvh q0_0 q0_1 a0))
 injection h with h; subst h
 exact Qq pm pn Try.func44 (r0 := vb (!r473)) (ans := [.reg (.n :: []), .reg (Qvi q0_0 q0_1 r473)]) (fr := true) (by kernel_rfl) (an (an (ti tt) (an (an e472 (ti (an e475 (t2 tt)))) tt)) (ti tt)) (Wv.refl _)
def Qm (a0 : (List Int)) (a1 : (Int × (List Int))) (x8 : Int) : VS := ⟨mkA [(0, VV.tr (List.map vi a0) a0.length), (1, VV.fn 44 [VV.tp [vi a1.1, VV.tr (List.map vi a1.2) a1.2.length] 0]), (7, vi (a0.length : Int)), (8, vi x8)], [], .nil⟩
def Qy (a0 : (List Int)) (a1 : (Int × (List Int))) (r : Int) : VS := ⟨mkA [(4, vi r)], [], .nil⟩
def Qz (a0 : (List Int)) (a1 : (Int × (List Int))) (r : Unit) : VS := ⟨mkA [], [], .nil⟩
def Qd (k : Nat) (a0 : (List Int)) (a1 : (Int × (List Int))) : Nat -> Int -> Option (Sum Int Unit)
 | 0, _ => none
 | fuel + 1, x8 => if x8 < (a0.length : Int) then (if 0 <= x8 /\ x8 < (a0.length : Int) then ((Xe k (a0.getD x8.toNat 0) a1.1 a1.2).bind fun r522 => (if r522 = true then (some (.inl x8)) else (Qd k a0 a1 fuel (w64 (x8 + 1))))) else none) else (some (.inr ()))
theorem Xn (k : Nat) (a0 : (List Int)) (a1 : (Int × (List Int))) : ∀ (fuel : Nat) (x8 : Int) (r : Sum Int Unit), Qd k a0 a1 fuel x8 = some r -> (match r with | .inl r => Yo none Try.prog (szF Try.f60) (Yr Try.f60 0) (Qm a0 a1 x8) .ret (Qy a0 a1 r) | .inr r => Yo none Try.prog (szF Try.f60) (Yr Try.f60 0) (Qm a0 a1 x8) (.exit 0) (Qz a0 a1 r)) := by
 intro fuel
 induction fuel with
 | zero => intro x8 r h; rw [Qd.eq_1] at h; cases h
 | succ fuel ih =>
  intro x8 r h
  rw [Qd.eq_2] at h
  rcases ifs h with ⟨h519, h⟩ | ⟨h519, h⟩
  ·obtain ⟨h520, h⟩ := ifn h
   have e521 := (show Jz Try.prog 3 (x8.toNat * 1) (List.map vi a0) = some (vi (a0.getD x8.toNat 0)) from Qa3 ag3 vi a0 0 h520 (by omega))
   obtain ⟨r522, h523, h⟩ := bs h
   have e524 := (Qaz k (a0.getD x8.toNat 0) a1.1 a1.2 _ h523)
   have e525 := (t3 (an h520 (an e521 (an e524 tt))))
   rcases ifs h with ⟨h526, h⟩ | ⟨h526, h⟩
   ·injection h with h; subst h
    exact Xz (c := ⟨[(4, none)], [], []⟩) (s1 := (Qy a0 a1 x8)) pm pn (ans := [.reg (.n :: []), .br true, .reg (.n :: .n :: []), .reg (nN 4 (.v (vi (a0.getD x8.toNat 0)) :: .call (vb r522) :: [])), .br true, .reg (.n :: .n :: [])]) (by kernel_rfl) (by intro e; cases e) (an (an (ti tt) (an (te h519) (an (t2 tt) (an e525 (an h526 (an (t2 tt) tt)))))) (ti tt))
   ·have h2 := ih _ _ h
    obtain ⟨q, hv, hq⟩ := pkR (rd := none) (P := Try.prog) (fn := Try.f60) (k := 0) (s := (Qm a0 a1 x8)) (ans := [.reg (.n :: []), .br true, .reg (.n :: .n :: []), .reg (nN 4 (.v (vi (a0.getD x8.toNat 0)) :: .call (vb r522) :: [])), .br false, .reg (.n :: .n :: [])]) (c := ⟨[(0, none), (1, none), (7, none), (8, none)], [], []⟩) (e := .normal) (s1 := (Qm a0 a1 (w64 (x8 + 1)))) (an (an (ti tt) (an (te h519) (an (an (t2 tt) (an e525 (an (Zb h526) tt))) (t2 tt)))) (ti tt)) (by kernel_rfl)
    cases r with
    | inl r => exact Zp pm pn hv hq h2
    | inr r =>
     exact Zp pm pn hv hq h2
  ·injection h with h; subst h
   exact Xz (c := ⟨[], [], []⟩) (s1 := (Qz a0 a1 ())) pm pn (ans := [.reg (.n :: []), .br false]) (by kernel_rfl) (by intro e; cases e) (an (an (ti tt) (tf h519)) (ti tt))
def Qs (k : Nat) (a0 : (List Int)) (a1 : (Int × (List Int))) : Option Int :=
 (Qd k a0 a1 k 0).bind fun r528 => (match r528 with | .inl r529 => (some r529) | .inr r530 => (some (-1)))
theorem X8 (k : Nat) (a0 : (List Int)) (a1 : (Int × (List Int))) (r : Int) (h : Qs k a0 a1 = some r) : VC Try.prog 60 [VV.tr (List.map vi a0) a0.length, VV.fn 44 [VV.tp [vi a1.1, VV.tr (List.map vi a1.2) a1.2.length] 0]] (vi r) := by
 unfold Qs at h
 obtain ⟨r528, h527, h⟩ := bs h
 have hph527 := Xn k a0 a1 _ _ _ h527
 cases r528 with
 | inl r529 =>
  dsimp only at h
  have e531 := (an (ti tt) (VRun.loop hph527))
  injection h with h; subst h
  exact Qq pm pn Try.func60 (r0 := vi r529) (ans := [.reg (.n :: []), .reg (nN 3 []), .sub ⟨[(0, none), (1, none), (7, none), (8, none)], [], []⟩ .ret (Qy a0 a1 r529)]) (fr := true) (by kernel_rfl) (an (an (ti tt) (an (t3 tt) e531)) (ti tt)) (Wv.refl _)
 | inr r530 =>
  dsimp only at h
  have e532 := (an (ti tt) (VRun.loop hph527))
  injection h with h; subst h
  exact Qq pm pn Try.func60 (r0 := vi (-1)) (ans := [.reg (.n :: []), .reg (nN 3 []), .sub ⟨[(0, none), (1, none), (7, none), (8, none)], [], []⟩ (.exit 0) (Qz a0 a1 r530), .reg (.n :: [])]) (fr := true) (by kernel_rfl) (an (an (ti tt) (an (an (t3 tt) e532) (an (ti tt) tt))) (ti tt)) (Wv.refl _)
def Qj (k : Nat) (a0 : (List Int)) (a1 : (Int × (List Int))) : Option Bool :=
 (Qs k a0 a1).bind fun r536 => (some (decide (0 <= r536)))
theorem Xy (k : Nat) (a0 : (List Int)) (a1 : (Int × (List Int))) (r : Bool) (h : Qj k a0 a1 = some r) : VC Try.prog 45 [VV.tr (List.map vi a0) a0.length, VV.fn 44 [VV.tp [vi a1.1, VV.tr (List.map vi a1.2) a1.2.length] 0]] (vb r) := by
 unfold Qj at h
 obtain ⟨r536, h537, h⟩ := bs h
 have e538 := (X8 k a0 a1 _ h537)
 injection h with h; subst h
 exact Qq pm pn Try.func45 (r0 := vb (decide (0 <= r536))) (ans := [.reg (.n :: []), .reg (.n :: .n :: .call (vi r536) :: .n :: .n :: [])]) (fr := true) (by kernel_rfl) (an (an (ti tt) (an (t2 (an e538 (t2 tt))) tt)) (ti tt)) (Wv.refl _)
theorem Qvj (z0 : Int) (z1 : Jy) : [VV.tr (List.map vi ([z0, w64 (z0 + 1), w64 ((w64 (z0 + 1)) + z1.width), w64 (z0 + z1.width)] : List Int)) (([z0, w64 (z0 + 1), w64 ((w64 (z0 + 1)) + z1.width), w64 (z0 + z1.width)] : List Int).length), VV.fn 44 [VV.tp [vi ((z1.width, z1.phases).1), VV.tr (List.map vi ((z1.width, z1.phases).2)) (((z1.width, z1.phases).2).length)] 0]] = [VV.tr (List.drop 0 (List.map unfr [vi z0, vi (w64 (z0 + 1)), vi (w64 ((w64 (z0 + 1)) + z1.width)), vi (w64 (z0 + z1.width))])) 4, VV.fn 44 [VV.tp [vi z1.width, VV.tr (List.map vi z1.phases) z1.phases.length] 0]] := by first | rfl | (simp only [Qcl, Xc, map_cons, map_nil, un_i, Qck, length_map, length_cons, length_nil]; done) | (simp only [Qcl, Xc, map_cons, map_nil, un_i, Qck, length_map, length_cons, length_nil]; rfl) | (simp only [Qcl, Xc, map_cons, map_nil, un_i, Qck, length_map, length_cons, length_nil, length_cons, length_nil, length_append]; done)
def Xu (k : Nat) (a0 : Jy) (a1 : Int) : Option ((List Int) × Bool) :=
 if a0.width ≠ 0 then (if ((w64 (a1 + 1)).tmod a0.width) = 0 then (some (([a1, w64 (a1 + 1), w64 ((w64 (a1 + 1)) + a0.width), w64 (a1 + a0.width)] : List Int), false)) else ((Qj k ([a1, w64 (a1 + 1), w64 ((w64 (a1 + 1)) + a0.width), w64 (a1 + a0.width)] : List Int) (a0.width, a0.phases)).bind fun r554 => (some (([a1, w64 (a1 + 1), w64 ((w64 (a1 + 1)) + a0.width), w64 (a1 + a0.width)] : List Int), !r554)))) else none
theorem Qbr (k : Nat) (a0 : Jy) (a1 : Int) (r : ((List Int) × Bool)) (h : Xu k a0 a1 = some r) : VC Try.prog 25 [VV.ag (Zm a0), vi a1] (VV.tu [VV.fw 1 (List.map vi r.1) r.1.length, vb r.2]) := by
 unfold Xu at h
 have e544 := (show Jz Try.prog 3 0 [vi a0.width, VV.tr (List.map vi a0.phases) a0.phases.length] = some (vi a0.width) from (Qo9 ag3 rfl))
 have e546 := (t6 (an e544 (t3 (an e544 (t3 tt)))))
 obtain ⟨h548, h⟩ := ifn h
 have e549 := (t3 (an e544 (an h548 (t2 tt))))
 rcases ifs h with ⟨h550, h⟩ | ⟨h550, h⟩
 ·have e551 := (t4 (u5 (tc h550) (t2 tt)))
  injection h with h; subst h
  exact Qq pm pn Try.func25 (r0 := VV.tu [VV.fw 1 (List.drop 0 (List.map unfr [vi a1, vi (w64 (a1 + 1)), vi (w64 ((w64 (a1 + 1)) + a0.width)), vi (w64 (a1 + a0.width))])) 4, vb false]) (ans := [.reg (nN 3 []), .frz 0, .reg (nN 6 (.v (vi a0.width) :: nN 3 (.v (vi a0.width) :: nN 3 []))), .reg (nN 3 (.v (vi a0.width) :: nN 3 [])), .reg (.n :: .n :: []), .reg (nN 4 (nS 4 (.b false :: .n :: .n :: [])))]) (fr := true) (by kernel_rfl) (an (an (t3 tt) (an e546 (an e549 (an (t2 tt) (an e551 tt))))) (an (show List.all [vi a1, vi (w64 (a1 + 1)), vi (w64 ((w64 (a1 + 1)) + a0.width)), vi (w64 (a1 + a0.width))] new0 = true from (by rw [show [vi a1, vi (w64 (a1 + 1)), vi (w64 ((w64 (a1 + 1)) + a0.width)), vi (w64 (a1 + a0.width))] = List.map vi ([a1, w64 (a1 + 1), w64 ((w64 (a1 + 1)) + a0.width), w64 (a1 + a0.width)] : List Int) from rfl]; exact Qly _)) (ti tt))) (Wv.of_eq (by first | (simp only [Qcl, Xc, Qcw, Qcx, map_cons, map_nil, un_i, un_k, un_b, un_s, Qck, Qgk, length_map, length_replicate, length_append, List.length_set, length_cons, length_nil, Nat.zero_add, Q5, Zf, Xf, Yn]; done) | (simp only [show [vi a1, vi (w64 (a1 + 1)), vi (w64 ((w64 (a1 + 1)) + a0.width)), vi (w64 (a1 + a0.width))] = List.map vi ([a1, w64 (a1 + 1), w64 ((w64 (a1 + 1)) + a0.width), w64 (a1 + a0.width)] : List Int) from rfl, Qcl, Xc, Qcw, Qcx, map_cons, map_nil, un_i, un_k, un_b, un_s, Qck, Qgk, length_map, length_replicate, length_append, List.length_set, length_cons, length_nil, Nat.zero_add, Q5, Zf, Xf, Yn]; done) | (simp only [show [vi a1, vi (w64 (a1 + 1)), vi (w64 ((w64 (a1 + 1)) + a0.width)), vi (w64 (a1 + a0.width))] = List.map vi ([a1, w64 (a1 + 1), w64 ((w64 (a1 + 1)) + a0.width), w64 (a1 + a0.width)] : List Int) from rfl, Qcl, Xc, Qcw, Qcx, map_cons, map_nil, un_i, un_k, un_b, un_s, Qck, Qgk, length_map, length_replicate, length_append, List.length_set, length_cons, length_nil, Nat.zero_add, Q5, Zf, Xf, Yn]; rfl)))
 ·have e552 := (tb h550)
  obtain ⟨r554, h555, h⟩ := bs h
  have e556 := (an (td h550) (VC.args (Xy k ([a1, w64 (a1 + 1), w64 ((w64 (a1 + 1)) + a0.width), w64 (a1 + a0.width)] : List Int) (a0.width, a0.phases) _ h555) (Qvj a1 a0)))
  have e558 := (t4 (u2 e552 (an e556 (an e552 (an (td h550) (t2 tt))))))
  injection h with h; subst h
  exact Qq pm pn Try.func25 (r0 := VV.tu [VV.fw 1 (List.drop 0 (List.map unfr [vi a1, vi (w64 (a1 + 1)), vi (w64 ((w64 (a1 + 1)) + a0.width)), vi (w64 (a1 + a0.width))])) 4, vb (!r554)]) (ans := [.reg (nN 3 []), .frz 0, .reg (nN 6 (.v (vi a0.width) :: nN 3 (.v (vi a0.width) :: nN 3 []))), .reg (nN 3 (.v (vi a0.width) :: nN 3 [])), .reg (.n :: .n :: []), .reg (nN 6 (.call (vb r554) :: .n :: .b true :: .n :: .n :: []))]) (fr := true) (by kernel_rfl) (an (an (t3 tt) (an e546 (an e549 (an (t2 tt) (an e558 tt))))) (an (show List.all [vi a1, vi (w64 (a1 + 1)), vi (w64 ((w64 (a1 + 1)) + a0.width)), vi (w64 (a1 + a0.width))] new0 = true from (by rw [show [vi a1, vi (w64 (a1 + 1)), vi (w64 ((w64 (a1 + 1)) + a0.width)), vi (w64 (a1 + a0.width))] = List.map vi ([a1, w64 (a1 + 1), w64 ((w64 (a1 + 1)) + a0.width), w64 (a1 + a0.width)] : List Int) from rfl]; exact Qly _)) (ti tt))) (Wv.of_eq (by first | (simp only [Qcl, Xc, Qcw, Qcx, map_cons, map_nil, un_i, un_k, un_b, un_s, Qck, Qgk, length_map, length_replicate, length_append, List.length_set, length_cons, length_nil, Nat.zero_add, Q5, Zf, Xf, Yn]; done) | (simp only [show [vi a1, vi (w64 (a1 + 1)), vi (w64 ((w64 (a1 + 1)) + a0.width)), vi (w64 (a1 + a0.width))] = List.map vi ([a1, w64 (a1 + 1), w64 ((w64 (a1 + 1)) + a0.width), w64 (a1 + a0.width)] : List Int) from rfl, Qcl, Xc, Qcw, Qcx, map_cons, map_nil, un_i, un_k, un_b, un_s, Qck, Qgk, length_map, length_replicate, length_append, List.length_set, length_cons, length_nil, Nat.zero_add, Q5, Zf, Xf, Yn]; done) | (simp only [show [vi a1, vi (w64 (a1 + 1)), vi (w64 ((w64 (a1 + 1)) + a0.width)), vi (w64 (a1 + a0.width))] = List.map vi ([a1, w64 (a1 + 1), w64 ((w64 (a1 + 1)) + a0.width), w64 (a1 + a0.width)] : List Int) from rfl, Qcl, Xc, Qcw, Qcx, map_cons, map_nil, un_i, un_k, un_b, un_s, Qck, Qgk, length_map, length_replicate, length_append, List.length_set, length_cons, length_nil, Nat.zero_add, Q5, Zf, Xf, Yn]; rfl)))
end Go.Proofs.Ytenebnfhhhcfaaa.Vg

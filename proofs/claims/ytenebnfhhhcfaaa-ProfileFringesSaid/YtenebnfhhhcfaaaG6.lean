import Derived.Test.YtenebnfhhhcfaaaG4
namespace Go.Proofs.Ytenebnfhhhcfaaa.Vg
set_option maxRecDepth 100000
set_option maxHeartbeats 4000000
set_option linter.unusedVariables false
set_option linter.unusedSimpArgs false
open Go Go.Proofs.Ytenebnfhhhcfaaa.Ev Go.Proofs.Ytenebnfhhhcfaaa.Vv
open List (flatMap length_cons length_nil length_map length_append map_cons map_nil length_replicate)
structure A37 where
 e0 : Int
 e1 : Int
 deriving Inhabited
def Xt (x : A37) : List VV := [vi x.e0, vi x.e1]
theorem Qbj (x : A37) : (Xt x).length = 2 := rfl
theorem Qf0 (xs : List A37) : (xs.flatMap Xt).all VV.still = true := Qmv (fun _ => rfl) xs
theorem Qhn (xs : List A37) : (xs.flatMap Xt).all new0 = true := Qmv (fun _ => rfl) xs
theorem Qam (xs : List A37) : (xs.flatMap Xt).map unfr = xs.flatMap Xt := Qpn (fun _ => rfl) xs
def J7 (k : Nat) (a0 : Qb) (a1 : Int) (a2 : Int) : Option (Int × Int) :=
 (Ji k a0).bind fun r580 => (if r580.2 = 0 then ((Za k r580.1 a1).bind fun r584 => (if r584 = true then ((Za k r580.1 a2).bind fun r588 => (if r588 = true then ((Zk k r580.1 a1 a2).bind fun r593 => (if r593 = true then ((Qp k r580.1 a1 a2).bind fun r597 => (some (r597, 0))) else (some (0, 14)))) else (some (0, 6)))) else (some (0, 6)))) else (some (0, r580.2)))
theorem Qb8 (k : Nat) (a0 : Qb) (a1 : Int) (a2 : Int) (r : (Int × Int)) (h : J7 k a0 a1 a2 = some r) : VC Try.prog 6 [VV.ag (Qe a0), vi a1, vi a2] (VV.tu [vi r.1, vi r.2]) := by
 unfold J7 at h
 obtain ⟨r580, h581, h⟩ := bs h
 have e582 := (ti (an (Qaw k a0 _ h581) (t6 tt)))
 rcases ifs h with ⟨h583, h⟩ | ⟨h583, h⟩
 ·obtain ⟨r584, h585, h⟩ := bs h
  have e586 := (Qv k r580.1 a1 _ h585)
  rcases ifs h with ⟨h587, h⟩ | ⟨h587, h⟩
  ·obtain ⟨r588, h589, h⟩ := bs h
   have e590 := (an (Qo h587) (Qv k r580.1 a2 _ h589))
   have e591 := (t2 (an e586 (t2 (u2 (an (Qo h587) tt) (an e590 (an (an (Qo h587) tt) (an (Qo h587) tt)))))))
   rcases ifs h with ⟨h592, h⟩ | ⟨h592, h⟩
   ·obtain ⟨r593, h594, h⟩ := bs h
    have e595 := (Y9 k r580.1 a1 a2 _ h594)
    rcases ifs h with ⟨h596, h⟩ | ⟨h596, h⟩
    ·obtain ⟨r597, h598, h⟩ := bs h
     have e599 := (Y1 k r580.1 a1 a2 _ h598)
     injection h with h; subst h
     exact Qq pm pn Try.func6 (r0 := VV.tu [vi r597, vi 0]) (ans := [.reg (nN 3 []), .reg (.n :: .call (VV.tu [VV.ag (Zm r580.1), vi r580.2]) :: nN 6 []), .reg (.n :: .n :: []), .br false, .reg (.n :: .n :: .call (vb r584) :: nN 4 (.call (vb r588) :: .n :: .b false :: [])), .br false, .reg (nN 3 (.call (vb r593) :: .n :: [])), .br false, .reg (nN 3 (.call (vi r597) :: .n :: .n :: []))]) (fr := true) (by kernel_rfl) (an (an (t3 tt) (an e582 (an (an (t2 tt) (ta h583)) (an (an e591 (an (Qo h592) tt)) (an (an (t3 (an e595 (ti tt))) (an (Qo h596) tt)) (an (t3 (an e599 (t2 tt))) tt)))))) (t2 tt)) (Wv.refl _)
    ·injection h with h; subst h
     exact Qq pm pn Try.func6 (r0 := VV.tu [vi 0, vi 14]) (ans := [.reg (nN 3 []), .reg (.n :: .call (VV.tu [VV.ag (Zm r580.1), vi r580.2]) :: nN 6 []), .reg (.n :: .n :: []), .br false, .reg (.n :: .n :: .call (vb r584) :: nN 4 (.call (vb r588) :: .n :: .b false :: [])), .br false, .reg (nN 3 (.call (vb r593) :: .n :: [])), .br true, .reg (.n :: .n :: [])]) (fr := true) (by kernel_rfl) (an (an (t3 tt) (an e582 (an (an (t2 tt) (ta h583)) (an (an e591 (an (Qo h592) tt)) (an (t3 (an e595 (ti tt))) (an (Zl (Zb h596)) (an (t2 tt) tt))))))) (t2 tt)) (Wv.refl _)
   ·injection h with h; subst h
    exact Qq pm pn Try.func6 (r0 := VV.tu [vi 0, vi 6]) (ans := [.reg (nN 3 []), .reg (.n :: .call (VV.tu [VV.ag (Zm r580.1), vi r580.2]) :: nN 6 []), .reg (.n :: .n :: []), .br false, .reg (.n :: .n :: .call (vb r584) :: nN 4 (.call (vb r588) :: .n :: .b false :: [])), .br true, .reg (.n :: .n :: [])]) (fr := true) (by kernel_rfl) (an (an (t3 tt) (an e582 (an (an (t2 tt) (ta h583)) (an e591 (an (Zl (Zb h592)) (an (t2 tt) tt)))))) (t2 tt)) (Wv.refl _)
  ·have e600 := (t2 (an e586 (t2 (u5 (Zl (Zb h587)) tt))))
   injection h with h; subst h
   exact Qq pm pn Try.func6 (r0 := VV.tu [vi 0, vi 6]) (ans := [.reg (nN 3 []), .reg (.n :: .call (VV.tu [VV.ag (Zm r580.1), vi r580.2]) :: nN 6 []), .reg (.n :: .n :: []), .br false, .reg (.n :: .n :: .call (vb r584) :: .n :: .n :: nS 4 (.b true :: [])), .br true, .reg (.n :: .n :: [])]) (fr := true) (by kernel_rfl) (an (an (t3 tt) (an e582 (an (an (t2 tt) (ta h583)) (an e600 (an rt (an (t2 tt) tt)))))) (t2 tt)) (Wv.refl _)
 ·injection h with h; subst h
  exact Qq pm pn Try.func6 (r0 := VV.tu [vi 0, vi r580.2]) (ans := [.reg (nN 3 []), .reg (.n :: .call (VV.tu [VV.ag (Zm r580.1), vi r580.2]) :: nN 6 []), .reg (.n :: .n :: []), .br true, .reg (nN 3 [])]) (fr := true) (by kernel_rfl) (an (an (t3 tt) (an e582 (an (t2 tt) (an (td h583) (an (t3 tt) tt))))) (t2 tt)) (Wv.refl _)
def Qpo (z0 : ((List Int) × Bool)) : List Ans := (.n :: .n :: .call (VV.tu [VV.fr (List.map vi z0.1) z0.1.length, vb z0.2]) :: nN 5 [])
def Ze (a0 : Qb) (r664 : (Jy × Int)) (y2 : List A37) (x22 : Int) : VS := ⟨mkA [(4, VV.pt 1 0), (6, VV.rf 2 0 y2.length), (21, vi (r664.1.phases.length : Int)), (22, vi x22)], [some ⟨true, 1, Qe a0⟩, some ⟨true, 1, Zm r664.1⟩, some ⟨false, 2, flatMap Xt y2⟩], .nil⟩
def Jl (a0 : Qb) (r664 : (Jy × Int)) (r : (List A37)) : VS := ⟨mkA [(6, VV.rf 2 0 r.length)], [some ⟨true, 1, Qe a0⟩, some ⟨true, 1, Zm r664.1⟩, some ⟨false, 2, flatMap Xt r⟩], .nil⟩
def Qx (k : Nat) (a0 : Qb) (r664 : (Jy × Int)) : Nat -> (List A37) -> Int -> Option ((List A37))
 | 0, _, _ => none
 | fuel + 1, y2, x22 => if x22 < (r664.1.phases.length : Int) then ((Xu k r664.1 x22).bind fun r711 => (if r711.2 = true then ((X0 k r664.1 r711.1).bind fun r716 => (if r716 = 0 then (Qx k a0 r664 fuel y2 (w64 (x22 + 1))) else (if y2.length + ([(⟨x22, w64 (r716.tdiv 1000)⟩ : A37)] : List A37).length <= 1000000000 then (Qx k a0 r664 fuel (y2 ++ ([(⟨x22, w64 (r716.tdiv 1000)⟩ : A37)] : List A37)) (w64 (x22 + 1))) else none))) else (Qx k a0 r664 fuel y2 (w64 (x22 + 1))))) else (some y2)
theorem Qba (k : Nat) (a0 : Qb) (r664 : (Jy × Int)) : ∀ (fuel : Nat) (y2 : List A37) (x22 : Int) (r : (List A37)), Qx k a0 r664 fuel y2 x22 = some r -> (Yo none Try.prog (szF Try.f8) (Yr Try.f8 0) (Ze a0 r664 y2 x22) (.exit 0) (Jl a0 r664 r)) := by
 intro fuel
 induction fuel with
 | zero => intro y2 x22 r h; rw [Qx.eq_1] at h; cases h
 | succ fuel ih =>
  intro y2 x22 r h
  rw [Qx.eq_2] at h
  rcases ifs h with ⟨h710, h⟩ | ⟨h710, h⟩
  ·obtain ⟨r711, h712, h⟩ := bs h
   have e713 := (show VC Try.prog 25 [VV.ag (Zm r664.1), vi x22] (VV.tu [VV.fr (List.map vi r711.1) r711.1.length, vb r711.2]) from (VC.weak (Qbr k r664.1 x22 _ h712) (Wv.tuL (.cons (Wv.fw rfl rfl) (.cons (Wv.refl _) .nil)))))
   have e714 := (t2 (an e713 (t5 tt)))
   rcases ifs h with ⟨h715, h⟩ | ⟨h715, h⟩
   ·obtain ⟨r716, h717, h⟩ := bs h
    have e718 := (Qcq k r664.1 r711.1 _ h717)
    rcases ifs h with ⟨h719, h⟩ | ⟨h719, h⟩
    ·have h2 := ih _ _ _ h
     obtain ⟨q, hv, hq⟩ := pkR (rd := none) (P := Try.prog) (fn := Try.f8) (k := 0) (s := (Ze a0 r664 y2 x22)) (ans := [.reg (.n :: []), .br true, .reg (.n :: .n :: []), .reg (Qpo r711), .reg (.n :: .n :: []), .br false, .reg (.n :: .n :: .call (vi r716) :: .n :: []), .reg (.n :: .n :: []), .br false, .reg (.n :: .n :: [])]) (c := ⟨[(4, none), (6, none), (21, none), (22, none)], [none, none, none], []⟩) (e := .normal) (s1 := (Ze a0 r664 y2 (w64 (x22 + 1)))) (an (an (ti tt) (an (te h710) (an (an (t2 tt) (an e714 (an (an (t2 tt) (an (Qo h715) tt)) (an (t2 (an e718 (ti tt))) (an (t2 tt) (ta h719)))))) (t2 tt)))) (ti tt)) (by kernel_rfl)
     exact Zp pm pn hv hq h2
    ·have e720 := (show (1000 : Int) ≠ 0 from (by decide))
     obtain ⟨h721, h⟩ := ifn h
     have e722 := (show List.length (flatMap Xt y2) = y2.length * 2 /\ List.length [vi x22, vi (w64 (r716.tdiv 1000))] = 1 * 2 /\ (y2.length + 1) * 16 <= 140737488355328 /\ y2.length + 1 < 1099511627776 /\ List.all [vi x22, vi (w64 (r716.tdiv 1000))] VV.still = true from ⟨(by rw [Qas Qbj] <;> simp), (by rw [show [vi x22, vi (w64 (r716.tdiv 1000))] = flatMap Xt ([(⟨x22, w64 (r716.tdiv 1000)⟩ : A37)] : List A37) from rfl]; rw [Qas Qbj] <;> simp), (by first | omega | (simp at h721 ⊢; omega)), (by first | omega | (simp at h721 ⊢; omega)), (by rw [show [vi x22, vi (w64 (r716.tdiv 1000))] = flatMap Xt ([(⟨x22, w64 (r716.tdiv 1000)⟩ : A37)] : List A37) from rfl]; exact Qf0 _)⟩)
     have e723 := (t3 (an e720 (t2 (an e722 (ti tt)))))
     have h2 := ih _ _ _ h
     obtain ⟨q, hv, hq⟩ := pkR (rd := none) (P := Try.prog) (fn := Try.f8) (k := 0) (s := (Ze a0 r664 y2 x22)) (ans := [.reg (.n :: []), .br true, .reg (.n :: .n :: []), .reg (Qpo r711), .reg (.n :: .n :: []), .br false, .reg (.n :: .n :: .call (vi r716) :: .n :: []), .reg (.n :: .n :: []), .br true, .reg (nN 8 []), .reg (.n :: .n :: [])]) (c := ⟨[(4, none), (6, some (VV.rf 2 0 ((y2 ++ ([(⟨x22, w64 (r716.tdiv 1000)⟩ : A37)] : List A37)).length))), (21, none), (22, none)], [none, none, some (flatMap Xt (y2 ++ ([(⟨x22, w64 (r716.tdiv 1000)⟩ : A37)] : List A37)))], []⟩) (e := .normal) (s1 := (Ze a0 r664 (y2 ++ ([(⟨x22, w64 (r716.tdiv 1000)⟩ : A37)] : List A37)) (w64 (x22 + 1)))) (an (an (ti tt) (an (te h710) (an (an (t2 tt) (an e714 (an (an (t2 tt) (an (Qo h715) tt)) (an (t2 (an e718 (ti tt))) (an (t2 tt) (an (td h719) e723)))))) (t2 tt)))) (an (an (show Wv (VV.rf 2 0 (y2.length + 1)) (VV.rf 2 0 ((y2 ++ ([(⟨x22, w64 (r716.tdiv 1000)⟩ : A37)] : List A37)).length)) from (Wv.of_eq (by simp))) tt) (an (show (flatMap Xt y2) ++ [vi x22, vi (w64 (r716.tdiv 1000))] = flatMap Xt (y2 ++ ([(⟨x22, w64 (r716.tdiv 1000)⟩ : A37)] : List A37)) from (by rw [show [vi x22, vi (w64 (r716.tdiv 1000))] = flatMap Xt ([(⟨x22, w64 (r716.tdiv 1000)⟩ : A37)] : List A37) from rfl]; exact List.flatMap_append.symm)) tt))) (by kernel_rfl)
     exact Zp pm pn hv hq h2
   ·have h2 := ih _ _ _ h
    obtain ⟨q, hv, hq⟩ := pkR (rd := none) (P := Try.prog) (fn := Try.f8) (k := 0) (s := (Ze a0 r664 y2 x22)) (ans := [.reg (.n :: []), .br true, .reg (.n :: .n :: []), .reg (Qpo r711), .reg (.n :: .n :: []), .br true, .reg (.n :: .n :: [])]) (c := ⟨[(4, none), (6, none), (21, none), (22, none)], [none, none, none], []⟩) (e := .normal) (s1 := (Ze a0 r664 y2 (w64 (x22 + 1)))) (an (an (ti tt) (an (te h710) (an (an (t2 tt) (an e714 (an (t2 tt) (an (Zl (Zb h715)) tt)))) (t2 tt)))) (ti tt)) (by kernel_rfl)
    exact Zp pm pn hv hq h2
  ·injection h with h; subst h
   exact Xz (c := ⟨[(6, none)], [none, none, none], []⟩) (s1 := (Jl a0 r664 y2)) pm pn (ans := [.reg (.n :: []), .br false]) (by kernel_rfl) (by intro e; cases e) (an (an (ti tt) (tf h710)) (ti tt))
theorem Quv (z0 : (List A37)) : VV.tu [VV.fw 2 (List.drop 0 (List.map unfr (flatMap Xt z0))) z0.length, vi 0] = VV.tu [VV.fw 2 (flatMap Xt z0) z0.length, vi 0] := by first | rfl | (simp only [Qcl, Xc, map_cons, map_nil, un_i, length_map, length_cons, length_nil, Qam]; done) | (simp only [Qcl, Xc, map_cons, map_nil, un_i, length_map, length_cons, length_nil, Qam]; rfl) | (simp only [Qcl, Xc, map_cons, map_nil, un_i, length_map, length_cons, length_nil, Qam, length_cons, length_nil, length_append]; done)
def Jr (k : Nat) (a0 : Qb) : Option ((List A37) × Int) :=
 (Ji k a0).bind fun r664 => (if r664.2 = 0 then ((Qx k a0 r664 k ([] : List A37) 0).bind fun r725 => (some (r725, 0))) else (some ([], r664.2)))
theorem Qdh (k : Nat) (a0 : Qb) (r : ((List A37) × Int)) (h : Jr k a0 = some r) : VC Try.prog 8 [VV.ag (Qe a0)] (VV.tu [VV.fw 2 (flatMap Xt r.1) r.1.length, vi r.2]) := by
 unfold Jr at h
 obtain ⟨r664, h665, h⟩ := bs h
 have e666 := (ti (an (Qaw k a0 _ h665) (t6 tt)))
 rcases ifs h with ⟨h667, h⟩ | ⟨h667, h⟩
 ·obtain ⟨r725, h724, h⟩ := bs h
  have hph724 := Qba k a0 r664 _ _ _ _ h724
  have e726 := (an (ti tt) (VRun.loop hph724))
  injection h with h; subst h
  exact Qq pm pn Try.func8 (r0 := VV.tu [VV.fw 2 (List.drop 0 (List.map unfr (flatMap Xt r725))) r725.length, vi 0]) (ans := [.reg (nN 3 []), .reg (.n :: .call (VV.tu [VV.ag (Zm r664.1), vi r664.2]) :: nN 6 []), .reg (.n :: .n :: []), .br false, .reg (.n :: []), .reg (nN 4 []), .sub ⟨[(4, none), (6, none), (21, none), (22, none)], [none, none], [.t 6 2]⟩ (.exit 0) (Jl a0 r664 r725), .reg (nN 3 [])]) (fr := true) (by kernel_rfl) (an (an (t3 tt) (an e666 (an (an (t2 tt) (ta h667)) (an (ti tt) (an (an (t4 tt) e726) (an (t3 tt) tt)))))) (an (show List.all (flatMap Xt r725) new0 = true from (by exact Qhn _)) (ti tt))) (Wv.of_eq (Quv r725))
 ·injection h with h; subst h
  exact Qq pm pn Try.func8 (r0 := VV.tu [VV.c (.slice none 0 0), vi r664.2]) (ans := [.reg (nN 3 []), .reg (.n :: .call (VV.tu [VV.ag (Zm r664.1), vi r664.2]) :: nN 6 []), .reg (.n :: .n :: []), .br true, .reg (nN 3 [])]) (fr := true) (by kernel_rfl) (an (an (t3 tt) (an e666 (an (t2 tt) (an (td h667) (an (t3 tt) tt))))) (t2 tt)) (Wv.tuL (.cons Wv.Qvo (.cons (Wv.refl _) .nil)))
end Go.Proofs.Ytenebnfhhhcfaaa.Vg

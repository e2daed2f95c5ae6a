import Derived.Test.YtjomicmhnbmhoaaB2
namespace Go.Proofs.Ytjomicmhnbmhoaa.Vg
set_option maxRecDepth 100000
set_option maxHeartbeats 4000000
set_option linter.unusedVariables false
set_option linter.unusedSimpArgs false
open Go Go.Proofs.Ytjomicmhnbmhoaa.Ev Go.Proofs.Ytjomicmhnbmhoaa.Vv
open List (flatMap length_cons length_nil length_map length_append map_cons map_nil length_replicate)
structure Qjq where
 Mount : Qc
 Targets : (List Qa)
 At : A26
 deriving Inhabited
def Qj5 (x : Qjq) : List VV := [vi x.Mount.Least, vi x.Mount.Most, vi x.Mount.Low, vi x.Mount.High, vi x.Mount.Speed, VV.tr (flatMap Qg x.Mount.Refraction) x.Mount.Refraction.length, VV.tr (flatMap Qg x.Mount.Drift) x.Mount.Drift.length, VV.tr (flatMap Qb x.Targets) x.Targets.length, vi x.At.e0, vi x.At.e1]
def Q4u (x : Qjq) : List VV := [vi x.Mount.Least, vi x.Mount.Most, vi x.Mount.Low, vi x.Mount.High, vi x.Mount.Speed, VV.fr (flatMap Qg x.Mount.Refraction) x.Mount.Refraction.length, VV.fr (flatMap Qg x.Mount.Drift) x.Mount.Drift.length, VV.fr (flatMap Qb x.Targets) x.Targets.length, vi x.At.e0, vi x.At.e1]
theorem Qa5 (xs : List Qjq) : (xs.flatMap Qj5).map unfr = xs.flatMap Qj5 := Qbg (fun _ => rfl) xs
theorem Qa6 (xs : List Qjq) : (xs.flatMap Q4u).map unfr = xs.flatMap Qj5 := Qbg (fun _ => rfl) xs
structure X9 where
 begin : Int
 stops : (List Jj)
 deriving Inhabited
def Jk (x : X9) : List VV := [vi x.begin, VV.tr (flatMap Zi x.stops) x.stops.length]
def Qiz (x : X9) : List VV := [vi x.begin, VV.fr (flatMap Zi x.stops) x.stops.length]
theorem Qaf (xs : List X9) : (xs.flatMap Jk).map unfr = xs.flatMap Jk := Qbg (fun _ => rfl) xs
theorem Qcu (xs : List X9) : (xs.flatMap Qiz).map unfr = xs.flatMap Jk := Qbg (fun _ => rfl) xs
theorem ag9 : Qgw Try.prog 9 = some false := by kernel_rfl
theorem ag52 : Qgw Try.prog 52 = some true := by kernel_rfl
theorem sz52 : szOf Try.prog 52 = some 6 := by kernel_rfl
def Qa0 (a0 : Qjq) (x3 : Int) : VS := ⟨mkA [(1, VV.pt 0 0), (3, vi x3)], [some ⟨true, 1, Qj5 a0⟩], .nil⟩
def Qcr (a0 : Qjq) (r : Unit) : VS := ⟨mkA [(2, vb false)], [], .nil⟩
def Jq (a0 : Qjq) (r : Unit) : VS := ⟨mkA [(1, VV.pt 0 0)], [some ⟨true, 1, Qj5 a0⟩], .nil⟩
def Xq (k : Nat) (a0 : Qjq) : Nat -> Int -> Option (Sum Unit Unit)
 | 0, _ => none
 | fuel + 1, x3 => if x3 < (a0.Targets.length : Int) then (if 0 <= x3 /\ x3 < (a0.Targets.length : Int) then (if 30 < (((a0.Targets.getD x3.toNat default).Name).size : Int) then (some (.inl ())) else (Xq k a0 fuel (w64 (x3 + 1)))) else none) else (some (.inr ()))
theorem Qh4 (k : Nat) (a0 : Qjq) : ∀ (fuel : Nat) (x3 : Int) (r : Sum Unit Unit), Xq k a0 fuel x3 = some r -> (match r with | .inl r => Jb none Try.prog (szF Try.f6) (Zy Try.f6 0) (Qa0 a0 x3) .ret (Qcr a0 r) | .inr r => Jb none Try.prog (szF Try.f6) (Zy Try.f6 0) (Qa0 a0 x3) (.exit 0) (Jq a0 r)) := by
 intro fuel
 induction fuel with
 | zero => intro x3 r h; rw [Xq.eq_1] at h; cases h
 | succ fuel ih =>
  intro x3 r h
  rw [Xq.eq_2] at h
  rcases ifs h with ⟨h12862, h⟩ | ⟨h12862, h⟩
  ·obtain ⟨h12863, h⟩ := ifn h
   have e12864 := (show Zg Try.prog 9 (x3.toNat * 6 + 0) (flatMap Qb a0.Targets) = some (vs ((a0.Targets.getD x3.toNat default).Name)) from (Qdr ag9 Qb 6 0 Xb (by omega) a0.Targets default h12863 (by omega)).trans rfl)
   have e12865 := (t3 (an h12863 (ti (an e12864 (t2 tt)))))
   rcases ifs h with ⟨h12866, h⟩ | ⟨h12866, h⟩
   ·obtain rfl := si h
    exact Qk (c := ⟨[(2, none)], [], []⟩) (s1 := (Qcr a0 ())) pm pn (ans := [.reg (nN 5 []), .br true, .reg (nN 5 (.v (vs ((a0.Targets.getD x3.toNat default).Name)) :: .n :: .n :: [])), .br true, .reg (.n :: [])]) (by kernel_rfl) nofun (an (an (an (t5 tt) (te h12862)) (an e12865 (an (dt h12866) (an (ti tt) tt)))) (ti tt))
   ·have h2 := ih _ _ h
    obtain ⟨q, hv, hq⟩ := pK none Try.prog Try.f6 0 (Qa0 a0 x3) [.reg (nN 5 []), .br true, .reg (nN 5 (.v (vs ((a0.Targets.getD x3.toNat default).Name)) :: .n :: .n :: [])), .br false, .reg (nN 3 [])] ⟨(tn [1, 3]), [none], []⟩ .normal (Qa0 a0 (w64 (x3 + 1))) (an (an (an (t5 tt) (te h12862)) (an (an e12865 (tf h12866)) (t3 tt))) (ti tt)) (by kernel_rfl)
    cases r <;> exact Qd pm pn hv hq h2
  ·obtain rfl := si h
   exact Qk (c := ⟨[(1, none)], [none], []⟩) (s1 := (Jq a0 ())) pm pn (ans := [.reg (nN 5 []), .br false]) (by kernel_rfl) nofun (an (an (t5 tt) (tf h12862)) (ti tt))
def Q7i (z0 : Bool) : List Ans := (.n :: .n :: .call (vb z0) :: nN 7 (.skip :: .skip :: .b false :: .b false :: .b true :: .n :: []))
def Qcj (k : Nat) (a0 : Qjq) : Option Bool :=
 (Xq k a0 k 0).bind fun r12868 => (match r12868 with | .inl r12869 => (some false) | .inr r12870 => ((Qce k a0.Mount).bind fun r12873 => (if r12873 = true then (if (a0.Targets.length : Int) <= 5 then (some true) else (if 20 < (a0.Targets.length : Int) then (some (decide ((a0.Targets.length : Int) <= 23))) else (some false))) else (some false))))
theorem Qj6 (k : Nat) (a0 : Qjq) (r : Bool) (h : Qcj k a0 = some r) : VC Try.prog 6 [VV.ag (Qj5 a0)] (vb r) := by
 unfold Qcj at h
 obtain ⟨r12868, h12867, h⟩ := bs h
 have hph12867 := Qh4 k a0 _ _ _ h12867
 cases r12868 with
 | inl r12869 =>
  dsimp only at h
  have e12871 := (an (ti tt) (VRun.loop hph12867))
  obtain rfl := si h
  exact Qi pm pn Try.func6 (r0 := vb false) (ans := [.reg (.n :: .n :: []), .reg (.n :: []), .sub ⟨(tn [1, 3]), [none], []⟩ .ret (Qcr a0 r12869)]) (fr := true) (by kernel_rfl) (an (an (t2 tt) (an (ti tt) e12871)) (ti tt)) (Wv.refl _)
 | inr r12870 =>
  dsimp only at h
  have e12872 := (an (ti tt) (VRun.loop hph12867))
  obtain ⟨r12873, h12874, h⟩ := bs h
  have e12875 := (Qj9 k a0.Mount _ h12874)
  rcases ifs h with ⟨h12876, h⟩ | ⟨h12876, h⟩
  ·rcases ifs h with ⟨h12877, h⟩ | ⟨h12877, h⟩
   ·have e12878 := (t2 (an e12875 (ti (w3 (an h12876 tt) (w3 (dt h12877) (t2 (an (dt h12877) (an (an h12876 (dt h12877)) (an h12876 (ti tt))))))))))
    obtain rfl := si h
    exact Qi pm pn Try.func6 (r0 := vb true) (ans := [.reg (.n :: .n :: []), .reg (.n :: []), .sub ⟨(tn [1, 3]), [none], []⟩ (.exit 0) (Jq a0 r12870), .reg (nN 4 []), .reg (.n :: .n :: .call (vb r12873) :: nN 4 (nS 6 (.b true :: .b true :: .n :: [])))]) (fr := true) (by kernel_rfl) (an (an (t2 tt) (an (an (ti tt) e12872) (an (t4 tt) (an e12878 tt)))) (ti tt)) (Wv.refl _)
   ·rcases ifs h with ⟨h12879, h⟩ | ⟨h12879, h⟩
    ·have e12880 := (an (df h12877) (dt h12879))
     have e12881 := (t2 (an e12875 (ti (w3 (an h12876 tt) (w3 (tf h12877) (w2 (te h12879) (an e12880 (an (an h12876 (df h12877)) (an h12876 (ti tt))))))))))
     obtain rfl := si h
     exact Qi pm pn Try.func6 (r0 := vb (decide ((a0.Targets.length : Int) <= 23))) (ans := [.reg (.n :: .n :: []), .reg (.n :: []), .sub ⟨(tn [1, 3]), [none], []⟩ (.exit 0) (Jq a0 r12870), .reg (nN 4 []), .reg (.n :: .n :: .call (vb r12873) :: nN 9 (.b true :: .b false :: .b true :: .n :: []))]) (fr := true) (by kernel_rfl) (an (an (t2 tt) (an (an (ti tt) e12872) (an (t4 tt) (an e12881 tt)))) (ti tt)) (Wv.refl _)
    ·have e12882 := (an (df h12877) (df h12879))
     have e12883 := (t2 (an e12875 (ti (w3 (an h12876 tt) (w3 (tf h12877) (w2 (df h12879) (an e12882 (an (an h12876 (df h12877)) (an h12876 (ti tt))))))))))
     obtain rfl := si h
     exact Qi pm pn Try.func6 (r0 := vb false) (ans := [.reg (.n :: .n :: []), .reg (.n :: []), .sub ⟨(tn [1, 3]), [none], []⟩ (.exit 0) (Jq a0 r12870), .reg (nN 4 []), .reg (Q7i r12873)]) (fr := true) (by kernel_rfl) (an (an (t2 tt) (an (an (ti tt) e12872) (an (t4 tt) (an e12883 tt)))) (ti tt)) (Wv.refl _)
  ·have e12884 := (t2 (an e12875 (ti (w3 (Qn h12876) (t6 (w2 (Qn h12876) (ti tt)))))))
   obtain rfl := si h
   exact Qi pm pn Try.func6 (r0 := vb false) (ans := [.reg (.n :: .n :: []), .reg (.n :: []), .sub ⟨(tn [1, 3]), [none], []⟩ (.exit 0) (Jq a0 r12870), .reg (nN 4 []), .reg (.n :: .n :: .call (vb r12873) :: .n :: nS 10 (.b false :: .n :: []))]) (fr := true) (by kernel_rfl) (an (an (t2 tt) (an (an (ti tt) e12872) (an (t4 tt) (an e12884 tt)))) (ti tt)) (Wv.refl _)
def Qbf (k : Nat) (a0 : (List Qa)) : Option (List Qa) :=
 if ([] : List Qa).length + a0.length <= 1000000000 then (some (([] : List Qa) ++ a0)) else none
theorem Qdy (k : Nat) (a0 : (List Qa)) (r : (List Qa)) (h : Qbf k a0 = some r) : VC Try.prog 9 [VV.tr (flatMap Qb a0) a0.length] (VV.fw 6 (flatMap Qb r) r.length) := by
 unfold Qbf at h
 obtain ⟨h12887, h⟩ := ifn h
 have e12888 := (show List.length [] = 0 * 6 /\ List.length (flatMap Qb a0) = a0.length * 6 /\ (0 + a0.length) * 56 <= 140737488355328 /\ 0 + a0.length < 1099511627776 /\ List.all (flatMap Qb a0) VV.still = true from ⟨(by rw [show [] = flatMap Qb ([] : List Qa) from rfl]; rw [Qfg Xb] <;> simp), (by rw [Qfg Xb] <;> simp), (by first | omega | (simp at h12887 ⊢; omega)), (by first | omega | (simp at h12887 ⊢; omega)), (by exact Qne _)⟩)
 obtain rfl := si h
 exact Qi pm pn Try.func9 (r0 := VV.fw 6 (List.drop 0 (List.map unfr ([] ++ (flatMap Qb a0)))) (0 + a0.length)) (ans := [.reg (.n :: []), .reg (nN 4 [])]) (fr := true) (by kernel_rfl) (an (an (ti tt) (an (t2 (an e12888 (ti tt))) tt)) (an (show List.all ([] ++ (flatMap Qb a0)) new0 = true from (by rw [show [] ++ (flatMap Qb a0) = flatMap Qb (([] : List Qa) ++ a0) from (by rw [show [] = flatMap Qb ([] : List Qa) from rfl]; exact List.flatMap_append.symm)]; exact Qjg _)) tt)) (Wv.of_eq (by first | (simp only [show [] ++ (flatMap Qb a0) = flatMap Qb (([] : List Qa) ++ a0) from (by rw [show [] = flatMap Qb ([] : List Qa) from rfl]; exact List.flatMap_append.symm), Qdb, Qj, Qfn, Qcb, map_cons, map_nil, un_i, un_k, un_b, un_s, Jg, Qf0, length_map, length_replicate, length_append, List.length_set, length_cons, length_nil, Nat.zero_add, Xf, X0, Wj, Xm, X7, Xh, Zu, Xx, Xa, Zr, Yd, Yw, Yx, Qa5, Qa6]; done) | (simp only [show [] ++ (flatMap Qb a0) = flatMap Qb (([] : List Qa) ++ a0) from (by rw [show [] = flatMap Qb ([] : List Qa) from rfl]; exact List.flatMap_append.symm), Qdb, Qj, Qfn, Qcb, map_cons, map_nil, un_i, un_k, un_b, un_s, Jg, Qf0, length_map, length_replicate, length_append, List.length_set, length_cons, length_nil, Nat.zero_add, Xf, X0, Wj, Xm, X7, Xh, Zu, Xx, Xa, Zr, Yd, Yw, Yx, Qa5, Qa6]; rfl)))
theorem Q7j (z0 : Int) : [vi 0, vi 100000, VV.tr (List.map vi ([z0] : List Int)) (([z0] : List Int).length)] = [vi 0, vi 100000, VV.tr [vi z0] 1] := by first | rfl | (simp only [Qj, map_cons, map_nil, un_i, Jg, length_map, length_cons, length_nil]; done) | (simp only [Qj, map_cons, map_nil, un_i, Jg, length_map, length_cons, length_nil]; rfl) | (simp only [Qj, map_cons, map_nil, un_i, Jg, length_map, length_cons, length_nil, length_cons, length_nil, length_append]; done)
def Qgl (k : Nat) (a0 : Int) : Option Int :=
 (Zv k 0 100000 ([a0] : List Int)).bind fun r12900 => (if r12900 = true then (some 0) else (some 2))
theorem Qnf (k : Nat) (a0 : Int) (r : Int) (h : Qgl k a0 = some r) : VC Try.prog 57 [vi a0] (vi r) := by
 unfold Qgl at h
 obtain ⟨r12900, h12901, h⟩ := bs h
 have e12902 := (VC.args (Xk k 0 100000 ([a0] : List Int) _ h12901) (Q7j a0))
 rcases ifs h with ⟨h12903, h⟩ | ⟨h12903, h⟩
 ·obtain rfl := si h
  exact Qi pm pn Try.func57 (r0 := vi 0) (ans := [.reg (.n :: []), .reg (.n :: .v VV.any :: .call (vb r12900) :: .n :: []), .br false, .reg (.n :: [])]) (fr := true) (by kernel_rfl) (an (an (ti tt) (an (an (t2 (an e12902 (ti tt))) (an (Qh h12903) tt)) (an (ti tt) tt))) (ti tt)) (Wv.refl _)
 ·obtain rfl := si h
  exact Qi pm pn Try.func57 (r0 := vi 2) (ans := [.reg (.n :: []), .reg (.n :: .v VV.any :: .call (vb r12900) :: .n :: []), .br true, .reg (.n :: [])]) (fr := true) (by kernel_rfl) (an (an (ti tt) (an (t2 (an e12902 (ti tt))) (an (Qr (Qn h12903)) (an (ti tt) tt)))) (ti tt)) (Wv.refl _)
theorem Q7k (z0 : Qc) (z1 : A26) : [vi z0.Least, vi z0.Most, VV.tr (List.map vi ([z1.e1] : List Int)) (([z1.e1] : List Int).length)] = [vi z0.Least, vi z0.Most, VV.tr [vi z1.e1] 1] := by first | rfl | (simp only [Qj, map_cons, map_nil, un_i, Jg, length_map, length_cons, length_nil]; done) | (simp only [Qj, map_cons, map_nil, un_i, Jg, length_map, length_cons, length_nil]; rfl) | (simp only [Qj, map_cons, map_nil, un_i, Jg, length_map, length_cons, length_nil, length_cons, length_nil, length_append]; done)
def Qfr (k : Nat) (a0 : Qa) (q0_0 : ByteArray) (q0_1 : Int) (q0_2 : Int) (q0_3 : Int) (q0_4 : Int) (q0_5 : Int) : Option Bool :=
 some (decide (a0.Name = q0_0))
theorem Qka (k : Nat) (a0 : Qa) (q0_0 : ByteArray) (q0_1 : Int) (q0_2 : Int) (q0_3 : Int) (q0_4 : Int) (q0_5 : Int) (r : Bool) (h : Qfr k a0 q0_0 q0_1 q0_2 q0_3 q0_4 q0_5 = some r) : VC Try.prog 77 [VV.ag (Qb a0), VV.tp [vs q0_0, vi q0_1, vi q0_2, vi q0_3, vi q0_4, vi q0_5] 0] (vb r) := by
 unfold Qfr at h
 have e12929 := (show Zg Try.prog 9 0 [vs q0_0, vi q0_1, vi q0_2, vi q0_3, vi q0_4, vi q0_5] = some (vs q0_0) from (Qjh ag9 rfl))
 obtain rfl := si h
 exact Qi pm pn Try.func77 (r0 := vb (decide (a0.Name = q0_0))) (ans := [.reg (.n :: .n :: []), .reg (nN 3 (.v (vs q0_0) :: .n :: .n :: []))]) (fr := true) (by kernel_rfl) (an (an (t2 tt) (an (t3 (an e12929 (t2 tt))) tt)) (ti tt)) (Wv.refl _)
def Qx (a0 : (List Qa)) (a1 : (ByteArray × Int × Int × Int × Int × Int)) (x8 : Int) : VS := ⟨mkA [(0, VV.tr (flatMap Qb a0) a0.length), (1, VV.fn 77 [VV.tp [vs a1.1, vi a1.2.1, vi a1.2.2.1, vi a1.2.2.2.1, vi a1.2.2.2.2.1, vi a1.2.2.2.2.2] 0]), (7, vi (a0.length : Int)), (8, vi x8)], [], .nil⟩
def Ze (a0 : (List Qa)) (a1 : (ByteArray × Int × Int × Int × Int × Int)) (r : Int) : VS := ⟨mkA [(4, vi r)], [], .nil⟩
def Zf (a0 : (List Qa)) (a1 : (ByteArray × Int × Int × Int × Int × Int)) (r : Unit) : VS := ⟨mkA [], [], .nil⟩
def Qe (k : Nat) (a0 : (List Qa)) (a1 : (ByteArray × Int × Int × Int × Int × Int)) : Nat -> Int -> Option (Sum Int Unit)
 | 0, _ => none
 | fuel + 1, x8 => if x8 < (a0.length : Int) then (if 0 <= x8 /\ x8 < (a0.length : Int) then ((Qfr k (a0.getD x8.toNat default) a1.1 a1.2.1 a1.2.2.1 a1.2.2.2.1 a1.2.2.2.2.1 a1.2.2.2.2.2).bind fun r12976 => (if r12976 = true then (some (.inl x8)) else (Qe k a0 a1 fuel (w64 (x8 + 1))))) else none) else (some (.inr ()))
theorem Yn (k : Nat) (a0 : (List Qa)) (a1 : (ByteArray × Int × Int × Int × Int × Int)) : ∀ (fuel : Nat) (x8 : Int) (r : Sum Int Unit), Qe k a0 a1 fuel x8 = some r -> (match r with | .inl r => Jb none Try.prog (szF Try.f87) (Zy Try.f87 0) (Qx a0 a1 x8) .ret (Ze a0 a1 r) | .inr r => Jb none Try.prog (szF Try.f87) (Zy Try.f87 0) (Qx a0 a1 x8) (.exit 0) (Zf a0 a1 r)) := by
 intro fuel
 induction fuel with
 | zero => intro x8 r h; rw [Qe.eq_1] at h; cases h
 | succ fuel ih =>
  intro x8 r h
  rw [Qe.eq_2] at h
  rcases ifs h with ⟨h12973, h⟩ | ⟨h12973, h⟩
  ·obtain ⟨h12974, h⟩ := ifn h
   have e12975 := (Qbm ag52 Qb 6 sz52 Xb a0 default h12974 rfl)
   obtain ⟨r12976, h12977, h⟩ := bs h
   have e12978 := (Qka k (a0.getD x8.toNat default) a1.1 a1.2.1 a1.2.2.1 a1.2.2.2.1 a1.2.2.2.2.1 a1.2.2.2.2.2 _ h12977)
   have e12979 := (t3 (an h12974 (an e12975 (an e12978 tt))))
   rcases ifs h with ⟨h12980, h⟩ | ⟨h12980, h⟩
   ·obtain rfl := si h
    exact Qk (c := ⟨[(4, none)], [], []⟩) (s1 := (Ze a0 a1 x8)) pm pn (ans := [.reg (.n :: []), .br true, .reg (.n :: .n :: []), .reg (nN 4 (.v (VV.ag (Qb (a0.getD x8.toNat default))) :: .call (vb r12976) :: [])), .br true, .reg (.n :: .n :: [])]) (by kernel_rfl) nofun (an (an (ti tt) (an (te h12973) (an (t2 tt) (an e12979 (an h12980 (an (t2 tt) tt)))))) (ti tt))
   ·have h2 := ih _ _ h
    obtain ⟨q, hv, hq⟩ := pK none Try.prog Try.f87 0 (Qx a0 a1 x8) [.reg (.n :: []), .br true, .reg (.n :: .n :: []), .reg (nN 4 (.v (VV.ag (Qb (a0.getD x8.toNat default))) :: .call (vb r12976) :: [])), .br false, .reg (.n :: .n :: [])] ⟨(tn [0, 1, 7, 8]), [], []⟩ .normal (Qx a0 a1 (w64 (x8 + 1))) (an (an (ti tt) (an (te h12973) (an (an (t2 tt) (an e12979 (an (Qn h12980) tt))) (t2 tt)))) (ti tt)) (by kernel_rfl)
    cases r <;> exact Qd pm pn hv hq h2
  ·obtain rfl := si h
   exact Qk (c := ⟨[], [], []⟩) (s1 := (Zf a0 a1 ())) pm pn (ans := [.reg (.n :: []), .br false]) (by kernel_rfl) nofun (an (an (ti tt) (tf h12973)) (ti tt))
def Q5 (k : Nat) (a0 : (List Qa)) (a1 : (ByteArray × Int × Int × Int × Int × Int)) : Option Int :=
 (Qe k a0 a1 k 0).bind fun r12982 => (match r12982 with | .inl r12983 => (some r12983) | .inr r12984 => (some (-1)))
theorem Wi (k : Nat) (a0 : (List Qa)) (a1 : (ByteArray × Int × Int × Int × Int × Int)) (r : Int) (h : Q5 k a0 a1 = some r) : VC Try.prog 87 [VV.tr (flatMap Qb a0) a0.length, VV.fn 77 [VV.tp [vs a1.1, vi a1.2.1, vi a1.2.2.1, vi a1.2.2.2.1, vi a1.2.2.2.2.1, vi a1.2.2.2.2.2] 0]] (vi r) := by
 unfold Q5 at h
 obtain ⟨r12982, h12981, h⟩ := bs h
 have hph12981 := Yn k a0 a1 _ _ _ h12981
 cases r12982 with
 | inl r12983 =>
  dsimp only at h
  have e12985 := (an (ti tt) (VRun.loop hph12981))
  obtain rfl := si h
  exact Qi pm pn Try.func87 (r0 := vi r12983) (ans := [.reg (.n :: []), .reg (nN 3 []), .sub ⟨(tn [0, 1, 7, 8]), [], []⟩ .ret (Ze a0 a1 r12983)]) (fr := true) (by kernel_rfl) (an (an (ti tt) (an (t3 tt) e12985)) (ti tt)) (Wv.refl _)
 | inr r12984 =>
  dsimp only at h
  have e12986 := (an (ti tt) (VRun.loop hph12981))
  obtain rfl := si h
  exact Qi pm pn Try.func87 (r0 := vi (-1)) (ans := [.reg (.n :: []), .reg (nN 3 []), .sub ⟨(tn [0, 1, 7, 8]), [], []⟩ (.exit 0) (Zf a0 a1 r12984), .reg (.n :: [])]) (fr := true) (by kernel_rfl) (an (an (ti tt) (an (an (t3 tt) e12986) (an (ti tt) tt))) (ti tt)) (Wv.refl _)
def Qy (k : Nat) (a0 : (List Qa)) (a1 : (ByteArray × Int × Int × Int × Int × Int)) : Option Bool :=
 (Q5 k a0 a1).bind fun r12990 => (some (decide (0 <= r12990)))
theorem Y2 (k : Nat) (a0 : (List Qa)) (a1 : (ByteArray × Int × Int × Int × Int × Int)) (r : Bool) (h : Qy k a0 a1 = some r) : VC Try.prog 76 [VV.tr (flatMap Qb a0) a0.length, VV.fn 77 [VV.tp [vs a1.1, vi a1.2.1, vi a1.2.2.1, vi a1.2.2.2.1, vi a1.2.2.2.2.1, vi a1.2.2.2.2.2] 0]] (vb r) := by
 unfold Qy at h
 obtain ⟨r12990, h12991, h⟩ := bs h
 have e12992 := (Wi k a0 a1 _ h12991)
 obtain rfl := si h
 exact Qi pm pn Try.func76 (r0 := vb (decide (0 <= r12990))) (ans := [.reg (.n :: []), .reg (.n :: .n :: .call (vi r12990) :: .n :: .n :: [])]) (fr := true) (by kernel_rfl) (an (an (ti tt) (an (t2 (an e12992 (t2 tt))) tt)) (ti tt)) (Wv.refl _)
theorem Q7l (z0 : (List Qa)) (z1 : Qa) : [VV.tr (flatMap Qb z0) z0.length, VV.fn 77 [VV.tp [vs ((z1.Name, z1.Azimuth, z1.Height, z1.From, z1.To, z1.Dwell).1), vi ((z1.Name, z1.Azimuth, z1.Height, z1.From, z1.To, z1.Dwell).2.1), vi ((z1.Name, z1.Azimuth, z1.Height, z1.From, z1.To, z1.Dwell).2.2.1), vi ((z1.Name, z1.Azimuth, z1.Height, z1.From, z1.To, z1.Dwell).2.2.2.1), vi ((z1.Name, z1.Azimuth, z1.Height, z1.From, z1.To, z1.Dwell).2.2.2.2.1), vi ((z1.Name, z1.Azimuth, z1.Height, z1.From, z1.To, z1.Dwell).2.2.2.2.2)] 0]] = [VV.tr (flatMap Qb z0) z0.length, VV.fn 77 [VV.tp [vs z1.Name, vi z1.Azimuth, vi z1.Height, vi z1.From, vi z1.To, vi z1.Dwell] 0]] := by first | rfl | (simp only [Qj, Qcb, map_cons, map_nil, un_i, un_s, Jg, length_cons, length_nil, Zr]; done) | (simp only [Qj, Qcb, map_cons, map_nil, un_i, un_s, Jg, length_cons, length_nil, Zr]; rfl) | (simp only [Qj, Qcb, map_cons, map_nil, un_i, un_s, Jg, length_cons, length_nil, Zr, Qb, length_cons, length_nil, length_append]; done)
def Qdn (k : Nat) (a0 : (List Qa)) (a1 : Qa) : Option Int :=
 (Qdi k a1).bind fun r12998 => (if r12998 = 0 then ((Qy k a0 (a1.Name, a1.Azimuth, a1.Height, a1.From, a1.To, a1.Dwell)).bind fun r13002 => (if r13002 = true then (some 5) else (some 0))) else (some r12998))
theorem Qlf (k : Nat) (a0 : (List Qa)) (a1 : Qa) (r : Int) (h : Qdn k a0 a1 = some r) : VC Try.prog 59 [VV.tr (flatMap Qb a0) a0.length, VV.ag (Qb a1)] (vi r) := by
 unfold Qdn at h
 have e12997 := (show Zg Try.prog 52 0 [vs a1.Name, vi a1.Azimuth, vi a1.Height, vi a1.From, vi a1.To, vi a1.Dwell] = some (VV.ag (Qb a1)) from (Q5y ag52 sz52 rfl))
 obtain ⟨r12998, h12999, h⟩ := bs h
 have e13000 := (an e12997 (an (Qlg k a1 _ h12999) (ti tt)))
 rcases ifs h with ⟨h13001, h⟩ | ⟨h13001, h⟩
 ·obtain ⟨r13002, h13003, h⟩ := bs h
  have e13004 := (VC.args (Y2 k a0 (a1.Name, a1.Azimuth, a1.Height, a1.From, a1.To, a1.Dwell) _ h13003) (Q7l a0 a1))
  rcases ifs h with ⟨h13005, h⟩ | ⟨h13005, h⟩
  ·obtain rfl := si h
   exact Qi pm pn Try.func59 (r0 := vi 5) (ans := [.reg (.n :: .n :: []), .frz 0, .reg (.v (VV.ag (Qb a1)) :: .call (vi r12998) :: .n :: []), .reg (.n :: .n :: []), .br false, .reg (.n :: .n :: .call (vb r13002) :: []), .br true, .reg (.n :: [])]) (fr := true) (by kernel_rfl) (an (an (t2 tt) (an (an e13000 (an (t2 tt) (ta h13001))) (an (t2 (an e13004 tt)) (an h13005 (an (ti tt) tt))))) (ti tt)) (Wv.refl _)
  ·obtain rfl := si h
   exact Qi pm pn Try.func59 (r0 := vi 0) (ans := [.reg (.n :: .n :: []), .frz 0, .reg (.v (VV.ag (Qb a1)) :: .call (vi r12998) :: .n :: []), .reg (.n :: .n :: []), .br false, .reg (.n :: .n :: .call (vb r13002) :: []), .br false, .reg (.n :: [])]) (fr := true) (by kernel_rfl) (an (an (t2 tt) (an (an e13000 (an (t2 tt) (ta h13001))) (an (an (t2 (an e13004 tt)) (an (Qn h13005) tt)) (an (ti tt) tt)))) (ti tt)) (Wv.refl _)
 ·obtain rfl := si h
  exact Qi pm pn Try.func59 (r0 := vi r12998) (ans := [.reg (.n :: .n :: []), .frz 0, .reg (.v (VV.ag (Qb a1)) :: .call (vi r12998) :: .n :: []), .reg (.n :: .n :: []), .br true, .reg (.n :: .n :: [])]) (fr := true) (by kernel_rfl) (an (an (t2 tt) (an e13000 (an (t2 tt) (an (td h13001) (an (t2 tt) tt))))) (ti tt)) (Wv.refl _)
def Q0o (z0 : (List Qa)) (z1 : Int) (z2 : Int) : List Ans := (.n :: .n :: .v (VV.tr (flatMap Qb (sl z0 0 ((z1).toNat))) ((sl z0 0 ((z1).toNat)).length)) :: .n :: .call (vi z2) :: .n :: [])
theorem Qth  : vi 0 = vi ((⟨0, []⟩ : X9).begin) := by first | rfl | (simp only [Qj, map_cons, map_nil, un_i]; done) | (simp only [Qj, map_cons, map_nil, un_i]; rfl) | (simp only [Qj, map_cons, map_nil, un_i, length_cons, length_nil, length_append]; done)
def Qd6 (a0 : Qc) (a1 : (List Qa)) (a2 : A26) (y4 : List Jj) (x52 : Int) : VS := ⟨mkA [(1, VV.tr (flatMap Qb a1) a1.length), (3, VV.pt 0 0), (6, VV.pt 2 0), (10, vi a2.e0), (13, VV.pt 3 0), (50, VV.tr (flatMap Qb a1) a1.length), (51, vi (a1.length : Int)), (52, vi x52)], [some ⟨true, 1, Qp a0⟩, some ⟨true, 1, Qch a2⟩, some ⟨true, 1, [vi 0, VV.c (.slice none 0 0)]⟩, some ⟨true, 1, [vi a2.e1, VV.rf 4 0 y4.length]⟩, some ⟨false, 8, flatMap Qel y4⟩], .nil⟩
def Qdo (a0 : Qc) (a1 : (List Qa)) (a2 : A26) (r : Int × Int) : VS := ⟨mkA [(6, VV.pt 2 0), (7, vi r.1), (8, vi r.2)], [some ⟨true, 1, Qp a0⟩, some ⟨true, 1, Qch a2⟩, some ⟨true, 1, [vi 0, VV.c (.slice none 0 0)]⟩], .nil⟩
def Qfh (a0 : Qc) (a1 : (List Qa)) (a2 : A26) (r : (List Jj)) : VS := ⟨mkA [(6, VV.pt 2 0), (13, VV.pt 3 0)], [some ⟨true, 1, Qp a0⟩, some ⟨true, 1, Qch a2⟩, some ⟨true, 1, [vi 0, VV.c (.slice none 0 0)]⟩, some ⟨true, 1, [vi a2.e1, VV.rf 4 0 r.length]⟩, some ⟨false, 8, flatMap Qel r⟩], .nil⟩
def Yk (k : Nat) (a0 : Qc) (a1 : (List Qa)) (a2 : A26) : Nat -> (List Jj) -> Int -> Option (Sum (Int × Int) (List Jj))
 | 0, _, _ => none
 | fuel + 1, y4, x52 => if x52 < (a1.length : Int) then (if 0 <= x52 /\ x52 < (a1.length : Int) then (if 0 <= (0 : Int) /\ (0 : Int) <= x52 /\ x52 <= (a1.length : Int) then ((Qdn k (sl a1 0 ((x52).toNat)) (a1.getD x52.toNat default)).bind fun r13155 => (if r13155 = 0 then ((Qgc k a0 (a1.getD x52.toNat default) a2.e0).bind fun r13160 => (if r13160.2 = 0 then (if y4.length + ([r13160.1] : List Jj).length <= 1000000000 then (Yk k a0 a1 a2 fuel (y4 ++ ([r13160.1] : List Jj)) (w64 (x52 + 1))) else none) else (some (.inl (x52, r13160.2))))) else (some (.inl (x52, r13155))))) else none) else none) else (some (.inr y4))
theorem Qlh (k : Nat) (a0 : Qc) (a1 : (List Qa)) (a2 : A26) : ∀ (fuel : Nat) (y4 : List Jj) (x52 : Int) (r : Sum (Int × Int) (List Jj)), Yk k a0 a1 a2 fuel y4 x52 = some r -> (match r with | .inl r => Jb none Try.prog (szF Try.f26) (Zy Try.f26 0) (Qd6 a0 a1 a2 y4 x52) .ret (Qdo a0 a1 a2 r) | .inr r => Jb none Try.prog (szF Try.f26) (Zy Try.f26 0) (Qd6 a0 a1 a2 y4 x52) (.exit 0) (Qfh a0 a1 a2 r)) := by
 intro fuel
 induction fuel with
 | zero => intro y4 x52 r h; rw [Yk.eq_1] at h; cases h
 | succ fuel ih =>
  intro y4 x52 r h
  rw [Yk.eq_2] at h
  rcases ifs h with ⟨h13149, h⟩ | ⟨h13149, h⟩
  ·obtain ⟨h13150, h⟩ := ifn h
   have e13151 := (Qbm ag52 Qb 6 sz52 Xb a1 default h13150 rfl)
   have e13152 := (ti (an h13150 (an e13151 (t3 tt))))
   obtain ⟨h13153, h⟩ := ifn h
   have e13154 := (show (True /\ 0 <= x52 /\ 0 <= (x52).toNat /\ (x52).toNat <= a1.length /\ (x52).toNat * 6 <= List.length (flatMap Qb a1)) /\ VV.tr (List.take (((x52).toNat - 0) * 6) (List.drop (0 * 6) (flatMap Qb a1))) ((x52).toNat - 0) = VV.tr (flatMap Qb (sl a1 0 ((x52).toNat))) ((sl a1 0 ((x52).toNat)).length) from ⟨⟨tt, (by have := h13153; omega), (by have := h13153; omega), (by have := h13153; omega), (by rw [Qfg Xb]; have := h13153; omega)⟩, (by exact Q3t Xb a1 0 ((x52).toNat) (by have := h13153; omega) (by have := h13153; omega))⟩)
   obtain ⟨r13155, h13156, h⟩ := bs h
   have e13157 := (Qlf k (sl a1 0 ((x52).toNat)) (a1.getD x52.toNat default) _ h13156)
   have e13158 := (t2 (an e13154 (ti (an e13157 (ti tt)))))
   rcases ifs h with ⟨h13159, h⟩ | ⟨h13159, h⟩
   ·obtain ⟨r13160, h13161, h⟩ := bs h
    have e13162 := (show VC Try.prog 60 [VV.ag (Qp a0), VV.ag (Qb (a1.getD x52.toNat default)), vi a2.e0] (VV.tu [VV.ag (Qel r13160.1), vi r13160.2]) from (VC.weak (Qob k a0 (a1.getD x52.toNat default) a2.e0 _ h13161) (Wv.tuL (.cons (Wv.agL (.cons (Wv.refl _) (.cons (Wv.refl _) (.cons (Wv.refl _) (.cons (Wv.refl _) (.cons (Wv.refl _) (.cons (Wv.refl _) (.cons (Wv.fw rfl rfl) (.cons (Wv.fw rfl rfl) .nil))))))))) (.cons (Wv.refl _) .nil)))))
    have e13163 := (t3 (an e13162 (t6 tt)))
    rcases ifs h with ⟨h13164, h⟩ | ⟨h13164, h⟩
    ·obtain ⟨h13165, h⟩ := ifn h
     have e13166 := (show List.length (flatMap Qel y4) = y4.length * 8 /\ List.length [vs r13160.1.SkyTarget.Name, vi r13160.1.SkyTarget.Azimuth, vi r13160.1.SkyTarget.Height, vi r13160.1.SkyTarget.From, vi r13160.1.SkyTarget.To, vi r13160.1.SkyTarget.Dwell, VV.fr (List.map vi r13160.1.turns) r13160.1.turns.length, VV.fr (List.map vi r13160.1.positions) r13160.1.positions.length] = 1 * 8 /\ (y4.length + 1) * 104 <= 140737488355328 /\ y4.length + 1 < 1099511627776 /\ List.all [vs r13160.1.SkyTarget.Name, vi r13160.1.SkyTarget.Azimuth, vi r13160.1.SkyTarget.Height, vi r13160.1.SkyTarget.From, vi r13160.1.SkyTarget.To, vi r13160.1.SkyTarget.Dwell, VV.fr (List.map vi r13160.1.turns) r13160.1.turns.length, VV.fr (List.map vi r13160.1.positions) r13160.1.positions.length] VV.still = true from ⟨(by rw [Qfg Qpp] <;> simp), (by rw [show [vs r13160.1.SkyTarget.Name, vi r13160.1.SkyTarget.Azimuth, vi r13160.1.SkyTarget.Height, vi r13160.1.SkyTarget.From, vi r13160.1.SkyTarget.To, vi r13160.1.SkyTarget.Dwell, VV.fr (List.map vi r13160.1.turns) r13160.1.turns.length, VV.fr (List.map vi r13160.1.positions) r13160.1.positions.length] = flatMap Qel ([r13160.1] : List Jj) from rfl]; rw [Qfg Qpp] <;> simp), (by first | omega | (simp at h13165 ⊢; omega)), (by first | omega | (simp at h13165 ⊢; omega)), (by rw [show [vs r13160.1.SkyTarget.Name, vi r13160.1.SkyTarget.Azimuth, vi r13160.1.SkyTarget.Height, vi r13160.1.SkyTarget.From, vi r13160.1.SkyTarget.To, vi r13160.1.SkyTarget.Dwell, VV.fr (List.map vi r13160.1.turns) r13160.1.turns.length, VV.fr (List.map vi r13160.1.positions) r13160.1.positions.length] = flatMap Qel ([r13160.1] : List Jj) from rfl]; exact Qr1 _)⟩)
     have h2 := ih _ _ _ h
     obtain ⟨q, hv, hq⟩ := pK none Try.prog Try.f26 0 (Qd6 a0 a1 a2 y4 x52) [.reg (.n :: []), .br true, .reg (.n :: .n :: .v (VV.ag (Qb (a1.getD x52.toNat default))) :: nN 3 []), .reg (Q0o a1 x52 r13155), .reg (.n :: .n :: []), .br false, .reg (nN 3 (.call (VV.tu [VV.ag (Qel r13160.1), vi r13160.2]) :: nN 6 [])), .reg (.n :: .n :: []), .br false, .reg (nN 7 []), .reg (.n :: .n :: [])] ⟨(tn [1, 3, 6, 10, 13, 50, 51, 52]), [none, none, none, some [vi a2.e1, VV.rf 4 0 ((y4 ++ ([r13160.1] : List Jj)).length)], some (flatMap Qel (y4 ++ ([r13160.1] : List Jj)))], []⟩ .normal (Qd6 a0 a1 a2 (y4 ++ ([r13160.1] : List Jj)) (w64 (x52 + 1))) (an (an (ti tt) (an (te h13149) (an (an e13152 (an (an e13158 (an (t2 tt) (ta h13159))) (an e13163 (an (an (t2 tt) (ta h13164)) (t4 (an e13166 (t2 tt))))))) (t2 tt)))) (ti (an (show [vi a2.e1, VV.rf 4 0 (y4.length + 1)] = [vi a2.e1, VV.rf 4 0 ((y4 ++ ([r13160.1] : List Jj)).length)] from (by first | rfl | simp)) (an (show (flatMap Qel y4) ++ [vs r13160.1.SkyTarget.Name, vi r13160.1.SkyTarget.Azimuth, vi r13160.1.SkyTarget.Height, vi r13160.1.SkyTarget.From, vi r13160.1.SkyTarget.To, vi r13160.1.SkyTarget.Dwell, VV.fr (List.map vi r13160.1.turns) r13160.1.turns.length, VV.fr (List.map vi r13160.1.positions) r13160.1.positions.length] = flatMap Qel (y4 ++ ([r13160.1] : List Jj)) from (by rw [show [vs r13160.1.SkyTarget.Name, vi r13160.1.SkyTarget.Azimuth, vi r13160.1.SkyTarget.Height, vi r13160.1.SkyTarget.From, vi r13160.1.SkyTarget.To, vi r13160.1.SkyTarget.Dwell, VV.fr (List.map vi r13160.1.turns) r13160.1.turns.length, VV.fr (List.map vi r13160.1.positions) r13160.1.positions.length] = flatMap Qel ([r13160.1] : List Jj) from rfl]; exact List.flatMap_append.symm)) tt)))) (by kernel_rfl)
     cases r <;> exact Qd pm pn hv hq h2
    ·obtain rfl := si h
     exact Qk (c := ⟨(tn [6, 7, 8]), [none, none, none], []⟩) (s1 := (Qdo a0 a1 a2 (x52, r13160.2))) pm pn (ans := [.reg (.n :: []), .br true, .reg (.n :: .n :: .v (VV.ag (Qb (a1.getD x52.toNat default))) :: nN 3 []), .reg (Q0o a1 x52 r13155), .reg (.n :: .n :: []), .br false, .reg (nN 3 (.call (VV.tu [VV.ag (Qel r13160.1), vi r13160.2]) :: nN 6 [])), .reg (.n :: .n :: []), .br true, .reg (nN 6 [])]) (by kernel_rfl) nofun (an (an (ti tt) (an (te h13149) (an e13152 (an (an e13158 (an (t2 tt) (ta h13159))) (an e13163 (an (t2 tt) (an (td h13164) (an (t6 tt) tt)))))))) (ti tt))
   ·obtain rfl := si h
    exact Qk (c := ⟨(tn [6, 7, 8]), [none, none, none], []⟩) (s1 := (Qdo a0 a1 a2 (x52, r13155))) pm pn (ans := [.reg (.n :: []), .br true, .reg (.n :: .n :: .v (VV.ag (Qb (a1.getD x52.toNat default))) :: nN 3 []), .reg (Q0o a1 x52 r13155), .reg (.n :: .n :: []), .br true, .reg (nN 6 [])]) (by kernel_rfl) nofun (an (an (ti tt) (an (te h13149) (an e13152 (an e13158 (an (t2 tt) (an (td h13159) (an (t6 tt) tt))))))) (ti tt))
  ·obtain rfl := si h
   exact Qk (c := ⟨(tn [6, 13]), [none, none, none, none, none], []⟩) (s1 := (Qfh a0 a1 a2 y4)) pm pn (ans := [.reg (.n :: []), .br false]) (by kernel_rfl) nofun (an (an (ti tt) (tf h13149)) (ti tt))
theorem Q7m (z0 : A26) (z1 : (List Jj)) : VV.tu [VV.ag [vi z0.e1, VV.fw 8 (List.drop 0 (List.map unfr (flatMap Qel z1))) z1.length], vi 0, vi 0] = VV.tu [VV.ag [vi ((⟨z0.e1, z1⟩ : X9).begin), VV.fw 8 (flatMap Zi ((⟨z0.e1, z1⟩ : X9).stops)) (((⟨z0.e1, z1⟩ : X9).stops).length)], vi 0, vi 0] := by first | rfl | (simp only [Qdb, Qj, map_cons, map_nil, un_i, length_map, length_cons, length_nil, Yw, Yx]; done) | (simp only [Qdb, Qj, map_cons, map_nil, un_i, length_map, length_cons, length_nil, Yw, Yx]; rfl) | (simp only [Qdb, Qj, map_cons, map_nil, un_i, length_map, length_cons, length_nil, Yw, Yx, Qel, Zi, length_cons, length_nil, length_append]; done)
def Qeq (k : Nat) (a0 : Qc) (a1 : (List Qa)) (a2 : A26) : Option (X9 × Int × Int) :=
 (Qd8 k a0).bind fun r13078 => (if r13078 = 0 then ((Qgl k a2.e0).bind fun r13085 => (if r13085 = 0 then ((Zv k a0.Least a0.Most ([a2.e1] : List Int)).bind fun r13089 => (if r13089 = true then (if 20 < (a1.length : Int) then (some ((⟨0, []⟩ : X9), 0, 8)) else ((Yk k a0 a1 a2 k ([] : List Jj) 0).bind fun r13168 => (match r13168 with | .inl r13169 => (some ((⟨0, []⟩ : X9), r13169.1, r13169.2)) | .inr r13170 => (some ((⟨a2.e1, r13170⟩ : X9), 0, 0))))) else (some ((⟨0, []⟩ : X9), 0, 2)))) else (some ((⟨0, []⟩ : X9), 0, r13085)))) else (some ((⟨0, []⟩ : X9), 0, r13078)))
theorem Qhl (k : Nat) (a0 : Qc) (a1 : (List Qa)) (a2 : A26) (r : (X9 × Int × Int)) (h : Qeq k a0 a1 a2 = some r) : VC Try.prog 26 [VV.ag (Qp a0), VV.tr (flatMap Qb a1) a1.length, VV.ag (Qch a2)] (VV.tu [VV.ag [vi r.1.begin, VV.fw 8 (flatMap Zi r.1.stops) r.1.stops.length], vi r.2.1, vi r.2.2]) := by
 unfold Qeq at h
 obtain ⟨r13078, h13079, h⟩ := bs h
 have e13080 := (ti (an (Ql1 k a0 _ h13079) (ti tt)))
 rcases ifs h with ⟨h13081, h⟩ | ⟨h13081, h⟩
 ·have e13082 := (show (0:Int) <= 0 /\ (0:Int) < ((2 : Nat) : Int) from ⟨by decide, by decide⟩)
  have e13083 := (show (0:Int) <= 1 /\ (1:Int) < ((2 : Nat) : Int) from ⟨by decide, by decide⟩)
  have e13084 := (an e13082 (ti (an e13083 (t3 tt))))
  obtain ⟨r13085, h13086, h⟩ := bs h
  have e13087 := (ti (an (Qnf k a2.e0 _ h13086) (ti tt)))
  rcases ifs h with ⟨h13088, h⟩ | ⟨h13088, h⟩
  ·obtain ⟨r13089, h13090, h⟩ := bs h
   have e13091 := (VC.args (Xk k a0.Least a0.Most ([a2.e1] : List Int) _ h13090) (Q7k a0 a2))
   have e13092 := (t6 (an e13091 (ti tt)))
   rcases ifs h with ⟨h13093, h⟩ | ⟨h13093, h⟩
   ·rcases ifs h with ⟨h13094, h⟩ | ⟨h13094, h⟩
    ·obtain rfl := si h
     exact Qi pm pn Try.func26 (r0 := VV.tu [VV.ag [vi 0, VV.c (.slice none 0 0)], vi 0, vi 8]) (ans := [.reg (nN 5 []), .reg (.n :: .call (vi r13078) :: .n :: []), .reg (.n :: .n :: []), .br false, .reg (nN 6 []), .reg (.n :: .call (vi r13085) :: .n :: []), .reg (.n :: .n :: []), .br false, .reg (nN 5 (.v VV.any :: .call (vb r13089) :: .n :: [])), .br false, .reg (nN 3 []), .br true, .reg (nN 4 [])]) (fr := true) (by kernel_rfl) (an (an (t5 tt) (an (an e13080 (an (t2 tt) (ta h13081))) (an e13084 (an (an e13087 (an (t2 tt) (ta h13088))) (an (an e13092 (an (Qh h13093) tt)) (an (t3 tt) (an (dt h13094) (an (t4 tt) tt)))))))) (an (t3 tt) (t2 tt))) (Wv.tuL (.cons (Wv.agL (.cons (Wv.of_eq Qth) (.cons Wv.Qmv .nil))) (.cons (Wv.refl _) (.cons (Wv.refl _) .nil))))
    ·obtain ⟨r13168, h13167, h⟩ := bs h
     have hph13167 := Qlh k a0 a1 a2 _ _ _ _ h13167
     cases r13168 with
     | inl r13169 =>
      dsimp only at h
      have e13171 := (an (ti tt) (VRun.loop hph13167))
      obtain rfl := si h
      exact Qi pm pn Try.func26 (r0 := VV.tu [VV.ag [vi 0, VV.c (.slice none 0 0)], vi r13169.1, vi r13169.2]) (ans := [.reg (nN 5 []), .reg (.n :: .call (vi r13078) :: .n :: []), .reg (.n :: .n :: []), .br false, .reg (nN 6 []), .reg (.n :: .call (vi r13085) :: .n :: []), .reg (.n :: .n :: []), .br false, .reg (nN 5 (.v VV.any :: .call (vb r13089) :: .n :: [])), .br false, .reg (nN 3 []), .br false, .reg (nN 4 []), .reg (nN 3 []), .sub ⟨(tn [1, 3, 6, 10, 13, 50, 51, 52]), [none, none, none, none], [.b 3 1 8]⟩ .ret (Qdo a0 a1 a2 r13169)]) (fr := true) (by kernel_rfl) (an (an (t5 tt) (an (an e13080 (an (t2 tt) (ta h13081))) (an e13084 (an (an e13087 (an (t2 tt) (ta h13088))) (an (an e13092 (an (Qh h13093) tt)) (an (an (t3 tt) (tf h13094)) (an (t4 tt) (an (t3 tt) e13171)))))))) (an (t3 tt) (t2 tt))) (Wv.tuL (.cons (Wv.agL (.cons (Wv.of_eq Qth) (.cons Wv.Qmv .nil))) (.cons (Wv.refl _) (.cons (Wv.refl _) .nil))))
     | inr r13170 =>
      dsimp only at h
      have e13172 := (an (ti tt) (VRun.loop hph13167))
      obtain rfl := si h
      exact Qi pm pn Try.func26 (r0 := VV.tu [VV.ag [vi a2.e1, VV.fw 8 (List.drop 0 (List.map unfr (flatMap Qel r13170))) r13170.length], vi 0, vi 0]) (ans := [.reg (nN 5 []), .reg (.n :: .call (vi r13078) :: .n :: []), .reg (.n :: .n :: []), .br false, .reg (nN 6 []), .reg (.n :: .call (vi r13085) :: .n :: []), .reg (.n :: .n :: []), .br false, .reg (nN 5 (.v VV.any :: .call (vb r13089) :: .n :: [])), .br false, .reg (nN 3 []), .br false, .reg (nN 4 []), .reg (nN 3 []), .sub ⟨(tn [1, 3, 6, 10, 13, 50, 51, 52]), [none, none, none, none], [.b 3 1 8]⟩ (.exit 0) (Qfh a0 a1 a2 r13170), .reg (nN 4 [])]) (fr := true) (by kernel_rfl) (an (an (t5 tt) (an (an e13080 (an (t2 tt) (ta h13081))) (an e13084 (an (an e13087 (an (t2 tt) (ta h13088))) (an (an e13092 (an (Qh h13093) tt)) (an (an (t3 tt) (tf h13094)) (an (t4 tt) (an (an (t3 tt) e13172) (an (t4 tt) tt))))))))) (an (t2 (an (show List.all (flatMap Qel r13170) new0 = true from (by exact Qti _)) tt)) (t2 tt))) (Wv.of_eq (Q7m a2 r13170))
   ·obtain rfl := si h
    exact Qi pm pn Try.func26 (r0 := VV.tu [VV.ag [vi 0, VV.c (.slice none 0 0)], vi 0, vi 2]) (ans := [.reg (nN 5 []), .reg (.n :: .call (vi r13078) :: .n :: []), .reg (.n :: .n :: []), .br false, .reg (nN 6 []), .reg (.n :: .call (vi r13085) :: .n :: []), .reg (.n :: .n :: []), .br false, .reg (nN 5 (.v VV.any :: .call (vb r13089) :: .n :: [])), .br true, .reg (nN 4 [])]) (fr := true) (by kernel_rfl) (an (an (t5 tt) (an (an e13080 (an (t2 tt) (ta h13081))) (an e13084 (an (an e13087 (an (t2 tt) (ta h13088))) (an e13092 (an (Qr (Qn h13093)) (an (t4 tt) tt))))))) (an (t3 tt) (t2 tt))) (Wv.tuL (.cons (Wv.agL (.cons (Wv.of_eq Qth) (.cons Wv.Qmv .nil))) (.cons (Wv.refl _) (.cons (Wv.refl _) .nil))))
  ·obtain rfl := si h
   exact Qi pm pn Try.func26 (r0 := VV.tu [VV.ag [vi 0, VV.c (.slice none 0 0)], vi 0, vi r13085]) (ans := [.reg (nN 5 []), .reg (.n :: .call (vi r13078) :: .n :: []), .reg (.n :: .n :: []), .br false, .reg (nN 6 []), .reg (.n :: .call (vi r13085) :: .n :: []), .reg (.n :: .n :: []), .br true, .reg (nN 5 [])]) (fr := true) (by kernel_rfl) (an (an (t5 tt) (an (an e13080 (an (t2 tt) (ta h13081))) (an e13084 (an e13087 (an (t2 tt) (an (td h13088) (an (t5 tt) tt))))))) (an (t3 tt) (t2 tt))) (Wv.tuL (.cons (Wv.agL (.cons (Wv.of_eq Qth) (.cons Wv.Qmv .nil))) (.cons (Wv.refl _) (.cons (Wv.refl _) .nil))))
 ·obtain rfl := si h
  exact Qi pm pn Try.func26 (r0 := VV.tu [VV.ag [vi 0, VV.c (.slice none 0 0)], vi 0, vi r13078]) (ans := [.reg (nN 5 []), .reg (.n :: .call (vi r13078) :: .n :: []), .reg (.n :: .n :: []), .br true, .reg (nN 5 [])]) (fr := true) (by kernel_rfl) (an (an (t5 tt) (an e13080 (an (t2 tt) (an (td h13081) (an (t5 tt) tt))))) (an (t3 tt) (t2 tt))) (Wv.tuL (.cons (Wv.agL (.cons (Wv.of_eq Qth) (.cons Wv.Qmv .nil))) (.cons (Wv.refl _) (.cons (Wv.refl _) .nil))))
def Q3c (z0 : (List Qa)) (z1 : Int) (z2 : Int) : List Ans := (nN 4 (.v (vs ((z0.getD z1.toNat default).Name)) :: nN 4 (.v (vs ((z0.getD z2.toNat default).Name)) :: .n :: [])))
def Qwh (z0 : (List Qa)) (z1 : Int) (z2 : Int) : List Ans := (nN 3 (.v (VV.ag (Qb (z0.getD z1.toNat default))) :: .call (vi z2) :: .n :: []))
def Q3d (z0 : (List Qa)) (z1 : Int) (z2 : ((List Int) × Int)) : List Ans := (nN 4 (.v (VV.ag (Qb (z0.getD z1.toNat default))) :: .n :: .n :: .call (VV.tu [VV.fr (List.map vi z2.1) z2.1.length, vi z2.2]) :: nN 5 []))
def Y7 (a0 : Qc) (a1 : (List Qa)) (a2 : A26) (x9 : Int) (x11 : Int) : VS := ⟨mkA [(1, VV.tr (flatMap Qb a1) a1.length), (3, VV.pt 0 0), (5, VV.pt 1 0), (9, vi x9), (11, vi x11)], [some ⟨true, 1, Qp a0⟩, some ⟨true, 1, Qch a2⟩], .nil⟩
def Qa8 (a0 : Qc) (a1 : (List Qa)) (a2 : A26) (x9 : Int) (r : Unit) : VS := ⟨mkA [(6, vi x9), (7, vi 5)], [], .nil⟩
def Yv (a0 : Qc) (a1 : (List Qa)) (a2 : A26) (x9 : Int) (r : Unit) : VS := ⟨mkA [(1, VV.tr (flatMap Qb a1) a1.length), (3, VV.pt 0 0), (5, VV.pt 1 0), (9, vi x9)], [some ⟨true, 1, Qp a0⟩, some ⟨true, 1, Qch a2⟩], .nil⟩
def Zw (k : Nat) (a0 : Qc) (a1 : (List Qa)) (a2 : A26) (x9 : Int) : Nat -> Int -> Option (Sum Unit Unit)
 | 0, _ => none
 | fuel + 1, x11 => if x11 < x9 then (if 0 <= x11 /\ x11 < (a1.length : Int) then (if 0 <= x9 /\ x9 < (a1.length : Int) then (if ((a1.getD x11.toNat default).Name) = ((a1.getD x9.toNat default).Name) then (some (.inl ())) else (Zw k a0 a1 a2 x9 fuel (w64 (x11 + 1)))) else none) else none) else (some (.inr ()))
theorem Qgt (k : Nat) (a0 : Qc) (a1 : (List Qa)) (a2 : A26) (x9 : Int) : ∀ (fuel : Nat) (x11 : Int) (r : Sum Unit Unit), Zw k a0 a1 a2 x9 fuel x11 = some r -> (match r with | .inl r => Jb none Try.prog (szF Try.f10) (Zy Try.f10 1) (Y7 a0 a1 a2 x9 x11) .ret (Qa8 a0 a1 a2 x9 r) | .inr r => Jb none Try.prog (szF Try.f10) (Zy Try.f10 1) (Y7 a0 a1 a2 x9 x11) (.exit 2) (Yv a0 a1 a2 x9 r)) := by
 intro fuel
 induction fuel with
 | zero => intro x11 r h; rw [Zw.eq_1] at h; cases h
 | succ fuel ih =>
  intro x11 r h
  rw [Zw.eq_2] at h
  rcases ifs h with ⟨h13396, h⟩ | ⟨h13396, h⟩
  ·obtain ⟨h13397, h⟩ := ifn h
   have e13398 := (show Zg Try.prog 9 (x11.toNat * 6 + 0) (flatMap Qb a1) = some (vs ((a1.getD x11.toNat default).Name)) from (Qdr ag9 Qb 6 0 Xb (by omega) a1 default h13397 (by omega)).trans rfl)
   obtain ⟨h13399, h⟩ := ifn h
   have e13400 := (show Zg Try.prog 9 (x9.toNat * 6 + 0) (flatMap Qb a1) = some (vs ((a1.getD x9.toNat default).Name)) from (Qdr ag9 Qb 6 0 Xb (by omega) a1 default h13399 (by omega)).trans rfl)
   have e13401 := (t2 (an h13397 (ti (an e13398 (t2 (an h13399 (ti (an e13400 (ti tt)))))))))
   rcases ifs h with ⟨h13402, h⟩ | ⟨h13402, h⟩
   ·obtain rfl := si h
    exact Qk (c := ⟨(tn [6, 7]), [], []⟩) (s1 := (Qa8 a0 a1 a2 x9 ())) pm pn (ans := [.reg (nN 3 []), .br true, .reg (Q3c a1 x11 x9), .br true, .reg (nN 3 [])]) (by kernel_rfl) nofun (an (an (an (t3 tt) (te h13396)) (an e13401 (an (dt h13402) (an (t3 tt) tt)))) (ti tt))
   ·have h2 := ih _ _ h
    obtain ⟨q, hv, hq⟩ := pK none Try.prog Try.f10 1 (Y7 a0 a1 a2 x9 x11) [.reg (nN 3 []), .br true, .reg (Q3c a1 x11 x9), .br false, .reg (nN 3 [])] ⟨(tn [1, 3, 5, 9, 11]), [none, none], []⟩ .normal (Y7 a0 a1 a2 x9 (w64 (x11 + 1))) (an (an (an (t3 tt) (te h13396)) (an (an e13401 (tf h13402)) (t3 tt))) (ti tt)) (by kernel_rfl)
    cases r <;> exact Qd pm pn hv hq h2
  ·obtain rfl := si h
   exact Qk (c := ⟨(tn [1, 3, 5, 9]), [none, none], []⟩) (s1 := (Yv a0 a1 a2 x9 ())) pm pn (ans := [.reg (nN 3 []), .br false]) (by kernel_rfl) nofun (an (an (t3 tt) (tf h13396)) (ti tt))
def Y8 (a0 : Qc) (a1 : (List Qa)) (a2 : A26) (x9 : Int) : VS := ⟨mkA [(1, VV.tr (flatMap Qb a1) a1.length), (3, VV.pt 0 0), (5, VV.pt 1 0), (9, vi x9)], [some ⟨true, 1, Qp a0⟩, some ⟨true, 1, Qch a2⟩], .nil⟩
def Jr (a0 : Qc) (a1 : (List Qa)) (a2 : A26) (r : Int × Int) : VS := ⟨mkA [(6, vi r.1), (7, vi r.2)], [], .nil⟩
def Qa9 (a0 : Qc) (a1 : (List Qa)) (a2 : A26) (r : Unit) : VS := ⟨mkA [], [], .nil⟩
def Zx (k : Nat) (a0 : Qc) (a1 : (List Qa)) (a2 : A26) : Nat -> Int -> Option (Sum (Int × Int) Unit)
 | 0, _ => none
 | fuel + 1, x9 => if x9 < (a1.length : Int) then (if 0 <= x9 /\ x9 < (a1.length : Int) then ((Y9 k (a1.getD x9.toNat default)).bind fun r13377 => (if r13377 = 0 then ((Zw k a0 a1 a2 x9 k 0).bind fun r13404 => (match r13404 with | .inl r13405 => (some (.inl (x9, 5))) | .inr r13406 => ((Jv k a0 (a1.getD x9.toNat default) a2.e0).bind fun r13411 => (if r13411.2 = 0 then (Zx k a0 a1 a2 fuel (w64 (x9 + 1))) else (some (.inl (x9, r13411.2))))))) else (some (.inl (x9, r13377))))) else none) else (some (.inr ()))
theorem Qgu (k : Nat) (a0 : Qc) (a1 : (List Qa)) (a2 : A26) : ∀ (fuel : Nat) (x9 : Int) (r : Sum (Int × Int) Unit), Zx k a0 a1 a2 fuel x9 = some r -> (match r with | .inl r => Jb none Try.prog (szF Try.f10) (Zy Try.f10 0) (Y8 a0 a1 a2 x9) .ret (Jr a0 a1 a2 r) | .inr r => Jb none Try.prog (szF Try.f10) (Zy Try.f10 0) (Y8 a0 a1 a2 x9) (.exit 0) (Qa9 a0 a1 a2 r)) := by
 intro fuel
 induction fuel with
 | zero => intro x9 r h; rw [Zx.eq_1] at h; cases h
 | succ fuel ih =>
  intro x9 r h
  rw [Zx.eq_2] at h
  rcases ifs h with ⟨h13374, h⟩ | ⟨h13374, h⟩
  ·obtain ⟨h13375, h⟩ := ifn h
   have e13376 := (Qbm ag52 Qb 6 sz52 Xb a1 default h13375 rfl)
   obtain ⟨r13377, h13378, h⟩ := bs h
   have e13379 := (Qhp k (a1.getD x9.toNat default) _ h13378)
   have e13380 := (t2 (an h13375 (an e13376 (an e13379 (ti tt)))))
   rcases ifs h with ⟨h13381, h⟩ | ⟨h13381, h⟩
   ·obtain ⟨r13404, h13403, h⟩ := bs h
    have hph13403 := Qgt k a0 a1 a2 x9 _ _ _ h13403
    cases r13404 with
    | inl r13405 =>
     dsimp only at h
     have e13407 := (an (ti tt) (VRun.loop hph13403))
     obtain rfl := si h
     exact Qk (c := ⟨(tn [6, 7]), [], []⟩) (s1 := (Jr a0 a1 a2 (x9, 5))) pm pn (ans := [.reg (nN 4 []), .br true, .reg (Qwh a1 x9 r13377), .reg (.n :: .n :: []), .br false, .reg (.n :: []), .sub ⟨(tn [1, 3, 5, 9, 11]), [none, none], []⟩ .ret (Qa8 a0 a1 a2 x9 r13405)]) (by kernel_rfl) nofun (an (an (an (t4 tt) (te h13374)) (an (an e13380 (an (t2 tt) (ta h13381))) (an (ti tt) e13407))) (ti tt))
    | inr r13406 =>
     dsimp only at h
     have e13408 := (an (ti tt) (VRun.loop hph13403))
     have e13410 := (show (0:Int) <= 0 /\ (0:Int) < ((2 : Nat) : Int) from ⟨by decide, by decide⟩)
     obtain ⟨r13411, h13412, h⟩ := bs h
     have e13413 := (show VC Try.prog 34 [VV.ag (Qp a0), VV.ag (Qb (a1.getD x9.toNat default)), vi a2.e0] (VV.tu [VV.fr (List.map vi r13411.1) r13411.1.length, vi r13411.2]) from (VC.weak (Qao k a0 (a1.getD x9.toNat default) a2.e0 _ h13412) (Wv.tuL (.cons (Wv.fw rfl rfl) (.cons (Wv.refl _) .nil)))))
     have e13414 := (t3 (an h13375 (an e13376 (an e13410 (ti (an e13413 (t5 tt)))))))
     rcases ifs h with ⟨h13415, h⟩ | ⟨h13415, h⟩
     ·have h2 := ih _ _ h
      obtain ⟨q, hv, hq⟩ := pK none Try.prog Try.f10 0 (Y8 a0 a1 a2 x9) [.reg (nN 4 []), .br true, .reg (Qwh a1 x9 r13377), .reg (.n :: .n :: []), .br false, .reg (.n :: []), .sub ⟨(tn [1, 3, 5, 9, 11]), [none, none], []⟩ (.exit 2) (Yv a0 a1 a2 x9 r13406), .reg (Q3d a1 x9 r13411), .reg (.n :: .n :: []), .br false, .reg (nN 3 [])] ⟨(tn [1, 3, 5, 9]), [none, none], []⟩ .normal (Y8 a0 a1 a2 (w64 (x9 + 1))) (an (an (an (t4 tt) (te h13374)) (an (an (an e13380 (an (t2 tt) (ta h13381))) (an (an (ti tt) e13408) (an e13414 (an (t2 tt) (ta h13415))))) (t3 tt))) (ti tt)) (by kernel_rfl)
      cases r <;> exact Qd pm pn hv hq h2
     ·obtain rfl := si h
      exact Qk (c := ⟨(tn [6, 7]), [], []⟩) (s1 := (Jr a0 a1 a2 (x9, r13411.2))) pm pn (ans := [.reg (nN 4 []), .br true, .reg (Qwh a1 x9 r13377), .reg (.n :: .n :: []), .br false, .reg (.n :: []), .sub ⟨(tn [1, 3, 5, 9, 11]), [none, none], []⟩ (.exit 2) (Yv a0 a1 a2 x9 r13406), .reg (Q3d a1 x9 r13411), .reg (.n :: .n :: []), .br true, .reg (nN 4 [])]) (by kernel_rfl) nofun (an (an (an (t4 tt) (te h13374)) (an (an e13380 (an (t2 tt) (ta h13381))) (an (an (ti tt) e13408) (an e13414 (an (t2 tt) (an (td h13415) (an (t4 tt) tt))))))) (ti tt))
   ·obtain rfl := si h
    exact Qk (c := ⟨(tn [6, 7]), [], []⟩) (s1 := (Jr a0 a1 a2 (x9, r13377))) pm pn (ans := [.reg (nN 4 []), .br true, .reg (Qwh a1 x9 r13377), .reg (.n :: .n :: []), .br true, .reg (nN 4 [])]) (by kernel_rfl) nofun (an (an (an (t4 tt) (te h13374)) (an e13380 (an (t2 tt) (an (td h13381) (an (t4 tt) tt))))) (ti tt))
  ·obtain rfl := si h
   exact Qk (c := ⟨[], [], []⟩) (s1 := (Qa9 a0 a1 a2 ())) pm pn (ans := [.reg (nN 4 []), .br false]) (by kernel_rfl) nofun (an (an (t4 tt) (tf h13374)) (ti tt))
def Qah (k : Nat) (a0 : Qc) (a1 : (List Qa)) (a2 : A26) : Option (Int × Int) :=
 (Ws k a0).bind fun r13298 => (if r13298 = 0 then ((Qcd k a2.e0).bind fun r13303 => (if r13303 = true then ((Q7 k a2.e1 a0.Least a0.Most).bind fun r13308 => (if r13308 = true then (if 20 < (a1.length : Int) then (some (0, 8)) else ((Zx k a0 a1 a2 k 0).bind fun r13417 => (match r13417 with | .inl r13418 => (some (r13418.1, r13418.2)) | .inr r13419 => (some (0, 0))))) else (some (0, 2)))) else (some (0, 2)))) else (some (0, r13298)))
theorem Qij (k : Nat) (a0 : Qc) (a1 : (List Qa)) (a2 : A26) (r : (Int × Int)) (h : Qah k a0 a1 a2 = some r) : VC Try.prog 10 [VV.ag (Qp a0), VV.tr (flatMap Qb a1) a1.length, VV.ag (Qch a2)] (VV.tu [vi r.1, vi r.2]) := by
 unfold Qah at h
 obtain ⟨r13298, h13299, h⟩ := bs h
 have e13300 := (Qh5 k a0 _ h13299)
 rcases ifs h with ⟨h13301, h⟩ | ⟨h13301, h⟩
 ·have e13302 := (show (0:Int) <= 0 /\ (0:Int) < ((2 : Nat) : Int) from ⟨by decide, by decide⟩)
  obtain ⟨r13303, h13304, h⟩ := bs h
  have e13305 := (Qkb k a2.e0 _ h13304)
  rcases ifs h with ⟨h13306, h⟩ | ⟨h13306, h⟩
  ·have e13307 := (an (Qh h13306) (show (0:Int) <= 1 /\ (1:Int) < ((2 : Nat) : Int) from ⟨by decide, by decide⟩))
   obtain ⟨r13308, h13309, h⟩ := bs h
   have e13310 := (an (Qh h13306) (Zb k a2.e1 a0.Least a0.Most _ h13309))
   have e13311 := (an e13302 (ti (an e13305 (t2 (an e13307 (w5 (an (Qh h13306) tt) (an e13310 (an (an (Qh h13306) tt) (an (Qh h13306) tt)))))))))
   rcases ifs h with ⟨h13312, h⟩ | ⟨h13312, h⟩
   ·rcases ifs h with ⟨h13313, h⟩ | ⟨h13313, h⟩
    ·obtain rfl := si h
     exact Qi pm pn Try.func10 (r0 := VV.tu [vi 0, vi 8]) (ans := [.reg (nN 4 []), .reg (.n :: .call (vi r13298) :: .n :: []), .reg (.n :: .n :: []), .br false, .reg (.n :: .n :: .call (vb r13303) :: nN 8 (.call (vb r13308) :: .n :: .b false :: [])), .br false, .reg (nN 3 []), .br true, .reg (.n :: .n :: [])]) (fr := true) (by kernel_rfl) (an (an (t4 tt) (an (an (ti (an e13300 (ti tt))) (an (t2 tt) (ta h13301))) (an (an e13311 (an (Qh h13312) tt)) (an (t3 tt) (an (dt h13313) (an (t2 tt) tt)))))) (t2 tt)) (Wv.refl _)
    ·obtain ⟨r13417, h13416, h⟩ := bs h
     have hph13416 := Qgu k a0 a1 a2 _ _ _ h13416
     cases r13417 with
     | inl r13418 =>
      dsimp only at h
      have e13420 := (an (ti tt) (VRun.loop hph13416))
      obtain rfl := si h
      exact Qi pm pn Try.func10 (r0 := VV.tu [vi r13418.1, vi r13418.2]) (ans := [.reg (nN 4 []), .reg (.n :: .call (vi r13298) :: .n :: []), .reg (.n :: .n :: []), .br false, .reg (.n :: .n :: .call (vb r13303) :: nN 8 (.call (vb r13308) :: .n :: .b false :: [])), .br false, .reg (nN 3 []), .br false, .reg (.n :: []), .sub ⟨(tn [1, 3, 5, 9]), [none, none], []⟩ .ret (Jr a0 a1 a2 r13418)]) (fr := true) (by kernel_rfl) (an (an (t4 tt) (an (an (ti (an e13300 (ti tt))) (an (t2 tt) (ta h13301))) (an (an e13311 (an (Qh h13312) tt)) (an (an (t3 tt) (tf h13313)) (an (ti tt) e13420))))) (t2 tt)) (Wv.refl _)
     | inr r13419 =>
      dsimp only at h
      have e13421 := (an (ti tt) (VRun.loop hph13416))
      obtain rfl := si h
      exact Qi pm pn Try.func10 (r0 := VV.tu [vi 0, vi 0]) (ans := [.reg (nN 4 []), .reg (.n :: .call (vi r13298) :: .n :: []), .reg (.n :: .n :: []), .br false, .reg (.n :: .n :: .call (vb r13303) :: nN 8 (.call (vb r13308) :: .n :: .b false :: [])), .br false, .reg (nN 3 []), .br false, .reg (.n :: []), .sub ⟨(tn [1, 3, 5, 9]), [none, none], []⟩ (.exit 0) (Qa9 a0 a1 a2 r13419), .reg (.n :: .n :: [])]) (fr := true) (by kernel_rfl) (an (an (t4 tt) (an (an (ti (an e13300 (ti tt))) (an (t2 tt) (ta h13301))) (an (an e13311 (an (Qh h13312) tt)) (an (an (t3 tt) (tf h13313)) (an (an (ti tt) e13421) (an (t2 tt) tt)))))) (t2 tt)) (Wv.refl _)
   ·obtain rfl := si h
    exact Qi pm pn Try.func10 (r0 := VV.tu [vi 0, vi 2]) (ans := [.reg (nN 4 []), .reg (.n :: .call (vi r13298) :: .n :: []), .reg (.n :: .n :: []), .br false, .reg (.n :: .n :: .call (vb r13303) :: nN 8 (.call (vb r13308) :: .n :: .b false :: [])), .br true, .reg (.n :: .n :: [])]) (fr := true) (by kernel_rfl) (an (an (t4 tt) (an (an (ti (an e13300 (ti tt))) (an (t2 tt) (ta h13301))) (an e13311 (an (Qr (Qn h13312)) (an (t2 tt) tt))))) (t2 tt)) (Wv.refl _)
  ·have e13422 := (an e13302 (ti (an e13305 (t2 (w9 (Qr (Qn h13306)) tt)))))
   obtain rfl := si h
   exact Qi pm pn Try.func10 (r0 := VV.tu [vi 0, vi 2]) (ans := [.reg (nN 4 []), .reg (.n :: .call (vi r13298) :: .n :: []), .reg (.n :: .n :: []), .br false, .reg (.n :: .n :: .call (vb r13303) :: .n :: .n :: nS 8 (.b true :: [])), .br true, .reg (.n :: .n :: [])]) (fr := true) (by kernel_rfl) (an (an (t4 tt) (an (an (ti (an e13300 (ti tt))) (an (t2 tt) (ta h13301))) (an e13422 (an rt (an (t2 tt) tt))))) (t2 tt)) (Wv.refl _)
 ·obtain rfl := si h
  exact Qi pm pn Try.func10 (r0 := VV.tu [vi 0, vi r13298]) (ans := [.reg (nN 4 []), .reg (.n :: .call (vi r13298) :: .n :: []), .reg (.n :: .n :: []), .br true, .reg (nN 3 [])]) (fr := true) (by kernel_rfl) (an (an (t4 tt) (an (ti (an e13300 (ti tt))) (an (t2 tt) (an (td h13301) (an (t3 tt) tt))))) (t2 tt)) (Wv.refl _)
end Go.Proofs.Ytjomicmhnbmhoaa.Vg

import Derived.Test.YtmaegladkjcmdaaS2
namespace Go.Proofs.Ytmaegladkjcmdaa.Vg
set_option maxRecDepth 100000
set_option maxHeartbeats 4000000
set_option linter.unusedVariables false
set_option linter.unusedSimpArgs false
open Go Go.Proofs.Ytmaegladkjcmdaa.Ev Go.Proofs.Ytmaegladkjcmdaa.Vv
open List (flatMap length_cons length_nil length_map length_append map_cons map_nil length_replicate)
structure A27 where
 e0 : Int
 e1 : Int
 deriving Inhabited
def Qf5 (x : A27) : List VV := [vi x.e0, vi x.e1]
theorem Qet (xs : List A27) : (xs.flatMap Qf5).map unfr = xs.flatMap Qf5 := Qec (fun _ => rfl) xs
theorem Qsh (z0 : (Bool × Int)) (z1 : (Bool × Int)) (z2 : (Bool × Int)) (z3 : (Bool × Int)) : [VV.tr ([VV.fn 53 [VV.tp [vb (((z0, z1, z2, z3).1).1)] 0, VV.tp [vi (((z0, z1, z2, z3).1).2)] 0], VV.fn 53 [VV.tp [vb (((z0, z1, z2, z3).2.1).1)] 0, VV.tp [vi (((z0, z1, z2, z3).2.1).2)] 0], VV.fn 53 [VV.tp [vb (((z0, z1, z2, z3).2.2.1).1)] 0, VV.tp [vi (((z0, z1, z2, z3).2.2.1).2)] 0], VV.fn 53 [VV.tp [vb (((z0, z1, z2, z3).2.2.2).1)] 0, VV.tp [vi (((z0, z1, z2, z3).2.2.2).2)] 0]]) 4] = [VV.tr (List.drop 0 (List.map unfr [VV.fn 53 [VV.tp [vb z0.1] 0, VV.tp [vi z0.2] 0], VV.fn 53 [VV.tp [vb z1.1] 0, VV.tp [vi z1.2] 0], VV.fn 53 [VV.tp [vb z2.1] 0, VV.tp [vi z2.2] 0], VV.fn 53 [VV.tp [vb z3.1] 0, VV.tp [vi z3.2] 0]])) 4] := by first | rfl | (simp only [Qa7, Zi, Yd, map_cons, map_nil, un_i, un_b, Qae]; done) | (simp only [Qa7, Zi, Yd, map_cons, map_nil, un_i, un_b, Qae]; rfl) | (simp only [Qa7, Zi, Yd, map_cons, map_nil, un_i, un_b, Qae, length_cons, length_nil, length_append]; done)
def Qsi (z0 : Bool) (z1 : (Bool × Int)) (z2 : (Bool × Int)) (z3 : (Bool × Int)) (z4 : (Bool × Int)) (z5 : Int) : List Ans := (.n :: .n :: .call (vb z0) :: .call (VV.fn 53 [VV.tp [vb z1.1] 0, VV.tp [vi z1.2] 0]) :: nN 3 (.b false :: .n :: .call (VV.fn 53 [VV.tp [vb z2.1] 0, VV.tp [vi z2.2] 0]) :: .n :: .call (VV.fn 53 [VV.tp [vb z3.1] 0, VV.tp [vi z3.2] 0]) :: .n :: .n :: .call (VV.fn 53 [VV.tp [vb z4.1] 0, VV.tp [vi z4.2] 0]) :: .n :: .call (vi z5) :: .n :: []))
def Qsj (z0 : Bool) (z1 : (Bool × Int)) (z2 : List (ByteArray × Bool)) (z3 : (List Qe)) (z4 : Int) (z5 : (Bool × Int)) (z6 : (Bool × Int)) (z7 : (Bool × Int)) (z8 : Int) : List Ans := (.n :: .n :: .call (vb z0) :: .call (VV.fn 53 [VV.tp [vb z1.1] 0, VV.tp [vi z1.2] 0]) :: nN 3 (.v (vb (mget z2 ((z3.getD z4.toNat default).Mirror))) :: .n :: .call (VV.fn 53 [VV.tp [vb z5.1] 0, VV.tp [vi z5.2] 0]) :: .n :: .call (VV.fn 53 [VV.tp [vb z6.1] 0, VV.tp [vi z6.2] 0]) :: .n :: .n :: .call (VV.fn 53 [VV.tp [vb z7.1] 0, VV.tp [vi z7.2] 0]) :: .n :: .call (vi z8) :: .n :: []))
noncomputable def Q2b (z0 : List (ByteArray × Int)) (z1 : (List Qe)) (z2 : Int) (z3 : Bool) (z4 : (Bool × Int)) (z5 : List (ByteArray × Bool)) (z6 : (Bool × Int)) (z7 : (Bool × Int)) (z8 : (Bool × Int)) (z9 : Int) : List Ans := (nN 3 (.inl (inlF Try.f49 [.reg (.n :: .n :: []), .reg (nN 3 (.v (vi (mget z0 ((z1.getD z2.toNat default).Batch))) :: nN 5 [])), .reg (Qsj z3 z4 z5 z1 z2 z6 z7 z8 z9), .reg (.n :: .n :: []), .br true, .reg (nN 4 []), .reg (nN 6 []), .reg (.n :: .n :: [])]) :: .n :: []))
noncomputable def Q2c (z0 : List (ByteArray × Int)) (z1 : (List Qe)) (z2 : Int) (z3 : Bool) (z4 : (Bool × Int)) (z5 : List (ByteArray × Bool)) (z6 : (Bool × Int)) (z7 : (Bool × Int)) (z8 : (Bool × Int)) (z9 : Int) : List Ans := (nN 3 (.inl (inlF Try.f49 [.reg (.n :: .n :: []), .reg (nN 3 (.v (vi (mget z0 ((z1.getD z2.toNat default).Batch))) :: nN 5 [])), .reg (Qsj z3 z4 z5 z1 z2 z6 z7 z8 z9), .reg (.n :: .n :: []), .br false, .reg (.n :: .n :: [])]) :: .n :: []))
noncomputable def Q2d (z0 : List (ByteArray × Int)) (z1 : (List Qe)) (z2 : Int) (z3 : Bool) (z4 : (Bool × Int)) (z5 : (Bool × Int)) (z6 : (Bool × Int)) (z7 : (Bool × Int)) (z8 : Int) : List Ans := (nN 3 (.inl (inlF Try.f49 [.reg (.n :: .n :: []), .reg (nN 3 (.v (vi (mget z0 ((z1.getD z2.toNat default).Batch))) :: nN 5 [])), .reg (Qsi z3 z4 z5 z6 z7 z8), .reg (.n :: .n :: []), .br true, .reg (nN 4 []), .reg (nN 6 []), .reg (.n :: .n :: [])]) :: .n :: []))
noncomputable def Q2e (z0 : List (ByteArray × Int)) (z1 : (List Qe)) (z2 : Int) (z3 : Bool) (z4 : (Bool × Int)) (z5 : (Bool × Int)) (z6 : (Bool × Int)) (z7 : (Bool × Int)) (z8 : Int) : List Ans := (nN 3 (.inl (inlF Try.f49 [.reg (.n :: .n :: []), .reg (nN 3 (.v (vi (mget z0 ((z1.getD z2.toNat default).Batch))) :: nN 5 [])), .reg (Qsi z3 z4 z5 z6 z7 z8), .reg (.n :: .n :: []), .br false, .reg (.n :: .n :: [])]) :: .n :: []))
noncomputable def Q2f (z0 : Bool) (z1 : (Bool × Int)) (z2 : List (ByteArray × Bool)) (z3 : (List Qe)) (z4 : Int) (z5 : (Bool × Int)) (z6 : (Bool × Int)) (z7 : (Bool × Int)) (z8 : Int) : List Ans := (nN 3 (.inl (inlF Try.f49 [.reg (.n :: .n :: []), .reg (nN 3 (.b false :: nN 5 [])), .reg (Qsj z0 z1 z2 z3 z4 z5 z6 z7 z8), .reg (.n :: .n :: []), .br true, .reg (nN 4 []), .reg (nN 6 []), .reg (.n :: .n :: [])]) :: .n :: []))
noncomputable def Q2g (z0 : Bool) (z1 : (Bool × Int)) (z2 : List (ByteArray × Bool)) (z3 : (List Qe)) (z4 : Int) (z5 : (Bool × Int)) (z6 : (Bool × Int)) (z7 : (Bool × Int)) (z8 : Int) : List Ans := (nN 3 (.inl (inlF Try.f49 [.reg (.n :: .n :: []), .reg (nN 3 (.b false :: nN 5 [])), .reg (Qsj z0 z1 z2 z3 z4 z5 z6 z7 z8), .reg (.n :: .n :: []), .br false, .reg (.n :: .n :: [])]) :: .n :: []))
noncomputable def Q2h (z0 : Bool) (z1 : (Bool × Int)) (z2 : (Bool × Int)) (z3 : (Bool × Int)) (z4 : (Bool × Int)) (z5 : Int) : List Ans := (nN 3 (.inl (inlF Try.f49 [.reg (.n :: .n :: []), .reg (nN 3 (.b false :: nN 5 [])), .reg (Qsi z0 z1 z2 z3 z4 z5), .reg (.n :: .n :: []), .br true, .reg (nN 4 []), .reg (nN 6 []), .reg (.n :: .n :: [])]) :: .n :: []))
noncomputable def Qzz (z0 : Bool) (z1 : (Bool × Int)) (z2 : (Bool × Int)) (z3 : (Bool × Int)) (z4 : (Bool × Int)) (z5 : Int) : List Ans := (nN 3 (.inl (inlF Try.f49 [.reg (.n :: .n :: []), .reg (nN 3 (.b false :: nN 5 [])), .reg (Qsi z0 z1 z2 z3 z4 z5), .reg (.n :: .n :: []), .br false, .reg (.n :: .n :: [])]) :: .n :: []))
def Qz0 (z0 : (List (ByteArray × Int))) (z1 : (List Qj)) (z2 : Int) : List Ans := (nN 3 (.v (vi (mget z0 ((z1.getD z2.toNat default).Name))) :: .n :: .n :: nS 5 (.b true :: .n :: nS 5 (.b true :: []))))
def Qz1 (z0 : (List (ByteArray × Int))) (z1 : (List Qj)) (z2 : Int) : List Ans := (nN 3 (.v (vi (mget z0 ((z1.getD z2.toNat default).Name))) :: nN 7 (.b false :: .n :: nS 5 (.b true :: []))))
def Qof (z0 : (List (ByteArray × Int))) (z1 : (List Qj)) (z2 : Int) : List Ans := (nN 3 (.v (vi (mget z0 ((z1.getD z2.toNat default).Name))) :: nN 7 (.b false :: nN 6 (.b false :: []))))
noncomputable def Qz2 (z0 : Int) : List Ans := (.n :: .n :: .inl (inlF Try.f24 [.reg (.n :: .n :: []), .reg (.n :: .call (vi z0) :: .n :: []), .reg (.n :: .n :: []), .br false, .reg (nN 3 []), .br true, .reg (.n :: .n :: [])]) :: nN 5 [])
def Qbe (a0 : (List Qj)) (a1 : (List Qe)) (a2 : A27) (y1 : List (ByteArray × Int)) (x26 : Int) : VS := ⟨mkA [(1, VV.tr (flatMap Qa a1) a1.length), (7, VV.mp 1), (8, VV.mp 2), (24, VV.tr (flatMap Qc a0) a0.length), (25, vi (a0.length : Int)), (26, vi x26)], [some ⟨true, 1, Qf5 a2⟩, some ⟨true, bigX + 1, flatMap (mpE vi) y1⟩, some ⟨true, bigX + 1, []⟩], (.node none (mkA [(0, VV.tr (flatMap Qc a0) a0.length), (1, VV.tr (flatMap Qa a1) a1.length), (2, VV.ag (Qf5 a2)), (5, VV.pt 0 0), (6, vs (⟨#[]⟩ : ByteArray)), (7, vi 0), (16, VV.tr (flatMap Qc a0) a0.length), (17, VV.tr (flatMap Qa a1) a1.length)]) .nil)⟩
def Zz (a0 : (List Qj)) (a1 : (List Qe)) (a2 : A27) (r : (List (ByteArray × Int))) : VS := ⟨mkA [(1, VV.tr (flatMap Qa a1) a1.length), (7, VV.mp 1), (8, VV.mp 2)], [some ⟨true, 1, Qf5 a2⟩, some ⟨true, bigX + 1, flatMap (mpE vi) r⟩, some ⟨true, bigX + 1, []⟩], (.node none (mkA [(0, VV.tr (flatMap Qc a0) a0.length), (1, VV.tr (flatMap Qa a1) a1.length), (2, VV.ag (Qf5 a2)), (5, VV.pt 0 0), (6, vs (⟨#[]⟩ : ByteArray)), (7, vi 0), (16, VV.tr (flatMap Qc a0) a0.length), (17, VV.tr (flatMap Qa a1) a1.length)]) .nil)⟩
def Xy (k : Nat) (a0 : (List Qj)) (a1 : (List Qe)) (a2 : A27) : Nat -> (List (ByteArray × Int)) -> Int -> Option ((List (ByteArray × Int)))
 | 0, _, _ => none
 | fuel + 1, y1, x26 => if x26 < (a0.length : Int) then (if 0 <= x26 /\ x26 < (a0.length : Int) then (Xy k a0 a1 a2 fuel (mset y1 ((a0.getD x26.toNat default).Name) ((a0.getD x26.toNat default).Count)) (w64 (x26 + 1))) else none) else (some y1)
theorem Qfc (k : Nat) (a0 : (List Qj)) (a1 : (List Qe)) (a2 : A27) : ∀ (fuel : Nat) (y1 : List (ByteArray × Int)) (x26 : Int) (r : (List (ByteArray × Int))), Xy k a0 a1 a2 fuel y1 x26 = some r -> (Yw none Try.prog (szF Try.f24) (Ya Try.f24 0) (Qbe a0 a1 a2 y1 x26) (.exit 0) (Zz a0 a1 a2 r)) := by
 intro fuel
 induction fuel with
 | zero => intro y1 x26 r h; rw [Xy.eq_1] at h; cases h
 | succ fuel ih =>
  intro y1 x26 r h
  rw [Xy.eq_2] at h
  rcases ifs h with ⟨h3686, h⟩ | ⟨h3686, h⟩
  ·obtain ⟨h3687, h⟩ := ifn h
   have e3688 := (show Xt Try.prog 51 (x26.toNat * 4) (flatMap Qc a0) = some (VV.ag (Qc (a0.getD x26.toNat default))) from Yo ag51 Qc 4 sz51 Jr a0 default h3687 (by omega))
   have e3689 := (show Wh (kdV (.string ((a0.getD x26.toNat default).Name))) (flatMap (mpE vi) y1) = true from (Xc vi ((a0.getD x26.toNat default).Name) y1))
   have h2 := ih _ _ _ h
   obtain ⟨q, hv, hq⟩ := pkR (rd := none) (P := Try.prog) (fn := Try.f24) (k := 0) (s := (Qbe a0 a1 a2 y1 x26)) (ans := [.reg (.n :: []), .br true, .reg (.n :: .v (VV.ag (Qc (a0.getD x26.toNat default))) :: .n :: .n :: []), .reg (nN 6 []), .reg (.n :: .n :: [])]) (c := ⟨[(1, none), (7, none), (8, none), (24, none), (25, none), (26, none)], [none, some (flatMap (mpE vi) (mset y1 ((a0.getD x26.toNat default).Name) ((a0.getD x26.toNat default).Count))), none], []⟩) (e := .normal) (s1 := (Qbe a0 a1 a2 (mset y1 ((a0.getD x26.toNat default).Name) ((a0.getD x26.toNat default).Count)) (w64 (x26 + 1)))) (an (an (ti tt) (an (an (dt h3686) tt) (an (an (an h3687 (an e3688 (ti (ti tt)))) (ti (ti (ti (ti (ti (an e3689 tt))))))) (ti (ti tt))))) (ti (an (show upM (.string ((a0.getD x26.toNat default).Name)) (vi ((a0.getD x26.toNat default).Count)) (flatMap (mpE vi) y1) = flatMap (mpE vi) (mset y1 ((a0.getD x26.toNat default).Name) ((a0.getD x26.toNat default).Count)) from (by exact Qbf vi ((a0.getD x26.toNat default).Name) ((a0.getD x26.toNat default).Count) y1)) tt))) (by kernel_rfl)
   exact Qz pm pn hv hq h2
  ·injection h with h; subst h
   exact Q5 (c := ⟨[(1, none), (7, none), (8, none)], [none, none, none], []⟩) (s1 := (Zz a0 a1 a2 y1)) pm pn (ans := [.reg (.n :: []), .br false]) (by kernel_rfl) (by intro e; cases e) (an (an (ti tt) (an (df h3686) tt)) (ti tt))
def Xe (a0 : (List Qj)) (a1 : (List Qe)) (a2 : A27) (y1 : List (ByteArray × Int)) (y2 : List (ByteArray × Bool)) (x38 : Int) : VS := ⟨mkA [(7, VV.mp 1), (8, VV.mp 2), (36, VV.tr (flatMap Qa a1) a1.length), (37, vi (a1.length : Int)), (38, vi x38)], [some ⟨true, 1, Qf5 a2⟩, some ⟨true, bigX + 1, flatMap (mpE vi) y1⟩, some ⟨true, bigX + 1, flatMap (mpE vb) y2⟩], (.node none (mkA [(0, VV.tr (flatMap Qc a0) a0.length), (1, VV.tr (flatMap Qa a1) a1.length), (2, VV.ag (Qf5 a2)), (5, VV.pt 0 0), (6, vs (⟨#[]⟩ : ByteArray)), (7, vi 0), (16, VV.tr (flatMap Qc a0) a0.length), (17, VV.tr (flatMap Qa a1) a1.length)]) .nil)⟩
def Z9 (a0 : (List Qj)) (a1 : (List Qe)) (a2 : A27) (r : Int) : VS := ⟨mkA [(4, VV.c (.map none)), (5, vi r)], [some ⟨true, 1, Qf5 a2⟩], (.node none (mkA [(0, VV.tr (flatMap Qc a0) a0.length), (1, VV.tr (flatMap Qa a1) a1.length), (2, VV.ag (Qf5 a2)), (5, VV.pt 0 0), (6, vs (⟨#[]⟩ : ByteArray)), (7, vi 0), (16, VV.tr (flatMap Qc a0) a0.length), (17, VV.tr (flatMap Qa a1) a1.length)]) .nil)⟩
def Js (a0 : (List Qj)) (a1 : (List Qe)) (a2 : A27) (r : (List (ByteArray × Int))) : VS := ⟨mkA [(7, VV.mp 1)], [some ⟨true, 1, Qf5 a2⟩, some ⟨true, bigX + 1, flatMap (mpE vi) r⟩], (.node none (mkA [(0, VV.tr (flatMap Qc a0) a0.length), (1, VV.tr (flatMap Qa a1) a1.length), (2, VV.ag (Qf5 a2)), (5, VV.pt 0 0), (6, vs (⟨#[]⟩ : ByteArray)), (7, vi 0), (16, VV.tr (flatMap Qc a0) a0.length), (17, VV.tr (flatMap Qa a1) a1.length)]) .nil)⟩
def Zv (k : Nat) (a0 : (List Qj)) (a1 : (List Qe)) (a2 : A27) : Nat -> (List (ByteArray × Int)) -> (List (ByteArray × Bool)) -> Int -> Option (Sum Int (List (ByteArray × Int)))
 | 0, _, _, _ => none
 | fuel + 1, y1, y2, x38 => if x38 < (a1.length : Int) then (if 0 <= x38 /\ x38 < (a1.length : Int) then (if mhas y1 ((a1.getD x38.toNat default).Batch) = true then ((Yn k ((a1.getD x38.toNat default).Mirror)).bind fun r3879 => ((Qy k r3879 4).bind fun r3882 => (if mhas y2 ((a1.getD x38.toNat default).Mirror) = true then ((Qy k (!(mget y2 ((a1.getD x38.toNat default).Mirror))) 5).bind fun r3886 => ((Qy k true 6).bind fun r3889 => ((Qy k (decide (0 < (mget y1 ((a1.getD x38.toNat default).Batch)))) 20).bind fun r3891 => ((Qd k (r3882, r3886, r3889, r3891)).bind fun r3894 => (if r3894 = 0 then (Zv k a0 a1 a2 fuel (mset y1 ((a1.getD x38.toNat default).Batch) (w64 ((mget y1 ((a1.getD x38.toNat default).Batch)) - 1))) (mset y2 ((a1.getD x38.toNat default).Mirror) true) (w64 (x38 + 1))) else (some (.inl r3894))))))) else ((Qy k (!false) 5).bind fun r3904 => ((Qy k true 6).bind fun r3906 => ((Qy k (decide (0 < (mget y1 ((a1.getD x38.toNat default).Batch)))) 20).bind fun r3908 => ((Qd k (r3882, r3904, r3906, r3908)).bind fun r3911 => (if r3911 = 0 then (Zv k a0 a1 a2 fuel (mset y1 ((a1.getD x38.toNat default).Batch) (w64 ((mget y1 ((a1.getD x38.toNat default).Batch)) - 1))) (mset y2 ((a1.getD x38.toNat default).Mirror) true) (w64 (x38 + 1))) else (some (.inl r3911)))))))))) else ((Yn k ((a1.getD x38.toNat default).Mirror)).bind fun r3922 => ((Qy k r3922 4).bind fun r3925 => (if mhas y2 ((a1.getD x38.toNat default).Mirror) = true then ((Qy k (!(mget y2 ((a1.getD x38.toNat default).Mirror))) 5).bind fun r3929 => ((Qy k false 6).bind fun r3932 => ((Qy k (decide ((0 : Int) < 0)) 20).bind fun r3934 => ((Qd k (r3925, r3929, r3932, r3934)).bind fun r3937 => (if r3937 = 0 then (Zv k a0 a1 a2 fuel (mset y1 ((a1.getD x38.toNat default).Batch) (-1)) (mset y2 ((a1.getD x38.toNat default).Mirror) true) (w64 (x38 + 1))) else (some (.inl r3937))))))) else ((Qy k (!false) 5).bind fun r3947 => ((Qy k false 6).bind fun r3949 => ((Qy k (decide ((0 : Int) < 0)) 20).bind fun r3951 => ((Qd k (r3925, r3947, r3949, r3951)).bind fun r3954 => (if r3954 = 0 then (Zv k a0 a1 a2 fuel (mset y1 ((a1.getD x38.toNat default).Batch) (-1)) (mset y2 ((a1.getD x38.toNat default).Mirror) true) (w64 (x38 + 1))) else (some (.inl r3954))))))))))) else none) else (some (.inr y1))
theorem Qfd (k : Nat) (a0 : (List Qj)) (a1 : (List Qe)) (a2 : A27) : ∀ (fuel : Nat) (y1 : List (ByteArray × Int)) (y2 : List (ByteArray × Bool)) (x38 : Int) (r : Sum Int (List (ByteArray × Int))), Zv k a0 a1 a2 fuel y1 y2 x38 = some r -> (match r with | .inl r => Yw none Try.prog (szF Try.f24) (Ya Try.f24 1) (Xe a0 a1 a2 y1 y2 x38) .ret (Z9 a0 a1 a2 r) | .inr r => Yw none Try.prog (szF Try.f24) (Ya Try.f24 1) (Xe a0 a1 a2 y1 y2 x38) (.exit 2) (Js a0 a1 a2 r)) := by
 intro fuel
 induction fuel with
 | zero => intro y1 y2 x38 r h; rw [Zv.eq_1] at h; cases h
 | succ fuel ih =>
  intro y1 y2 x38 r h
  rw [Zv.eq_2] at h
  rcases ifs h with ⟨h3873, h⟩ | ⟨h3873, h⟩
  ·obtain ⟨h3874, h⟩ := ifn h
   have e3875 := (show Xt Try.prog 46 (x38.toNat * 2) (flatMap Qa a1) = some (VV.ag (Qa (a1.getD x38.toNat default))) from Yo ag46 Qa 2 sz46 Y2 a1 default h3874 (by omega))
   rcases ifs h with ⟨h3876, h⟩ | ⟨h3876, h⟩
   ·have e3877 := (show Wh (kdV (.string ((a1.getD x38.toNat default).Batch))) (flatMap (mpE vi) y1) = true /\ lkM (.string ((a1.getD x38.toNat default).Batch)) (flatMap (mpE vi) y1) = some (vi (mget y1 ((a1.getD x38.toNat default).Batch))) from ⟨(Xc vi ((a1.getD x38.toNat default).Batch) y1), (Qer vi ((a1.getD x38.toNat default).Batch) y1 h3876)⟩)
    have e3878 := (ti (ti (ti (an e3877 (ti (ti (ti (ti (ti tt)))))))))
    obtain ⟨r3879, h3880, h⟩ := bs h
    have e3881 := (W9 k ((a1.getD x38.toNat default).Mirror) _ h3880)
    obtain ⟨r3882, h3883, h⟩ := bs h
    rcases ifs h with ⟨h3884, h⟩ | ⟨h3884, h⟩
    ·have e3885 := (show Wh (kdV (.string ((a1.getD x38.toNat default).Mirror))) (flatMap (mpE vb) y2) = true /\ lkM (.string ((a1.getD x38.toNat default).Mirror)) (flatMap (mpE vb) y2) = some (vb (mget y2 ((a1.getD x38.toNat default).Mirror))) from ⟨(Xc vb ((a1.getD x38.toNat default).Mirror) y2), (Qer vb ((a1.getD x38.toNat default).Mirror) y2 h3884)⟩)
     obtain ⟨r3886, h3887, h⟩ := bs h
     have e3888 := (Qp k (!(mget y2 ((a1.getD x38.toNat default).Mirror))) 5 _ h3887)
     obtain ⟨r3889, h3890, h⟩ := bs h
     obtain ⟨r3891, h3892, h⟩ := bs h
     have e3893 := (Qp k (decide (0 < (mget y1 ((a1.getD x38.toNat default).Batch)))) 20 _ h3892)
     obtain ⟨r3894, h3895, h⟩ := bs h
     have e3896 := (VC.args (Qi k (r3882, r3886, r3889, r3891) _ h3895) (Qsh r3882 r3886 r3889 r3891))
     have e3897 := (ti (ti (an e3881 (an (Qp k r3879 4 _ h3883) (ti (ti (ti (an e3885 (ti (an e3888 (ti (an (Qp k true 6 _ h3890) (ti (ti (an e3893 (ti (an e3896 (ti tt))))))))))))))))))
     rcases ifs h with ⟨h3898, h⟩ | ⟨h3898, h⟩
     ·have e3899 := (show Wh (kdV (.string ((a1.getD x38.toNat default).Mirror))) (flatMap (mpE vb) y2) = true from (Xc vb ((a1.getD x38.toNat default).Mirror) y2))
      have e3900 := (show Wh (kdV (.string ((a1.getD x38.toNat default).Batch))) (flatMap (mpE vi) y1) = true from (Xc vi ((a1.getD x38.toNat default).Batch) y1))
      have e3901 := (an (an Try.func49 (an (ti (ti tt)) (an e3878 (an e3897 (an (an (ti (ti tt)) (an (dt h3898) (an (ti (ti (ti (an e3899 tt)))) (ti (ti (ti (ti (ti (an e3900 tt))))))))) (an (ti (ti tt)) tt)))))) (ti tt))
      have h2 := ih _ _ _ _ h
      obtain ⟨q, hv, hq⟩ := pkR (rd := none) (P := Try.prog) (fn := Try.f24) (k := 1) (s := (Xe a0 a1 a2 y1 y2 x38)) (ans := [.reg (.n :: []), .br true, .reg (.n :: .v (VV.ag (Qa (a1.getD x38.toNat default))) :: .n :: .n :: []), .reg (Q2b y1 a1 x38 r3879 r3882 y2 r3886 r3889 r3891 r3894), .reg (.n :: .n :: []), .br false, .reg (.n :: .n :: [])]) (c := ⟨[(7, none), (8, none), (36, none), (37, none), (38, none)], [none, some (flatMap (mpE vi) (mset y1 ((a1.getD x38.toNat default).Batch) (w64 ((mget y1 ((a1.getD x38.toNat default).Batch)) - 1)))), some (flatMap (mpE vb) (mset y2 ((a1.getD x38.toNat default).Mirror) true))], []⟩) (e := .normal) (s1 := (Xe a0 a1 a2 (mset y1 ((a1.getD x38.toNat default).Batch) (w64 ((mget y1 ((a1.getD x38.toNat default).Batch)) - 1))) (mset y2 ((a1.getD x38.toNat default).Mirror) true) (w64 (x38 + 1)))) (an (an (ti tt) (an (an (dt h3873) tt) (an (an (an h3874 (an e3875 (ti (ti tt)))) (an (ti (ti (ti (an e3901 (ti tt))))) (an (ti (ti tt)) (an (Qm (dt h3898)) tt)))) (ti (ti tt))))) (ti (an (show upM (.string ((a1.getD x38.toNat default).Batch)) (vi (w64 ((mget y1 ((a1.getD x38.toNat default).Batch)) - 1))) (flatMap (mpE vi) y1) = flatMap (mpE vi) (mset y1 ((a1.getD x38.toNat default).Batch) (w64 ((mget y1 ((a1.getD x38.toNat default).Batch)) - 1))) from (by exact Qbf vi ((a1.getD x38.toNat default).Batch) (w64 ((mget y1 ((a1.getD x38.toNat default).Batch)) - 1)) y1)) (an (show upM (.string ((a1.getD x38.toNat default).Mirror)) (vb true) (flatMap (mpE vb) y2) = flatMap (mpE vb) (mset y2 ((a1.getD x38.toNat default).Mirror) true) from (by exact Qbf vb ((a1.getD x38.toNat default).Mirror) true y2)) tt)))) (by kernel_rfl)
      cases r with
      | inl r => exact Qz pm pn hv hq h2
      | inr r =>
       exact Qz pm pn hv hq h2
     ·have e3902 := (an (an Try.func49 (an (ti (ti tt)) (an e3878 (an e3897 (an (an (ti (ti tt)) (an (df h3898) tt)) (an (ti (ti tt)) tt)))))) (ti tt))
      injection h with h; subst h
      exact Q5 (c := ⟨[(4, none), (5, none)], [none], []⟩) (s1 := (Z9 a0 a1 a2 r3894)) pm pn (ans := [.reg (.n :: []), .br true, .reg (.n :: .v (VV.ag (Qa (a1.getD x38.toNat default))) :: .n :: .n :: []), .reg (Q2c y1 a1 x38 r3879 r3882 y2 r3886 r3889 r3891 r3894), .reg (.n :: .n :: []), .br true, .reg (nN 3 [])]) (by kernel_rfl) (by intro e; cases e) (an (an (ti tt) (an (an (dt h3873) tt) (an (an h3874 (an e3875 (ti (ti tt)))) (an (ti (ti (ti (an e3902 (ti tt))))) (an (ti (ti tt)) (an (Za (df h3898)) (an (ti (ti (ti tt))) tt))))))) (ti tt))
    ·have e3903 := (show Wh (kdV (.string ((a1.getD x38.toNat default).Mirror))) (flatMap (mpE vb) y2) = true /\ lkM (.string ((a1.getD x38.toNat default).Mirror)) (flatMap (mpE vb) y2) = none from ⟨(Xc vb ((a1.getD x38.toNat default).Mirror) y2), (Qgw vb ((a1.getD x38.toNat default).Mirror) y2 (Zk h3884))⟩)
     obtain ⟨r3904, h3905, h⟩ := bs h
     obtain ⟨r3906, h3907, h⟩ := bs h
     obtain ⟨r3908, h3909, h⟩ := bs h
     have e3910 := (Qp k (decide (0 < (mget y1 ((a1.getD x38.toNat default).Batch)))) 20 _ h3909)
     obtain ⟨r3911, h3912, h⟩ := bs h
     have e3913 := (VC.args (Qi k (r3882, r3904, r3906, r3908) _ h3912) (Qsh r3882 r3904 r3906 r3908))
     have e3914 := (ti (ti (an e3881 (an (Qp k r3879 4 _ h3883) (ti (ti (ti (an e3903 (ti (an (Qp k (!false) 5 _ h3905) (ti (an (Qp k true 6 _ h3907) (ti (ti (an e3910 (ti (an e3913 (ti tt))))))))))))))))))
     rcases ifs h with ⟨h3915, h⟩ | ⟨h3915, h⟩
     ·have e3916 := (show Wh (kdV (.string ((a1.getD x38.toNat default).Mirror))) (flatMap (mpE vb) y2) = true from (Xc vb ((a1.getD x38.toNat default).Mirror) y2))
      have e3917 := (show Wh (kdV (.string ((a1.getD x38.toNat default).Batch))) (flatMap (mpE vi) y1) = true from (Xc vi ((a1.getD x38.toNat default).Batch) y1))
      have e3918 := (an (an Try.func49 (an (ti (ti tt)) (an e3878 (an e3914 (an (an (ti (ti tt)) (an (dt h3915) (an (ti (ti (ti (an e3916 tt)))) (ti (ti (ti (ti (ti (an e3917 tt))))))))) (an (ti (ti tt)) tt)))))) (ti tt))
      have h2 := ih _ _ _ _ h
      obtain ⟨q, hv, hq⟩ := pkR (rd := none) (P := Try.prog) (fn := Try.f24) (k := 1) (s := (Xe a0 a1 a2 y1 y2 x38)) (ans := [.reg (.n :: []), .br true, .reg (.n :: .v (VV.ag (Qa (a1.getD x38.toNat default))) :: .n :: .n :: []), .reg (Q2d y1 a1 x38 r3879 r3882 r3904 r3906 r3908 r3911), .reg (.n :: .n :: []), .br false, .reg (.n :: .n :: [])]) (c := ⟨[(7, none), (8, none), (36, none), (37, none), (38, none)], [none, some (flatMap (mpE vi) (mset y1 ((a1.getD x38.toNat default).Batch) (w64 ((mget y1 ((a1.getD x38.toNat default).Batch)) - 1)))), some (flatMap (mpE vb) (mset y2 ((a1.getD x38.toNat default).Mirror) true))], []⟩) (e := .normal) (s1 := (Xe a0 a1 a2 (mset y1 ((a1.getD x38.toNat default).Batch) (w64 ((mget y1 ((a1.getD x38.toNat default).Batch)) - 1))) (mset y2 ((a1.getD x38.toNat default).Mirror) true) (w64 (x38 + 1)))) (an (an (ti tt) (an (an (dt h3873) tt) (an (an (an h3874 (an e3875 (ti (ti tt)))) (an (ti (ti (ti (an e3918 (ti tt))))) (an (ti (ti tt)) (an (Qm (dt h3915)) tt)))) (ti (ti tt))))) (ti (an (show upM (.string ((a1.getD x38.toNat default).Batch)) (vi (w64 ((mget y1 ((a1.getD x38.toNat default).Batch)) - 1))) (flatMap (mpE vi) y1) = flatMap (mpE vi) (mset y1 ((a1.getD x38.toNat default).Batch) (w64 ((mget y1 ((a1.getD x38.toNat default).Batch)) - 1))) from (by exact Qbf vi ((a1.getD x38.toNat default).Batch) (w64 ((mget y1 ((a1.getD x38.toNat default).Batch)) - 1)) y1)) (an (show upM (.string ((a1.getD x38.toNat default).Mirror)) (vb true) (flatMap (mpE vb) y2) = flatMap (mpE vb) (mset y2 ((a1.getD x38.toNat default).Mirror) true) from (by exact Qbf vb ((a1.getD x38.toNat default).Mirror) true y2)) tt)))) (by kernel_rfl)
      cases r with
      | inl r => exact Qz pm pn hv hq h2
      | inr r =>
       exact Qz pm pn hv hq h2
     ·have e3919 := (an (an Try.func49 (an (ti (ti tt)) (an e3878 (an e3914 (an (an (ti (ti tt)) (an (df h3915) tt)) (an (ti (ti tt)) tt)))))) (ti tt))
      injection h with h; subst h
      exact Q5 (c := ⟨[(4, none), (5, none)], [none], []⟩) (s1 := (Z9 a0 a1 a2 r3911)) pm pn (ans := [.reg (.n :: []), .br true, .reg (.n :: .v (VV.ag (Qa (a1.getD x38.toNat default))) :: .n :: .n :: []), .reg (Q2e y1 a1 x38 r3879 r3882 r3904 r3906 r3908 r3911), .reg (.n :: .n :: []), .br true, .reg (nN 3 [])]) (by kernel_rfl) (by intro e; cases e) (an (an (ti tt) (an (an (dt h3873) tt) (an (an h3874 (an e3875 (ti (ti tt)))) (an (ti (ti (ti (an e3919 (ti tt))))) (an (ti (ti tt)) (an (Za (df h3915)) (an (ti (ti (ti tt))) tt))))))) (ti tt))
   ·have e3920 := (show Wh (kdV (.string ((a1.getD x38.toNat default).Batch))) (flatMap (mpE vi) y1) = true /\ lkM (.string ((a1.getD x38.toNat default).Batch)) (flatMap (mpE vi) y1) = none from ⟨(Xc vi ((a1.getD x38.toNat default).Batch) y1), (Qgw vi ((a1.getD x38.toNat default).Batch) y1 (Zk h3876))⟩)
    have e3921 := (ti (ti (ti (an e3920 (ti (ti (ti (ti (ti tt)))))))))
    obtain ⟨r3922, h3923, h⟩ := bs h
    have e3924 := (W9 k ((a1.getD x38.toNat default).Mirror) _ h3923)
    obtain ⟨r3925, h3926, h⟩ := bs h
    rcases ifs h with ⟨h3927, h⟩ | ⟨h3927, h⟩
    ·have e3928 := (show Wh (kdV (.string ((a1.getD x38.toNat default).Mirror))) (flatMap (mpE vb) y2) = true /\ lkM (.string ((a1.getD x38.toNat default).Mirror)) (flatMap (mpE vb) y2) = some (vb (mget y2 ((a1.getD x38.toNat default).Mirror))) from ⟨(Xc vb ((a1.getD x38.toNat default).Mirror) y2), (Qer vb ((a1.getD x38.toNat default).Mirror) y2 h3927)⟩)
     obtain ⟨r3929, h3930, h⟩ := bs h
     have e3931 := (Qp k (!(mget y2 ((a1.getD x38.toNat default).Mirror))) 5 _ h3930)
     obtain ⟨r3932, h3933, h⟩ := bs h
     obtain ⟨r3934, h3935, h⟩ := bs h
     have e3936 := (Qp k (decide ((0 : Int) < 0)) 20 _ h3935)
     obtain ⟨r3937, h3938, h⟩ := bs h
     have e3939 := (VC.args (Qi k (r3925, r3929, r3932, r3934) _ h3938) (Qsh r3925 r3929 r3932 r3934))
     have e3940 := (ti (ti (an e3924 (an (Qp k r3922 4 _ h3926) (ti (ti (ti (an e3928 (ti (an e3931 (ti (an (Qp k false 6 _ h3933) (ti (ti (an e3936 (ti (an e3939 (ti tt))))))))))))))))))
     rcases ifs h with ⟨h3941, h⟩ | ⟨h3941, h⟩
     ·have e3942 := (show Wh (kdV (.string ((a1.getD x38.toNat default).Mirror))) (flatMap (mpE vb) y2) = true from (Xc vb ((a1.getD x38.toNat default).Mirror) y2))
      have e3943 := (show Wh (kdV (.string ((a1.getD x38.toNat default).Batch))) (flatMap (mpE vi) y1) = true from (Xc vi ((a1.getD x38.toNat default).Batch) y1))
      have e3944 := (an (an Try.func49 (an (ti (ti tt)) (an e3921 (an e3940 (an (an (ti (ti tt)) (an (dt h3941) (an (ti (ti (ti (an e3942 tt)))) (ti (ti (ti (ti (ti (an e3943 tt))))))))) (an (ti (ti tt)) tt)))))) (ti tt))
      have h2 := ih _ _ _ _ h
      obtain ⟨q, hv, hq⟩ := pkR (rd := none) (P := Try.prog) (fn := Try.f24) (k := 1) (s := (Xe a0 a1 a2 y1 y2 x38)) (ans := [.reg (.n :: []), .br true, .reg (.n :: .v (VV.ag (Qa (a1.getD x38.toNat default))) :: .n :: .n :: []), .reg (Q2f r3922 r3925 y2 a1 x38 r3929 r3932 r3934 r3937), .reg (.n :: .n :: []), .br false, .reg (.n :: .n :: [])]) (c := ⟨[(7, none), (8, none), (36, none), (37, none), (38, none)], [none, some (flatMap (mpE vi) (mset y1 ((a1.getD x38.toNat default).Batch) (-1))), some (flatMap (mpE vb) (mset y2 ((a1.getD x38.toNat default).Mirror) true))], []⟩) (e := .normal) (s1 := (Xe a0 a1 a2 (mset y1 ((a1.getD x38.toNat default).Batch) (-1)) (mset y2 ((a1.getD x38.toNat default).Mirror) true) (w64 (x38 + 1)))) (an (an (ti tt) (an (an (dt h3873) tt) (an (an (an h3874 (an e3875 (ti (ti tt)))) (an (ti (ti (ti (an e3944 (ti tt))))) (an (ti (ti tt)) (an (Qm (dt h3941)) tt)))) (ti (ti tt))))) (ti (an (show upM (.string ((a1.getD x38.toNat default).Batch)) (vi (-1)) (flatMap (mpE vi) y1) = flatMap (mpE vi) (mset y1 ((a1.getD x38.toNat default).Batch) (-1)) from (by exact Qbf vi ((a1.getD x38.toNat default).Batch) (-1) y1)) (an (show upM (.string ((a1.getD x38.toNat default).Mirror)) (vb true) (flatMap (mpE vb) y2) = flatMap (mpE vb) (mset y2 ((a1.getD x38.toNat default).Mirror) true) from (by exact Qbf vb ((a1.getD x38.toNat default).Mirror) true y2)) tt)))) (by kernel_rfl)
      cases r with
      | inl r => exact Qz pm pn hv hq h2
      | inr r =>
       exact Qz pm pn hv hq h2
     ·have e3945 := (an (an Try.func49 (an (ti (ti tt)) (an e3921 (an e3940 (an (an (ti (ti tt)) (an (df h3941) tt)) (an (ti (ti tt)) tt)))))) (ti tt))
      injection h with h; subst h
      exact Q5 (c := ⟨[(4, none), (5, none)], [none], []⟩) (s1 := (Z9 a0 a1 a2 r3937)) pm pn (ans := [.reg (.n :: []), .br true, .reg (.n :: .v (VV.ag (Qa (a1.getD x38.toNat default))) :: .n :: .n :: []), .reg (Q2g r3922 r3925 y2 a1 x38 r3929 r3932 r3934 r3937), .reg (.n :: .n :: []), .br true, .reg (nN 3 [])]) (by kernel_rfl) (by intro e; cases e) (an (an (ti tt) (an (an (dt h3873) tt) (an (an h3874 (an e3875 (ti (ti tt)))) (an (ti (ti (ti (an e3945 (ti tt))))) (an (ti (ti tt)) (an (Za (df h3941)) (an (ti (ti (ti tt))) tt))))))) (ti tt))
    ·have e3946 := (show Wh (kdV (.string ((a1.getD x38.toNat default).Mirror))) (flatMap (mpE vb) y2) = true /\ lkM (.string ((a1.getD x38.toNat default).Mirror)) (flatMap (mpE vb) y2) = none from ⟨(Xc vb ((a1.getD x38.toNat default).Mirror) y2), (Qgw vb ((a1.getD x38.toNat default).Mirror) y2 (Zk h3927))⟩)
     obtain ⟨r3947, h3948, h⟩ := bs h
     obtain ⟨r3949, h3950, h⟩ := bs h
     obtain ⟨r3951, h3952, h⟩ := bs h
     have e3953 := (Qp k (decide ((0 : Int) < 0)) 20 _ h3952)
     obtain ⟨r3954, h3955, h⟩ := bs h
     have e3956 := (VC.args (Qi k (r3925, r3947, r3949, r3951) _ h3955) (Qsh r3925 r3947 r3949 r3951))
     have e3957 := (ti (ti (an e3924 (an (Qp k r3922 4 _ h3926) (ti (ti (ti (an e3946 (ti (an (Qp k (!false) 5 _ h3948) (ti (an (Qp k false 6 _ h3950) (ti (ti (an e3953 (ti (an e3956 (ti tt))))))))))))))))))
     rcases ifs h with ⟨h3958, h⟩ | ⟨h3958, h⟩
     ·have e3959 := (show Wh (kdV (.string ((a1.getD x38.toNat default).Mirror))) (flatMap (mpE vb) y2) = true from (Xc vb ((a1.getD x38.toNat default).Mirror) y2))
      have e3960 := (show Wh (kdV (.string ((a1.getD x38.toNat default).Batch))) (flatMap (mpE vi) y1) = true from (Xc vi ((a1.getD x38.toNat default).Batch) y1))
      have e3961 := (an (an Try.func49 (an (ti (ti tt)) (an e3921 (an e3957 (an (an (ti (ti tt)) (an (dt h3958) (an (ti (ti (ti (an e3959 tt)))) (ti (ti (ti (ti (ti (an e3960 tt))))))))) (an (ti (ti tt)) tt)))))) (ti tt))
      have h2 := ih _ _ _ _ h
      obtain ⟨q, hv, hq⟩ := pkR (rd := none) (P := Try.prog) (fn := Try.f24) (k := 1) (s := (Xe a0 a1 a2 y1 y2 x38)) (ans := [.reg (.n :: []), .br true, .reg (.n :: .v (VV.ag (Qa (a1.getD x38.toNat default))) :: .n :: .n :: []), .reg (Q2h r3922 r3925 r3947 r3949 r3951 r3954), .reg (.n :: .n :: []), .br false, .reg (.n :: .n :: [])]) (c := ⟨[(7, none), (8, none), (36, none), (37, none), (38, none)], [none, some (flatMap (mpE vi) (mset y1 ((a1.getD x38.toNat default).Batch) (-1))), some (flatMap (mpE vb) (mset y2 ((a1.getD x38.toNat default).Mirror) true))], []⟩) (e := .normal) (s1 := (Xe a0 a1 a2 (mset y1 ((a1.getD x38.toNat default).Batch) (-1)) (mset y2 ((a1.getD x38.toNat default).Mirror) true) (w64 (x38 + 1)))) (an (an (ti tt) (an (an (dt h3873) tt) (an (an (an h3874 (an e3875 (ti (ti tt)))) (an (ti (ti (ti (an e3961 (ti tt))))) (an (ti (ti tt)) (an (Qm (dt h3958)) tt)))) (ti (ti tt))))) (ti (an (show upM (.string ((a1.getD x38.toNat default).Batch)) (vi (-1)) (flatMap (mpE vi) y1) = flatMap (mpE vi) (mset y1 ((a1.getD x38.toNat default).Batch) (-1)) from (by exact Qbf vi ((a1.getD x38.toNat default).Batch) (-1) y1)) (an (show upM (.string ((a1.getD x38.toNat default).Mirror)) (vb true) (flatMap (mpE vb) y2) = flatMap (mpE vb) (mset y2 ((a1.getD x38.toNat default).Mirror) true) from (by exact Qbf vb ((a1.getD x38.toNat default).Mirror) true y2)) tt)))) (by kernel_rfl)
      cases r with
      | inl r => exact Qz pm pn hv hq h2
      | inr r =>
       exact Qz pm pn hv hq h2
     ·have e3962 := (an (an Try.func49 (an (ti (ti tt)) (an e3921 (an e3957 (an (an (ti (ti tt)) (an (df h3958) tt)) (an (ti (ti tt)) tt)))))) (ti tt))
      injection h with h; subst h
      exact Q5 (c := ⟨[(4, none), (5, none)], [none], []⟩) (s1 := (Z9 a0 a1 a2 r3954)) pm pn (ans := [.reg (.n :: []), .br true, .reg (.n :: .v (VV.ag (Qa (a1.getD x38.toNat default))) :: .n :: .n :: []), .reg (Qzz r3922 r3925 r3947 r3949 r3951 r3954), .reg (.n :: .n :: []), .br true, .reg (nN 3 [])]) (by kernel_rfl) (by intro e; cases e) (an (an (ti tt) (an (an (dt h3873) tt) (an (an h3874 (an e3875 (ti (ti tt)))) (an (ti (ti (ti (an e3962 (ti tt))))) (an (ti (ti tt)) (an (Za (df h3958)) (an (ti (ti (ti tt))) tt))))))) (ti tt))
  ·injection h with h; subst h
   exact Q5 (c := ⟨[(7, none)], [none, none], []⟩) (s1 := (Js a0 a1 a2 y1)) pm pn (ans := [.reg (.n :: []), .br false]) (by kernel_rfl) (by intro e; cases e) (an (an (ti tt) (an (df h3873) tt)) (ti tt))
def Qg9 (a0 : (List Qj)) (a2 : A27)  : VS := ⟨mkA [(5, VV.pt 0 0), (8, VV.c (.map none)), (10, vs (⟨#[]⟩ : ByteArray)), (11, vi 0), (34, VV.tr (flatMap Qc a0) a0.length), (35, vi (a0.length : Int)), (36, vi 0)], [some ⟨true, 1, Qf5 a2⟩], .nil⟩
def Qaq (a0 : (List Qj)) (a2 : A27) (r : Unit) : VS := ⟨mkA [(10, vs (⟨#[]⟩ : ByteArray))], [], .nil⟩
def Qbw (k : Nat) (a0 : (List Qj)) (a2 : A27) : Nat -> Option (Unit)
 | 0 => none
 | fuel + 1 => if 0 < (a0.length : Int) then (if (0 : Int) <= 0 /\ 0 < (a0.length : Int) then none else none) else (some ())
theorem Qgn (k : Nat) (a0 : (List Qj)) (a2 : A27) : ∀ (fuel : Nat)  (r : Unit), Qbw k a0 a2 fuel  = some r -> (Yw none Try.prog (szF Try.f10) (Ya Try.f10 0) (Qg9 a0 a2 ) (.exit 0) (Qaq a0 a2 r)) := by
 intro fuel
 induction fuel with
 | zero => intro  r h; rw [Qbw.eq_1] at h; cases h
 | succ fuel ih =>
  intro  r h
  rw [Qbw.eq_2] at h
  rcases ifs h with ⟨h3985, h⟩ | ⟨h3985, h⟩
  ·obtain ⟨h3986, h⟩ := ifn h
   have e3987 := (show Xt Try.prog 51 (((0 : Int)).toNat * 4) (flatMap Qc a0) = some (VV.ag (Qc (a0.getD ((0 : Int)).toNat default))) from Yo ag51 Qc 4 sz51 Jr a0 default h3986 (by omega))
   cases h
  ·injection h with h; subst h
   exact Q5 (c := ⟨[(10, none)], [], []⟩) (s1 := (Qaq a0 a2 ())) pm pn (ans := [.reg (.n :: []), .br false]) (by kernel_rfl) (by intro e; cases e) (an (an (ti tt) (an (df h3985) tt)) (ti tt))
def Zp (a0 : (List Qj)) (a2 : A27) (r3966 : (List (ByteArray × Int))) (x10 : ByteArray) (x11 : Int) (x36 : Int) : VS := ⟨mkA [(5, VV.pt 0 0), (8, VV.mp 1), (10, vs x10), (11, vi x11), (34, VV.tr (flatMap Qc a0) a0.length), (35, vi (a0.length : Int)), (36, vi x36)], [some ⟨true, 1, Qf5 a2⟩, some ⟨true, bigX + 1, flatMap (mpE vi) r3966⟩], .nil⟩
def Qar (a0 : (List Qj)) (a2 : A27) (r3966 : (List (ByteArray × Int))) (r : ByteArray) : VS := ⟨mkA [(10, vs r)], [], .nil⟩
def Z5 (k : Nat) (a0 : (List Qj)) (a2 : A27) (r3966 : (List (ByteArray × Int))) : Nat -> ByteArray -> Int -> Int -> Option (ByteArray)
 | 0, _, _, _ => none
 | fuel + 1, x10, x11, x36 => if x36 < (a0.length : Int) then (if 0 <= x36 /\ x36 < (a0.length : Int) then (if mhas r3966 ((a0.getD x36.toNat default).Name) = true then (if (mget r3966 ((a0.getD x36.toNat default).Name)) = 0 then (Z5 k a0 a2 r3966 fuel x10 x11 (w64 (x36 + 1))) else (if ((a0.getD x36.toNat default).Diameter) < a2.e0 then (Z5 k a0 a2 r3966 fuel x10 x11 (w64 (x36 + 1))) else (if ((a0.getD x36.toNat default).Thick) < a2.e1 then (Z5 k a0 a2 r3966 fuel x10 x11 (w64 (x36 + 1))) else (if x10 = (⟨#[]⟩ : ByteArray) then (Z5 k a0 a2 r3966 fuel ((a0.getD x36.toNat default).Name) (w64 ((w64 (((a0.getD x36.toNat default).Diameter) * ((a0.getD x36.toNat default).Diameter))) * ((a0.getD x36.toNat default).Thick))) (w64 (x36 + 1))) else (if (w64 ((w64 (((a0.getD x36.toNat default).Diameter) * ((a0.getD x36.toNat default).Diameter))) * ((a0.getD x36.toNat default).Thick))) < x11 then (Z5 k a0 a2 r3966 fuel ((a0.getD x36.toNat default).Name) (w64 ((w64 (((a0.getD x36.toNat default).Diameter) * ((a0.getD x36.toNat default).Diameter))) * ((a0.getD x36.toNat default).Thick))) (w64 (x36 + 1))) else (Z5 k a0 a2 r3966 fuel x10 x11 (w64 (x36 + 1)))))))) else (Z5 k a0 a2 r3966 fuel x10 x11 (w64 (x36 + 1)))) else none) else (some x10)
theorem Qgo (k : Nat) (a0 : (List Qj)) (a2 : A27) (r3966 : (List (ByteArray × Int))) : ∀ (fuel : Nat) (x10 : ByteArray) (x11 : Int) (x36 : Int) (r : ByteArray), Z5 k a0 a2 r3966 fuel x10 x11 x36 = some r -> (Yw none Try.prog (szF Try.f10) (Ya Try.f10 0) (Zp a0 a2 r3966 x10 x11 x36) (.exit 0) (Qar a0 a2 r3966 r)) := by
 intro fuel
 induction fuel with
 | zero => intro x10 x11 x36 r h; rw [Z5.eq_1] at h; cases h
 | succ fuel ih =>
  intro x10 x11 x36 r h
  rw [Z5.eq_2] at h
  rcases ifs h with ⟨h4049, h⟩ | ⟨h4049, h⟩
  ·obtain ⟨h4050, h⟩ := ifn h
   have e4051 := (show Xt Try.prog 51 (x36.toNat * 4) (flatMap Qc a0) = some (VV.ag (Qc (a0.getD x36.toNat default))) from Yo ag51 Qc 4 sz51 Jr a0 default h4050 (by omega))
   rcases ifs h with ⟨h4052, h⟩ | ⟨h4052, h⟩
   ·have e4053 := (show Wh (kdV (.string ((a0.getD x36.toNat default).Name))) (flatMap (mpE vi) r3966) = true /\ lkM (.string ((a0.getD x36.toNat default).Name)) (flatMap (mpE vi) r3966) = some (vi (mget r3966 ((a0.getD x36.toNat default).Name))) from ⟨(Xc vi ((a0.getD x36.toNat default).Name) r3966), (Qer vi ((a0.getD x36.toNat default).Name) r3966 h4052)⟩)
    rcases ifs h with ⟨h4054, h⟩ | ⟨h4054, h⟩
    ·have e4055 := (ti (ti (ti (an e4053 (ti (ti (an (dt h4054) (an (dt h4054) (an (dt h4054) (an (dt h4054) (an (dt h4054) (an (dt h4054) (ti (an rt (an rt (an rt (an rt (an rt (an rt tt)))))))))))))))))))
     have h2 := ih _ _ _ _ h
     obtain ⟨q, hv, hq⟩ := pkR (rd := none) (P := Try.prog) (fn := Try.f10) (k := 0) (s := (Zp a0 a2 r3966 x10 x11 x36)) (ans := [.reg (.n :: []), .br true, .reg (.n :: .v (VV.ag (Qc (a0.getD x36.toNat default))) :: .n :: .n :: []), .reg (Qz0 r3966 a0 x36), .br true, .reg (.n :: .n :: [])]) (c := ⟨[(5, none), (8, none), (10, none), (11, none), (34, none), (35, none), (36, none)], [none, none], []⟩) (e := .normal) (s1 := (Zp a0 a2 r3966 x10 x11 (w64 (x36 + 1)))) (an (an (ti tt) (an (an (dt h4049) tt) (an (an (an h4050 (an e4051 (ti (ti tt)))) (an e4055 (an rt tt))) (ti (ti tt))))) (ti tt)) (by kernel_rfl)
     exact Qz pm pn hv hq h2
    ·have e4056 := (an (df h4054) (show (0:Int) <= 0 /\ (0:Int) < ((2 : Nat) : Int) from ⟨by decide, by decide⟩))
     rcases ifs h with ⟨h4057, h⟩ | ⟨h4057, h⟩
     ·have e4058 := (ti (ti (ti (an e4053 (ti (ti (an (an (df h4054) tt) (an (an (df h4054) tt) (an e4056 (an (an (df h4054) tt) (an (an (df h4054) tt) (an (df h4054) (ti (an (dt h4057) (an (dt h4057) (an (dt h4057) (an (dt h4057) (an (dt h4057) (an (dt h4057) tt)))))))))))))))))))
      have h2 := ih _ _ _ _ h
      obtain ⟨q, hv, hq⟩ := pkR (rd := none) (P := Try.prog) (fn := Try.f10) (k := 0) (s := (Zp a0 a2 r3966 x10 x11 x36)) (ans := [.reg (.n :: []), .br true, .reg (.n :: .v (VV.ag (Qc (a0.getD x36.toNat default))) :: .n :: .n :: []), .reg (Qz1 r3966 a0 x36), .br true, .reg (.n :: .n :: [])]) (c := ⟨[(5, none), (8, none), (10, none), (11, none), (34, none), (35, none), (36, none)], [none, none], []⟩) (e := .normal) (s1 := (Zp a0 a2 r3966 x10 x11 (w64 (x36 + 1)))) (an (an (ti tt) (an (an (dt h4049) tt) (an (an (an h4050 (an e4051 (ti (ti tt)))) (an e4058 (an rt tt))) (ti (ti tt))))) (ti tt)) (by kernel_rfl)
      exact Qz pm pn hv hq h2
     ·have e4059 := (an (df h4057) (show (0:Int) <= 1 /\ (1:Int) < ((2 : Nat) : Int) from ⟨by decide, by decide⟩))
      have e4060 := (ti (ti (ti (an e4053 (ti (ti (an (an (df h4054) tt) (an (an (df h4054) tt) (an e4056 (an (an (df h4054) tt) (an (an (df h4054) tt) (an (df h4054) (ti (an (an (df h4057) tt) (an (an (df h4057) tt) (an e4059 (an (an (df h4057) tt) (an (an (df h4057) tt) (an (df h4057) tt)))))))))))))))))))
      rcases ifs h with ⟨h4061, h⟩ | ⟨h4061, h⟩
      ·have h2 := ih _ _ _ _ h
       obtain ⟨q, hv, hq⟩ := pkR (rd := none) (P := Try.prog) (fn := Try.f10) (k := 0) (s := (Zp a0 a2 r3966 x10 x11 x36)) (ans := [.reg (.n :: []), .br true, .reg (.n :: .v (VV.ag (Qc (a0.getD x36.toNat default))) :: .n :: .n :: []), .reg (Qof r3966 a0 x36), .br true, .reg (.n :: .n :: [])]) (c := ⟨[(5, none), (8, none), (10, none), (11, none), (34, none), (35, none), (36, none)], [none, none], []⟩) (e := .normal) (s1 := (Zp a0 a2 r3966 x10 x11 (w64 (x36 + 1)))) (an (an (ti tt) (an (an (dt h4049) tt) (an (an (an h4050 (an e4051 (ti (ti tt)))) (an e4060 (an (dt h4061) tt))) (ti (ti tt))))) (ti tt)) (by kernel_rfl)
       exact Qz pm pn hv hq h2
      ·have e4062 := (ti (ti (ti (ti (ti (ti (ti (ti (ti tt)))))))))
       rcases ifs h with ⟨h4063, h⟩ | ⟨h4063, h⟩
       ·have e4064 := (ti (ti (ti (an (dt h4063) (an (dt h4063) (an (dt h4063) (an (dt h4063) tt)))))))
        have h2 := ih _ _ _ _ h
        obtain ⟨q, hv, hq⟩ := pkR (rd := none) (P := Try.prog) (fn := Try.f10) (k := 0) (s := (Zp a0 a2 r3966 x10 x11 x36)) (ans := [.reg (.n :: []), .br true, .reg (.n :: .v (VV.ag (Qc (a0.getD x36.toNat default))) :: .n :: .n :: []), .reg (Qof r3966 a0 x36), .br false, .reg (nN 9 []), .reg (nN 3 (nS 3 (.b true :: []))), .br true, .reg (nN 5 []), .reg (.n :: .n :: [])]) (c := ⟨[(5, none), (8, none), (10, none), (11, none), (34, none), (35, none), (36, none)], [none, none], []⟩) (e := .normal) (s1 := (Zp a0 a2 r3966 ((a0.getD x36.toNat default).Name) (w64 ((w64 (((a0.getD x36.toNat default).Diameter) * ((a0.getD x36.toNat default).Diameter))) * ((a0.getD x36.toNat default).Thick))) (w64 (x36 + 1)))) (an (an (ti tt) (an (an (dt h4049) tt) (an (an (an h4050 (an e4051 (ti (ti tt)))) (an (an e4060 (an (df h4061) tt)) (an e4062 (an e4064 (an rt (ti (ti (ti (ti (ti tt)))))))))) (ti (ti tt))))) (ti tt)) (by kernel_rfl)
        exact Qz pm pn hv hq h2
       ·have e4065 := (ti (ti (ti (an (an (df h4063) tt) (an (an (df h4063) tt) (an (an (df h4063) tt) (an (df h4063) tt)))))))
        rcases ifs h with ⟨h4066, h⟩ | ⟨h4066, h⟩
        ·have h2 := ih _ _ _ _ h
         obtain ⟨q, hv, hq⟩ := pkR (rd := none) (P := Try.prog) (fn := Try.f10) (k := 0) (s := (Zp a0 a2 r3966 x10 x11 x36)) (ans := [.reg (.n :: []), .br true, .reg (.n :: .v (VV.ag (Qc (a0.getD x36.toNat default))) :: .n :: .n :: []), .reg (Qof r3966 a0 x36), .br false, .reg (nN 9 []), .reg (nN 6 (.b false :: [])), .br true, .reg (nN 5 []), .reg (.n :: .n :: [])]) (c := ⟨[(5, none), (8, none), (10, none), (11, none), (34, none), (35, none), (36, none)], [none, none], []⟩) (e := .normal) (s1 := (Zp a0 a2 r3966 ((a0.getD x36.toNat default).Name) (w64 ((w64 (((a0.getD x36.toNat default).Diameter) * ((a0.getD x36.toNat default).Diameter))) * ((a0.getD x36.toNat default).Thick))) (w64 (x36 + 1)))) (an (an (ti tt) (an (an (dt h4049) tt) (an (an (an h4050 (an e4051 (ti (ti tt)))) (an (an e4060 (an (df h4061) tt)) (an e4062 (an e4065 (an (dt h4066) (ti (ti (ti (ti (ti tt)))))))))) (ti (ti tt))))) (ti tt)) (by kernel_rfl)
         exact Qz pm pn hv hq h2
        ·have h2 := ih _ _ _ _ h
         obtain ⟨q, hv, hq⟩ := pkR (rd := none) (P := Try.prog) (fn := Try.f10) (k := 0) (s := (Zp a0 a2 r3966 x10 x11 x36)) (ans := [.reg (.n :: []), .br true, .reg (.n :: .v (VV.ag (Qc (a0.getD x36.toNat default))) :: .n :: .n :: []), .reg (Qof r3966 a0 x36), .br false, .reg (nN 9 []), .reg (nN 6 (.b false :: [])), .br false, .reg (.n :: .n :: [])]) (c := ⟨[(5, none), (8, none), (10, none), (11, none), (34, none), (35, none), (36, none)], [none, none], []⟩) (e := .normal) (s1 := (Zp a0 a2 r3966 x10 x11 (w64 (x36 + 1)))) (an (an (ti tt) (an (an (dt h4049) tt) (an (an (an h4050 (an e4051 (ti (ti tt)))) (an (an e4060 (an (df h4061) tt)) (an e4062 (an e4065 (an (df h4066) tt))))) (ti (ti tt))))) (ti tt)) (by kernel_rfl)
         exact Qz pm pn hv hq h2
   ·have e4067 := (show Wh (kdV (.string ((a0.getD x36.toNat default).Name))) (flatMap (mpE vi) r3966) = true /\ lkM (.string ((a0.getD x36.toNat default).Name)) (flatMap (mpE vi) r3966) = none from ⟨(Xc vi ((a0.getD x36.toNat default).Name) r3966), (Qgw vi ((a0.getD x36.toNat default).Name) r3966 (Zk h4052))⟩)
    have e4068 := (show (decide ((0 : Int) = 0)) = true from (dt (by decide)))
    have e4069 := (ti (ti (ti (an e4067 (ti (ti (an (show (decide ((0 : Int) = 0)) = !false from (dt (by decide))) (an (show (decide ((0 : Int) = 0)) = !false from (dt (by decide))) (an (show (decide ((0 : Int) = 0)) = !false from (dt (by decide))) (an (show (decide ((0 : Int) = 0)) = !false from (dt (by decide))) (an (show (decide ((0 : Int) = 0)) = !false from (dt (by decide))) (an e4068 (ti (an rt (an rt (an rt (an rt (an rt (an rt tt)))))))))))))))))))
    have h2 := ih _ _ _ _ h
    obtain ⟨q, hv, hq⟩ := pkR (rd := none) (P := Try.prog) (fn := Try.f10) (k := 0) (s := (Zp a0 a2 r3966 x10 x11 x36)) (ans := [.reg (.n :: []), .br true, .reg (.n :: .v (VV.ag (Qc (a0.getD x36.toNat default))) :: .n :: .n :: []), .reg (nN 3 (.b false :: .n :: .n :: nS 5 (.b true :: .n :: nS 5 (.b true :: [])))), .br true, .reg (.n :: .n :: [])]) (c := ⟨[(5, none), (8, none), (10, none), (11, none), (34, none), (35, none), (36, none)], [none, none], []⟩) (e := .normal) (s1 := (Zp a0 a2 r3966 x10 x11 (w64 (x36 + 1)))) (an (an (ti tt) (an (an (dt h4049) tt) (an (an (an h4050 (an e4051 (ti (ti tt)))) (an e4069 (an rt tt))) (ti (ti tt))))) (ti tt)) (by kernel_rfl)
    exact Qz pm pn hv hq h2
  ·injection h with h; subst h
   exact Q5 (c := ⟨[(10, none)], [], []⟩) (s1 := (Qar a0 a2 r3966 x10)) pm pn (ans := [.reg (.n :: []), .br false]) (by kernel_rfl) (by intro e; cases e) (an (an (ti tt) (an (df h4049) tt)) (ti tt))
noncomputable def Qz3 (z0 : Int) : List Ans := (.n :: .n :: .inl (inlF Try.f24 [.reg (.n :: .n :: []), .reg (.n :: .call (vi z0) :: .n :: []), .reg (.n :: .n :: []), .br true, .reg (nN 3 [])]) :: nN 5 [])
def Qcr (k : Nat) (a0 : (List Qj)) (a1 : (List Qe)) (a2 : A27) : Option (ByteArray × Int) :=
 (Y4 k a0).bind fun r3671 => (if r3671 = 0 then (if 200 < (a1.length : Int) then (some ((⟨#[]⟩ : ByteArray), 8)) else ((Xy k a0 a1 a2 k ([] : List (ByteArray × Int)) 0).bind fun r3691 => ((Zv k a0 a1 a2 k r3691 ([] : List (ByteArray × Bool)) 0).bind fun r3964 => (match r3964 with | .inl r3965 => (if r3965 = 0 then ((Jt k a2.e0 1 1000).bind fun r3972 => (if r3972 = true then ((Jt k a2.e1 1 500).bind fun r3977 => (if r3977 = true then ((Qbw k a0 a2 k).bind fun r3989 => (if (⟨#[]⟩ : ByteArray) = (⟨#[]⟩ : ByteArray) then (some ((⟨#[]⟩ : ByteArray), 12)) else (some ((⟨#[]⟩ : ByteArray), 0)))) else (some ((⟨#[]⟩ : ByteArray), 2)))) else (some ((⟨#[]⟩ : ByteArray), 2)))) else (some ((⟨#[]⟩ : ByteArray), r3965))) | .inr r3966 => ((Jt k a2.e0 1 1000).bind fun r3997 => (if r3997 = true then ((Jt k a2.e1 1 500).bind fun r4002 => (if r4002 = true then ((Z5 k a0 a2 r3966 k (⟨#[]⟩ : ByteArray) 0 0).bind fun r4071 => (if r4071 = (⟨#[]⟩ : ByteArray) then (some ((⟨#[]⟩ : ByteArray), 12)) else (some (r4071, 0)))) else (some ((⟨#[]⟩ : ByteArray), 2)))) else (some ((⟨#[]⟩ : ByteArray), 2)))))))) else (some ((⟨#[]⟩ : ByteArray), r3671)))
theorem Qim (k : Nat) (a0 : (List Qj)) (a1 : (List Qe)) (a2 : A27) (r : (ByteArray × Int)) (h : Qcr k a0 a1 a2 = some r) : VC Try.prog 10 [VV.tr (flatMap Qc a0) a0.length, VV.tr (flatMap Qa a1) a1.length, VV.ag (Qf5 a2)] (VV.tu [vs r.1, vi r.2]) := by
 unfold Qcr at h
 obtain ⟨r3671, h3672, h⟩ := bs h
 have e3673 := (ti (an (Qdg k a0 _ h3672) (ti tt)))
 rcases ifs h with ⟨h3674, h⟩ | ⟨h3674, h⟩
 ·rcases ifs h with ⟨h3675, h⟩ | ⟨h3675, h⟩
  ·have e3676 := (an (an Try.func24 (an (ti (ti tt)) (an (an e3673 (an (ti (ti tt)) (an (Qm (dt h3674)) tt))) (an (ti (ti (ti tt))) (an (dt h3675) (an (ti (ti tt)) tt)))))) (ti (ti tt)))
   have e3677 := (ti (ti (an e3676 (ti (ti (ti (ti (ti tt))))))))
   injection h with h; subst h
   exact Qw pm pn Try.func10 (r0 := VV.tu [vs (⟨#[]⟩ : ByteArray), vi 8]) (ans := [.reg (nN 3 []), .reg (Qz2 r3671), .reg (.n :: .n :: []), .br true, .reg (nN 3 [])]) (fr := true) (by kernel_rfl) (an (an (ti (ti (ti tt))) (an e3677 (an (ti (ti tt)) (an (show (!(decide ((8 : Int) = 0))) = true from (Za (df (by decide)))) (an (ti (ti (ti tt))) tt))))) (ti (ti tt))) (Wv.refl _)
  ·obtain ⟨r3691, h3690, h⟩ := bs h
   have hph3690 := Qfc k a0 a1 a2 _ _ _ _ h3690
   have e3692 := (an (ti (an (show [] = flatMap (mpE vi) ([] : List (ByteArray × Int)) from rfl) tt)) (VRun.loop hph3690))
   obtain ⟨r3964, h3963, h⟩ := bs h
   have hph3963 := Qfd k a0 a1 a2 _ _ _ _ _ h3963
   cases r3964 with
   | inl r3965 =>
    dsimp only at h
    have e3967 := (an (ti (an (show [] = flatMap (mpE vb) ([] : List (ByteArray × Bool)) from rfl) tt)) (VRun.loop hph3963))
    have e3968 := (an (an Try.func24 (an (ti (ti tt)) (an (an e3673 (an (ti (ti tt)) (an (Qm (dt h3674)) tt))) (an (an (ti (ti (ti tt))) (an (df h3675) tt)) (an (ti (ti (ti (ti tt)))) (an (an (ti (ti (ti tt))) e3692) (an (ti (ti (ti tt))) e3967))))))) (ti (ti tt)))
    have e3969 := (ti (ti (an e3968 (ti (ti (ti (ti (ti tt))))))))
    rcases ifs h with ⟨h3970, h⟩ | ⟨h3970, h⟩
    ·have e3971 := (show (0:Int) <= 0 /\ (0:Int) < ((2 : Nat) : Int) from ⟨by decide, by decide⟩)
     obtain ⟨r3972, h3973, h⟩ := bs h
     have e3974 := (Yv k a2.e0 1 1000 _ h3973)
     rcases ifs h with ⟨h3975, h⟩ | ⟨h3975, h⟩
     ·have e3976 := (an (Qm h3975) (show (0:Int) <= 1 /\ (1:Int) < ((2 : Nat) : Int) from ⟨by decide, by decide⟩))
      obtain ⟨r3977, h3978, h⟩ := bs h
      have e3979 := (an (Qm h3975) (Yv k a2.e1 1 500 _ h3978))
      have e3980 := (an e3971 (ti (an e3974 (ti (ti (an e3976 (an (an (Qm h3975) tt) (an e3979 (an (an (Qm h3975) tt) (an (Qm h3975) tt))))))))))
      rcases ifs h with ⟨h3981, h⟩ | ⟨h3981, h⟩
      ·obtain ⟨r3989, h3988, h⟩ := bs h
       have hph3988 := Qgn k a0 a2 _  _ h3988
       have e3990 := (an (ti tt) (VRun.loop hph3988))
       rcases ifs h with ⟨h3991, h⟩ | ⟨h3991, h⟩
       ·injection h with h; subst h
        exact Qw pm pn Try.func10 (r0 := VV.tu [vs (⟨#[]⟩ : ByteArray), vi 12]) (ans := [.reg (nN 3 []), .reg (.n :: .n :: .inl (inlF Try.f24 [.reg (.n :: .n :: []), .reg (.n :: .call (vi r3671) :: .n :: []), .reg (.n :: .n :: []), .br false, .reg (nN 3 []), .br false, .reg (nN 4 []), .reg (nN 3 []), .sub ⟨[(1, none), (7, none), (8, none), (24, none), (25, none), (26, none)], [none, some (flatMap (mpE vi) ([] : List (ByteArray × Int))), none], []⟩ (.exit 0) (Zz a0 a1 a2 r3691), .reg (nN 3 []), .sub ⟨[(7, none), (8, none), (36, none), (37, none), (38, none)], [none, none, some (flatMap (mpE vb) ([] : List (ByteArray × Bool)))], []⟩ .ret (Z9 a0 a1 a2 r3965)]) :: nN 5 []), .reg (.n :: .n :: []), .br false, .reg (.n :: .n :: .call (vb r3972) :: nN 4 (.call (vb r3977) :: .n :: .b false :: [])), .br false, .reg (.n :: .n :: []), .reg (nN 3 []), .sub ⟨[(5, none), (8, none), (10, none), (11, none), (34, none), (35, none), (36, none)], [none], []⟩ (.exit 0) (Qaq a0 a2 r3989), .reg (.n :: .n :: []), .br true, .reg (.n :: .n :: [])]) (fr := true) (by kernel_rfl) (an (an (ti (ti (ti tt))) (an e3969 (an (an (ti (ti tt)) (an (Qm (dt h3970)) tt)) (an (an e3980 (an (Qm h3981) tt)) (an (ti (ti tt)) (an (an (ti (ti (ti tt))) e3990) (an (ti (ti tt)) (an (dt h3991) (an (ti (ti tt)) tt))))))))) (ti (ti tt))) (Wv.refl _)
       ·injection h with h; subst h
        exact Qw pm pn Try.func10 (r0 := VV.tu [vs (⟨#[]⟩ : ByteArray), vi 0]) (ans := [.reg (nN 3 []), .reg (.n :: .n :: .inl (inlF Try.f24 [.reg (.n :: .n :: []), .reg (.n :: .call (vi r3671) :: .n :: []), .reg (.n :: .n :: []), .br false, .reg (nN 3 []), .br false, .reg (nN 4 []), .reg (nN 3 []), .sub ⟨[(1, none), (7, none), (8, none), (24, none), (25, none), (26, none)], [none, some (flatMap (mpE vi) ([] : List (ByteArray × Int))), none], []⟩ (.exit 0) (Zz a0 a1 a2 r3691), .reg (nN 3 []), .sub ⟨[(7, none), (8, none), (36, none), (37, none), (38, none)], [none, none, some (flatMap (mpE vb) ([] : List (ByteArray × Bool)))], []⟩ .ret (Z9 a0 a1 a2 r3965)]) :: nN 5 []), .reg (.n :: .n :: []), .br false, .reg (.n :: .n :: .call (vb r3972) :: nN 4 (.call (vb r3977) :: .n :: .b false :: [])), .br false, .reg (.n :: .n :: []), .reg (nN 3 []), .sub ⟨[(5, none), (8, none), (10, none), (11, none), (34, none), (35, none), (36, none)], [none], []⟩ (.exit 0) (Qaq a0 a2 r3989), .reg (.n :: .n :: []), .br false, .reg (nN 3 [])]) (fr := true) (by kernel_rfl) (an (an (ti (ti (ti tt))) (an e3969 (an (an (ti (ti tt)) (an (Qm (dt h3970)) tt)) (an (an e3980 (an (Qm h3981) tt)) (an (ti (ti tt)) (an (an (ti (ti (ti tt))) e3990) (an (an (ti (ti tt)) (an (df h3991) tt)) (an (ti (ti (ti tt))) tt)))))))) (ti (ti tt))) (Wv.refl _)
      ·injection h with h; subst h
       exact Qw pm pn Try.func10 (r0 := VV.tu [vs (⟨#[]⟩ : ByteArray), vi 2]) (ans := [.reg (nN 3 []), .reg (.n :: .n :: .inl (inlF Try.f24 [.reg (.n :: .n :: []), .reg (.n :: .call (vi r3671) :: .n :: []), .reg (.n :: .n :: []), .br false, .reg (nN 3 []), .br false, .reg (nN 4 []), .reg (nN 3 []), .sub ⟨[(1, none), (7, none), (8, none), (24, none), (25, none), (26, none)], [none, some (flatMap (mpE vi) ([] : List (ByteArray × Int))), none], []⟩ (.exit 0) (Zz a0 a1 a2 r3691), .reg (nN 3 []), .sub ⟨[(7, none), (8, none), (36, none), (37, none), (38, none)], [none, none, some (flatMap (mpE vb) ([] : List (ByteArray × Bool)))], []⟩ .ret (Z9 a0 a1 a2 r3965)]) :: nN 5 []), .reg (.n :: .n :: []), .br false, .reg (.n :: .n :: .call (vb r3972) :: nN 4 (.call (vb r3977) :: .n :: .b false :: [])), .br true, .reg (.n :: .n :: [])]) (fr := true) (by kernel_rfl) (an (an (ti (ti (ti tt))) (an e3969 (an (an (ti (ti tt)) (an (Qm (dt h3970)) tt)) (an e3980 (an (Za (Zk h3981)) (an (ti (ti tt)) tt)))))) (ti (ti tt))) (Wv.refl _)
     ·have e3992 := (an e3971 (ti (an e3974 (ti (ti (an (Za (Zk h3975)) (an (Za (Zk h3975)) (an (Za (Zk h3975)) (an (Za (Zk h3975)) (an (Za (Zk h3975)) tt))))))))))
      injection h with h; subst h
      exact Qw pm pn Try.func10 (r0 := VV.tu [vs (⟨#[]⟩ : ByteArray), vi 2]) (ans := [.reg (nN 3 []), .reg (.n :: .n :: .inl (inlF Try.f24 [.reg (.n :: .n :: []), .reg (.n :: .call (vi r3671) :: .n :: []), .reg (.n :: .n :: []), .br false, .reg (nN 3 []), .br false, .reg (nN 4 []), .reg (nN 3 []), .sub ⟨[(1, none), (7, none), (8, none), (24, none), (25, none), (26, none)], [none, some (flatMap (mpE vi) ([] : List (ByteArray × Int))), none], []⟩ (.exit 0) (Zz a0 a1 a2 r3691), .reg (nN 3 []), .sub ⟨[(7, none), (8, none), (36, none), (37, none), (38, none)], [none, none, some (flatMap (mpE vb) ([] : List (ByteArray × Bool)))], []⟩ .ret (Z9 a0 a1 a2 r3965)]) :: nN 5 []), .reg (.n :: .n :: []), .br false, .reg (.n :: .n :: .call (vb r3972) :: .n :: .n :: nS 4 (.b true :: [])), .br true, .reg (.n :: .n :: [])]) (fr := true) (by kernel_rfl) (an (an (ti (ti (ti tt))) (an e3969 (an (an (ti (ti tt)) (an (Qm (dt h3970)) tt)) (an e3992 (an rt (an (ti (ti tt)) tt)))))) (ti (ti tt))) (Wv.refl _)
    ·injection h with h; subst h
     exact Qw pm pn Try.func10 (r0 := VV.tu [vs (⟨#[]⟩ : ByteArray), vi r3965]) (ans := [.reg (nN 3 []), .reg (.n :: .n :: .inl (inlF Try.f24 [.reg (.n :: .n :: []), .reg (.n :: .call (vi r3671) :: .n :: []), .reg (.n :: .n :: []), .br false, .reg (nN 3 []), .br false, .reg (nN 4 []), .reg (nN 3 []), .sub ⟨[(1, none), (7, none), (8, none), (24, none), (25, none), (26, none)], [none, some (flatMap (mpE vi) ([] : List (ByteArray × Int))), none], []⟩ (.exit 0) (Zz a0 a1 a2 r3691), .reg (nN 3 []), .sub ⟨[(7, none), (8, none), (36, none), (37, none), (38, none)], [none, none, some (flatMap (mpE vb) ([] : List (ByteArray × Bool)))], []⟩ .ret (Z9 a0 a1 a2 r3965)]) :: nN 5 []), .reg (.n :: .n :: []), .br true, .reg (nN 3 [])]) (fr := true) (by kernel_rfl) (an (an (ti (ti (ti tt))) (an e3969 (an (ti (ti tt)) (an (Za (df h3970)) (an (ti (ti (ti tt))) tt))))) (ti (ti tt))) (Wv.refl _)
   | inr r3966 =>
    dsimp only at h
    have e3993 := (an (ti (an (show [] = flatMap (mpE vb) ([] : List (ByteArray × Bool)) from rfl) tt)) (VRun.loop hph3963))
    have e3994 := (an (an Try.func24 (an (ti (ti tt)) (an (an e3673 (an (ti (ti tt)) (an (Qm (dt h3674)) tt))) (an (an (ti (ti (ti tt))) (an (df h3675) tt)) (an (ti (ti (ti (ti tt)))) (an (an (ti (ti (ti tt))) e3692) (an (an (ti (ti (ti tt))) e3993) (an (ti (ti (ti tt))) tt)))))))) (ti (ti tt)))
    have e3995 := (ti (ti (an e3994 (ti (ti (ti (ti (ti tt))))))))
    have e3996 := (show (0:Int) <= 0 /\ (0:Int) < ((2 : Nat) : Int) from ⟨by decide, by decide⟩)
    obtain ⟨r3997, h3998, h⟩ := bs h
    have e3999 := (Yv k a2.e0 1 1000 _ h3998)
    rcases ifs h with ⟨h4000, h⟩ | ⟨h4000, h⟩
    ·have e4001 := (an (Qm h4000) (show (0:Int) <= 1 /\ (1:Int) < ((2 : Nat) : Int) from ⟨by decide, by decide⟩))
     obtain ⟨r4002, h4003, h⟩ := bs h
     have e4004 := (an (Qm h4000) (Yv k a2.e1 1 500 _ h4003))
     have e4005 := (an e3996 (ti (an e3999 (ti (ti (an e4001 (an (an (Qm h4000) tt) (an e4004 (an (an (Qm h4000) tt) (an (Qm h4000) tt))))))))))
     rcases ifs h with ⟨h4006, h⟩ | ⟨h4006, h⟩
     ·obtain ⟨r4071, h4070, h⟩ := bs h
      have hph4070 := Qgo k a0 a2 r3966 _ _ _ _ _ h4070
      have e4072 := (an (ti tt) (VRun.loop hph4070))
      rcases ifs h with ⟨h4073, h⟩ | ⟨h4073, h⟩
      ·injection h with h; subst h
       exact Qw pm pn Try.func10 (r0 := VV.tu [vs (⟨#[]⟩ : ByteArray), vi 12]) (ans := [.reg (nN 3 []), .reg (.n :: .n :: .inl (inlF Try.f24 [.reg (.n :: .n :: []), .reg (.n :: .call (vi r3671) :: .n :: []), .reg (.n :: .n :: []), .br false, .reg (nN 3 []), .br false, .reg (nN 4 []), .reg (nN 3 []), .sub ⟨[(1, none), (7, none), (8, none), (24, none), (25, none), (26, none)], [none, some (flatMap (mpE vi) ([] : List (ByteArray × Int))), none], []⟩ (.exit 0) (Zz a0 a1 a2 r3691), .reg (nN 3 []), .sub ⟨[(7, none), (8, none), (36, none), (37, none), (38, none)], [none, none, some (flatMap (mpE vb) ([] : List (ByteArray × Bool)))], []⟩ (.exit 2) (Js a0 a1 a2 r3966), .reg (nN 3 [])]) :: nN 5 []), .reg (.n :: .n :: []), .br false, .reg (.n :: .n :: .call (vb r3997) :: nN 4 (.call (vb r4002) :: .n :: .b false :: [])), .br false, .reg (.n :: .n :: []), .reg (nN 3 []), .sub ⟨[(5, none), (8, none), (10, none), (11, none), (34, none), (35, none), (36, none)], [none, none], []⟩ (.exit 0) (Qar a0 a2 r3966 r4071), .reg (.n :: .n :: []), .br true, .reg (.n :: .n :: [])]) (fr := true) (by kernel_rfl) (an (an (ti (ti (ti tt))) (an e3995 (an (an (ti (ti tt)) (an (show (!(decide ((0 : Int) = 0))) = false from (Qm (dt (by decide)))) tt)) (an (an e4005 (an (Qm h4006) tt)) (an (ti (ti tt)) (an (an (ti (ti (ti tt))) e4072) (an (ti (ti tt)) (an (dt h4073) (an (ti (ti tt)) tt))))))))) (ti (ti tt))) (Wv.refl _)
      ·injection h with h; subst h
       exact Qw pm pn Try.func10 (r0 := VV.tu [vs r4071, vi 0]) (ans := [.reg (nN 3 []), .reg (.n :: .n :: .inl (inlF Try.f24 [.reg (.n :: .n :: []), .reg (.n :: .call (vi r3671) :: .n :: []), .reg (.n :: .n :: []), .br false, .reg (nN 3 []), .br false, .reg (nN 4 []), .reg (nN 3 []), .sub ⟨[(1, none), (7, none), (8, none), (24, none), (25, none), (26, none)], [none, some (flatMap (mpE vi) ([] : List (ByteArray × Int))), none], []⟩ (.exit 0) (Zz a0 a1 a2 r3691), .reg (nN 3 []), .sub ⟨[(7, none), (8, none), (36, none), (37, none), (38, none)], [none, none, some (flatMap (mpE vb) ([] : List (ByteArray × Bool)))], []⟩ (.exit 2) (Js a0 a1 a2 r3966), .reg (nN 3 [])]) :: nN 5 []), .reg (.n :: .n :: []), .br false, .reg (.n :: .n :: .call (vb r3997) :: nN 4 (.call (vb r4002) :: .n :: .b false :: [])), .br false, .reg (.n :: .n :: []), .reg (nN 3 []), .sub ⟨[(5, none), (8, none), (10, none), (11, none), (34, none), (35, none), (36, none)], [none, none], []⟩ (.exit 0) (Qar a0 a2 r3966 r4071), .reg (.n :: .n :: []), .br false, .reg (nN 3 [])]) (fr := true) (by kernel_rfl) (an (an (ti (ti (ti tt))) (an e3995 (an (an (ti (ti tt)) (an (show (!(decide ((0 : Int) = 0))) = false from (Qm (dt (by decide)))) tt)) (an (an e4005 (an (Qm h4006) tt)) (an (ti (ti tt)) (an (an (ti (ti (ti tt))) e4072) (an (an (ti (ti tt)) (an (df h4073) tt)) (an (ti (ti (ti tt))) tt)))))))) (ti (ti tt))) (Wv.refl _)
     ·injection h with h; subst h
      exact Qw pm pn Try.func10 (r0 := VV.tu [vs (⟨#[]⟩ : ByteArray), vi 2]) (ans := [.reg (nN 3 []), .reg (.n :: .n :: .inl (inlF Try.f24 [.reg (.n :: .n :: []), .reg (.n :: .call (vi r3671) :: .n :: []), .reg (.n :: .n :: []), .br false, .reg (nN 3 []), .br false, .reg (nN 4 []), .reg (nN 3 []), .sub ⟨[(1, none), (7, none), (8, none), (24, none), (25, none), (26, none)], [none, some (flatMap (mpE vi) ([] : List (ByteArray × Int))), none], []⟩ (.exit 0) (Zz a0 a1 a2 r3691), .reg (nN 3 []), .sub ⟨[(7, none), (8, none), (36, none), (37, none), (38, none)], [none, none, some (flatMap (mpE vb) ([] : List (ByteArray × Bool)))], []⟩ (.exit 2) (Js a0 a1 a2 r3966), .reg (nN 3 [])]) :: nN 5 []), .reg (.n :: .n :: []), .br false, .reg (.n :: .n :: .call (vb r3997) :: nN 4 (.call (vb r4002) :: .n :: .b false :: [])), .br true, .reg (.n :: .n :: [])]) (fr := true) (by kernel_rfl) (an (an (ti (ti (ti tt))) (an e3995 (an (an (ti (ti tt)) (an (show (!(decide ((0 : Int) = 0))) = false from (Qm (dt (by decide)))) tt)) (an e4005 (an (Za (Zk h4006)) (an (ti (ti tt)) tt)))))) (ti (ti tt))) (Wv.refl _)
    ·have e4074 := (an e3996 (ti (an e3999 (ti (ti (an (Za (Zk h4000)) (an (Za (Zk h4000)) (an (Za (Zk h4000)) (an (Za (Zk h4000)) (an (Za (Zk h4000)) tt))))))))))
     injection h with h; subst h
     exact Qw pm pn Try.func10 (r0 := VV.tu [vs (⟨#[]⟩ : ByteArray), vi 2]) (ans := [.reg (nN 3 []), .reg (.n :: .n :: .inl (inlF Try.f24 [.reg (.n :: .n :: []), .reg (.n :: .call (vi r3671) :: .n :: []), .reg (.n :: .n :: []), .br false, .reg (nN 3 []), .br false, .reg (nN 4 []), .reg (nN 3 []), .sub ⟨[(1, none), (7, none), (8, none), (24, none), (25, none), (26, none)], [none, some (flatMap (mpE vi) ([] : List (ByteArray × Int))), none], []⟩ (.exit 0) (Zz a0 a1 a2 r3691), .reg (nN 3 []), .sub ⟨[(7, none), (8, none), (36, none), (37, none), (38, none)], [none, none, some (flatMap (mpE vb) ([] : List (ByteArray × Bool)))], []⟩ (.exit 2) (Js a0 a1 a2 r3966), .reg (nN 3 [])]) :: nN 5 []), .reg (.n :: .n :: []), .br false, .reg (.n :: .n :: .call (vb r3997) :: .n :: .n :: nS 4 (.b true :: [])), .br true, .reg (.n :: .n :: [])]) (fr := true) (by kernel_rfl) (an (an (ti (ti (ti tt))) (an e3995 (an (an (ti (ti tt)) (an (show (!(decide ((0 : Int) = 0))) = false from (Qm (dt (by decide)))) tt)) (an e4074 (an rt (an (ti (ti tt)) tt)))))) (ti (ti tt))) (Wv.refl _)
 ·have e4075 := (an (an Try.func24 (an (ti (ti tt)) (an e3673 (an (ti (ti tt)) (an (Za (df h3674)) (an (ti (ti (ti tt))) tt)))))) (ti (ti tt)))
  have e4076 := (ti (ti (an e4075 (ti (ti (ti (ti (ti tt))))))))
  injection h with h; subst h
  exact Qw pm pn Try.func10 (r0 := VV.tu [vs (⟨#[]⟩ : ByteArray), vi r3671]) (ans := [.reg (nN 3 []), .reg (Qz3 r3671), .reg (.n :: .n :: []), .br true, .reg (nN 3 [])]) (fr := true) (by kernel_rfl) (an (an (ti (ti (ti tt))) (an e4076 (an (ti (ti tt)) (an (Za (df h3674)) (an (ti (ti (ti tt))) tt))))) (ti (ti tt))) (Wv.refl _)
end Go.Proofs.Ytmaegladkjcmdaa.Vg

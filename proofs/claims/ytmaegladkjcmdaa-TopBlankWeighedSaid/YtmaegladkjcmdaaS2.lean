import Derived.Test.YtmaegladkjcmdaaS1
namespace Go.Proofs.Ytmaegladkjcmdaa.Vg
set_option maxRecDepth 100000
set_option maxHeartbeats 4000000
set_option linter.unusedVariables false
set_option linter.unusedSimpArgs false
open Go Go.Proofs.Ytmaegladkjcmdaa.Ev Go.Proofs.Ytmaegladkjcmdaa.Vv
open List (flatMap length_cons length_nil length_map length_append map_cons map_nil length_replicate)
structure Qe where
 Mirror : ByteArray
 Batch : ByteArray
 deriving Inhabited
def Qa (x : Qe) : List VV := [vs x.Mirror, vs x.Batch]
theorem Y2 (x : Qe) : (Qa x).length = 2 := rfl
theorem Qe5 (xs : List Qe) : (xs.flatMap Qa).all VV.still = true := Qjd (fun _ => rfl) xs
theorem Qix (xs : List Qe) : (xs.flatMap Qa).all VV.isC = true := Qjd (fun _ => rfl) xs
theorem Qff (xs : List Qe) : (xs.flatMap Qa).all new0 = true := Qjd (fun _ => rfl) xs
theorem Ye (xs : List Qe) : (xs.flatMap Qa).map unfr = xs.flatMap Qa := Qec (fun _ => rfl) xs
theorem ag46 : Qa1 Try.prog 46 = some true := by kernel_rfl
theorem sz46 : szOf Try.prog 46 = some 2 := by kernel_rfl
theorem Qkr (z0 : (Bool × Int)) (z1 : (Bool × Int)) (z2 : (Bool × Int)) (z3 : (Bool × Int)) : [VV.tr ([VV.fn 53 [VV.tp [vb (((z0, z1, z2, z3).1).1)] 0, VV.tp [vi (((z0, z1, z2, z3).1).2)] 0], VV.fn 53 [VV.tp [vb (((z0, z1, z2, z3).2.1).1)] 0, VV.tp [vi (((z0, z1, z2, z3).2.1).2)] 0], VV.fn 53 [VV.tp [vb (((z0, z1, z2, z3).2.2.1).1)] 0, VV.tp [vi (((z0, z1, z2, z3).2.2.1).2)] 0], VV.fn 53 [VV.tp [vb (((z0, z1, z2, z3).2.2.2).1)] 0, VV.tp [vi (((z0, z1, z2, z3).2.2.2).2)] 0]]) 4] = [VV.tr (List.drop 0 (List.map unfr [VV.fn 53 [VV.tp [vb z0.1] 0, VV.tp [vi z0.2] 0], VV.fn 53 [VV.tp [vb z1.1] 0, VV.tp [vi z1.2] 0], VV.fn 53 [VV.tp [vb z2.1] 0, VV.tp [vi z2.2] 0], VV.fn 53 [VV.tp [vb z3.1] 0, VV.tp [vi z3.2] 0]])) 4] := by first | rfl | (simp only [Qa7, Zi, Yd, map_cons, map_nil, un_i, un_b, Qae]; done) | (simp only [Qa7, Zi, Yd, map_cons, map_nil, un_i, un_b, Qae]; rfl) | (simp only [Qa7, Zi, Yd, map_cons, map_nil, un_i, un_b, Qae, length_cons, length_nil, length_append]; done)
def Qrx (z0 : Bool) (z1 : (Bool × Int)) (z2 : (Bool × Int)) (z3 : (Bool × Int)) (z4 : (Bool × Int)) (z5 : Int) : List Ans := (.n :: .n :: .call (vb z0) :: .call (VV.fn 53 [VV.tp [vb z1.1] 0, VV.tp [vi z1.2] 0]) :: nN 3 (.b false :: .n :: .call (VV.fn 53 [VV.tp [vb z2.1] 0, VV.tp [vi z2.2] 0]) :: .n :: .call (VV.fn 53 [VV.tp [vb z3.1] 0, VV.tp [vi z3.2] 0]) :: .n :: .n :: .call (VV.fn 53 [VV.tp [vb z4.1] 0, VV.tp [vi z4.2] 0]) :: .n :: .call (vi z5) :: .n :: []))
def Qry (z0 : Bool) (z1 : (Bool × Int)) (z2 : List (ByteArray × Bool)) (z3 : (List Qe)) (z4 : Int) (z5 : (Bool × Int)) (z6 : (Bool × Int)) (z7 : (Bool × Int)) (z8 : Int) : List Ans := (.n :: .n :: .call (vb z0) :: .call (VV.fn 53 [VV.tp [vb z1.1] 0, VV.tp [vi z1.2] 0]) :: nN 3 (.v (vb (mget z2 ((z3.getD z4.toNat default).Mirror))) :: .n :: .call (VV.fn 53 [VV.tp [vb z5.1] 0, VV.tp [vi z5.2] 0]) :: .n :: .call (VV.fn 53 [VV.tp [vb z6.1] 0, VV.tp [vi z6.2] 0]) :: .n :: .n :: .call (VV.fn 53 [VV.tp [vb z7.1] 0, VV.tp [vi z7.2] 0]) :: .n :: .call (vi z8) :: .n :: []))
noncomputable def Qxr (z0 : List (ByteArray × Int)) (z1 : (List Qe)) (z2 : Int) (z3 : Bool) (z4 : (Bool × Int)) (z5 : List (ByteArray × Bool)) (z6 : (Bool × Int)) (z7 : (Bool × Int)) (z8 : (Bool × Int)) (z9 : Int) : List Ans := (nN 3 (.inl (inlF Try.f49 [.reg (.n :: .n :: []), .reg (nN 3 (.v (vi (mget z0 ((z1.getD z2.toNat default).Batch))) :: nN 5 [])), .reg (Qry z3 z4 z5 z1 z2 z6 z7 z8 z9), .reg (.n :: .n :: []), .br true, .reg (nN 4 []), .reg (nN 6 []), .reg (.n :: .n :: [])]) :: .n :: []))
noncomputable def Qxs (z0 : List (ByteArray × Int)) (z1 : (List Qe)) (z2 : Int) (z3 : Bool) (z4 : (Bool × Int)) (z5 : List (ByteArray × Bool)) (z6 : (Bool × Int)) (z7 : (Bool × Int)) (z8 : (Bool × Int)) (z9 : Int) : List Ans := (nN 3 (.inl (inlF Try.f49 [.reg (.n :: .n :: []), .reg (nN 3 (.v (vi (mget z0 ((z1.getD z2.toNat default).Batch))) :: nN 5 [])), .reg (Qry z3 z4 z5 z1 z2 z6 z7 z8 z9), .reg (.n :: .n :: []), .br false, .reg (.n :: .n :: [])]) :: .n :: []))
noncomputable def Qxt (z0 : List (ByteArray × Int)) (z1 : (List Qe)) (z2 : Int) (z3 : Bool) (z4 : (Bool × Int)) (z5 : (Bool × Int)) (z6 : (Bool × Int)) (z7 : (Bool × Int)) (z8 : Int) : List Ans := (nN 3 (.inl (inlF Try.f49 [.reg (.n :: .n :: []), .reg (nN 3 (.v (vi (mget z0 ((z1.getD z2.toNat default).Batch))) :: nN 5 [])), .reg (Qrx z3 z4 z5 z6 z7 z8), .reg (.n :: .n :: []), .br true, .reg (nN 4 []), .reg (nN 6 []), .reg (.n :: .n :: [])]) :: .n :: []))
noncomputable def Qxu (z0 : List (ByteArray × Int)) (z1 : (List Qe)) (z2 : Int) (z3 : Bool) (z4 : (Bool × Int)) (z5 : (Bool × Int)) (z6 : (Bool × Int)) (z7 : (Bool × Int)) (z8 : Int) : List Ans := (nN 3 (.inl (inlF Try.f49 [.reg (.n :: .n :: []), .reg (nN 3 (.v (vi (mget z0 ((z1.getD z2.toNat default).Batch))) :: nN 5 [])), .reg (Qrx z3 z4 z5 z6 z7 z8), .reg (.n :: .n :: []), .br false, .reg (.n :: .n :: [])]) :: .n :: []))
noncomputable def Qxv (z0 : Bool) (z1 : (Bool × Int)) (z2 : List (ByteArray × Bool)) (z3 : (List Qe)) (z4 : Int) (z5 : (Bool × Int)) (z6 : (Bool × Int)) (z7 : (Bool × Int)) (z8 : Int) : List Ans := (nN 3 (.inl (inlF Try.f49 [.reg (.n :: .n :: []), .reg (nN 3 (.b false :: nN 5 [])), .reg (Qry z0 z1 z2 z3 z4 z5 z6 z7 z8), .reg (.n :: .n :: []), .br true, .reg (nN 4 []), .reg (nN 6 []), .reg (.n :: .n :: [])]) :: .n :: []))
noncomputable def Qxw (z0 : Bool) (z1 : (Bool × Int)) (z2 : List (ByteArray × Bool)) (z3 : (List Qe)) (z4 : Int) (z5 : (Bool × Int)) (z6 : (Bool × Int)) (z7 : (Bool × Int)) (z8 : Int) : List Ans := (nN 3 (.inl (inlF Try.f49 [.reg (.n :: .n :: []), .reg (nN 3 (.b false :: nN 5 [])), .reg (Qry z0 z1 z2 z3 z4 z5 z6 z7 z8), .reg (.n :: .n :: []), .br false, .reg (.n :: .n :: [])]) :: .n :: []))
noncomputable def Qxx (z0 : Bool) (z1 : (Bool × Int)) (z2 : (Bool × Int)) (z3 : (Bool × Int)) (z4 : (Bool × Int)) (z5 : Int) : List Ans := (nN 3 (.inl (inlF Try.f49 [.reg (.n :: .n :: []), .reg (nN 3 (.b false :: nN 5 [])), .reg (Qrx z0 z1 z2 z3 z4 z5), .reg (.n :: .n :: []), .br true, .reg (nN 4 []), .reg (nN 6 []), .reg (.n :: .n :: [])]) :: .n :: []))
noncomputable def Qu4 (z0 : Bool) (z1 : (Bool × Int)) (z2 : (Bool × Int)) (z3 : (Bool × Int)) (z4 : (Bool × Int)) (z5 : Int) : List Ans := (nN 3 (.inl (inlF Try.f49 [.reg (.n :: .n :: []), .reg (nN 3 (.b false :: nN 5 [])), .reg (Qrx z0 z1 z2 z3 z4 z5), .reg (.n :: .n :: []), .br false, .reg (.n :: .n :: [])]) :: .n :: []))
noncomputable def Qu5 (z0 : Int) : List Ans := (.n :: .n :: .inl (inlF Try.f24 [.reg (.n :: .n :: []), .reg (.n :: .call (vi z0) :: .n :: []), .reg (.n :: .n :: []), .br false, .reg (nN 3 []), .br true, .reg (.n :: .n :: [])]) :: nN 5 [])
def Qcp (a0 : (List Qj)) (a1 : (List Qe)) (y0 : List (ByteArray × Int)) (x26 : Int) : VS := ⟨mkA [(1, VV.tr (flatMap Qa a1) a1.length), (7, VV.mp 0), (8, VV.mp 1), (24, VV.tr (flatMap Qc a0) a0.length), (25, vi (a0.length : Int)), (26, vi x26)], [some ⟨true, bigX + 1, flatMap (mpE vi) y0⟩, some ⟨true, bigX + 1, []⟩], (.node none (mkA [(0, VV.tr (flatMap Qc a0) a0.length), (1, VV.tr (flatMap Qa a1) a1.length), (4, VV.c (.slice none 0 0)), (5, vi 0), (12, VV.tr (flatMap Qc a0) a0.length), (13, VV.tr (flatMap Qa a1) a1.length)]) .nil)⟩
def Y0 (a0 : (List Qj)) (a1 : (List Qe)) (r : (List (ByteArray × Int))) : VS := ⟨mkA [(1, VV.tr (flatMap Qa a1) a1.length), (7, VV.mp 0), (8, VV.mp 1)], [some ⟨true, bigX + 1, flatMap (mpE vi) r⟩, some ⟨true, bigX + 1, []⟩], (.node none (mkA [(0, VV.tr (flatMap Qc a0) a0.length), (1, VV.tr (flatMap Qa a1) a1.length), (4, VV.c (.slice none 0 0)), (5, vi 0), (12, VV.tr (flatMap Qc a0) a0.length), (13, VV.tr (flatMap Qa a1) a1.length)]) .nil)⟩
def Jp (k : Nat) (a0 : (List Qj)) (a1 : (List Qe)) : Nat -> (List (ByteArray × Int)) -> Int -> Option ((List (ByteArray × Int)))
 | 0, _, _ => none
 | fuel + 1, y0, x26 => if x26 < (a0.length : Int) then (if 0 <= x26 /\ x26 < (a0.length : Int) then (Jp k a0 a1 fuel (mset y0 ((a0.getD x26.toNat default).Name) ((a0.getD x26.toNat default).Count)) (w64 (x26 + 1))) else none) else (some y0)
theorem Qgk (k : Nat) (a0 : (List Qj)) (a1 : (List Qe)) : ∀ (fuel : Nat) (y0 : List (ByteArray × Int)) (x26 : Int) (r : (List (ByteArray × Int))), Jp k a0 a1 fuel y0 x26 = some r -> (Yw none Try.prog (szF Try.f24) (Ya Try.f24 0) (Qcp a0 a1 y0 x26) (.exit 0) (Y0 a0 a1 r)) := by
 intro fuel
 induction fuel with
 | zero => intro y0 x26 r h; rw [Jp.eq_1] at h; cases h
 | succ fuel ih =>
  intro y0 x26 r h
  rw [Jp.eq_2] at h
  rcases ifs h with ⟨h2311, h⟩ | ⟨h2311, h⟩
  ·obtain ⟨h2312, h⟩ := ifn h
   have e2313 := (show Xt Try.prog 51 (x26.toNat * 4) (flatMap Qc a0) = some (VV.ag (Qc (a0.getD x26.toNat default))) from Yo ag51 Qc 4 sz51 Jr a0 default h2312 (by omega))
   have e2314 := (show Wh (kdV (.string ((a0.getD x26.toNat default).Name))) (flatMap (mpE vi) y0) = true from (Xc vi ((a0.getD x26.toNat default).Name) y0))
   have h2 := ih _ _ _ h
   obtain ⟨q, hv, hq⟩ := pkR (rd := none) (P := Try.prog) (fn := Try.f24) (k := 0) (s := (Qcp a0 a1 y0 x26)) (ans := [.reg (.n :: []), .br true, .reg (.n :: .v (VV.ag (Qc (a0.getD x26.toNat default))) :: .n :: .n :: []), .reg (nN 6 []), .reg (.n :: .n :: [])]) (c := ⟨[(1, none), (7, none), (8, none), (24, none), (25, none), (26, none)], [some (flatMap (mpE vi) (mset y0 ((a0.getD x26.toNat default).Name) ((a0.getD x26.toNat default).Count))), none], []⟩) (e := .normal) (s1 := (Qcp a0 a1 (mset y0 ((a0.getD x26.toNat default).Name) ((a0.getD x26.toNat default).Count)) (w64 (x26 + 1)))) (an (an (ti tt) (an (an (dt h2311) tt) (an (an (an h2312 (an e2313 (ti (ti tt)))) (ti (ti (ti (ti (ti (an e2314 tt))))))) (ti (ti tt))))) (ti (an (show upM (.string ((a0.getD x26.toNat default).Name)) (vi ((a0.getD x26.toNat default).Count)) (flatMap (mpE vi) y0) = flatMap (mpE vi) (mset y0 ((a0.getD x26.toNat default).Name) ((a0.getD x26.toNat default).Count)) from (by exact Qbf vi ((a0.getD x26.toNat default).Name) ((a0.getD x26.toNat default).Count) y0)) tt))) (by kernel_rfl)
   exact Qz pm pn hv hq h2
  ·injection h with h; subst h
   exact Q5 (c := ⟨[(1, none), (7, none), (8, none)], [none, none], []⟩) (s1 := (Y0 a0 a1 y0)) pm pn (ans := [.reg (.n :: []), .br false]) (by kernel_rfl) (by intro e; cases e) (an (an (ti tt) (an (df h2311) tt)) (ti tt))
def Xw (a0 : (List Qj)) (a1 : (List Qe)) (y0 : List (ByteArray × Int)) (y1 : List (ByteArray × Bool)) (x38 : Int) : VS := ⟨mkA [(7, VV.mp 0), (8, VV.mp 1), (36, VV.tr (flatMap Qa a1) a1.length), (37, vi (a1.length : Int)), (38, vi x38)], [some ⟨true, bigX + 1, flatMap (mpE vi) y0⟩, some ⟨true, bigX + 1, flatMap (mpE vb) y1⟩], (.node none (mkA [(0, VV.tr (flatMap Qc a0) a0.length), (1, VV.tr (flatMap Qa a1) a1.length), (4, VV.c (.slice none 0 0)), (5, vi 0), (12, VV.tr (flatMap Qc a0) a0.length), (13, VV.tr (flatMap Qa a1) a1.length)]) .nil)⟩
def Jy (a0 : (List Qj)) (a1 : (List Qe)) (r : Int) : VS := ⟨mkA [(4, VV.c (.map none)), (5, vi r)], [], (.node none (mkA [(0, VV.tr (flatMap Qc a0) a0.length), (1, VV.tr (flatMap Qa a1) a1.length), (4, VV.c (.slice none 0 0)), (5, vi 0), (12, VV.tr (flatMap Qc a0) a0.length), (13, VV.tr (flatMap Qa a1) a1.length)]) .nil)⟩
def Qcg (a0 : (List Qj)) (a1 : (List Qe)) (r : (List (ByteArray × Int))) : VS := ⟨mkA [(7, VV.mp 0)], [some ⟨true, bigX + 1, flatMap (mpE vi) r⟩], (.node none (mkA [(0, VV.tr (flatMap Qc a0) a0.length), (1, VV.tr (flatMap Qa a1) a1.length), (4, VV.c (.slice none 0 0)), (5, vi 0), (12, VV.tr (flatMap Qc a0) a0.length), (13, VV.tr (flatMap Qa a1) a1.length)]) .nil)⟩
def Xb (k : Nat) (a0 : (List Qj)) (a1 : (List Qe)) : Nat -> (List (ByteArray × Int)) -> (List (ByteArray × Bool)) -> Int -> Option (Sum Int (List (ByteArray × Int)))
 | 0, _, _, _ => none
 | fuel + 1, y0, y1, x38 => if x38 < (a1.length : Int) then (if 0 <= x38 /\ x38 < (a1.length : Int) then (if mhas y0 ((a1.getD x38.toNat default).Batch) = true then ((Yn k ((a1.getD x38.toNat default).Mirror)).bind fun r2504 => ((Qy k r2504 4).bind fun r2507 => (if mhas y1 ((a1.getD x38.toNat default).Mirror) = true then ((Qy k (!(mget y1 ((a1.getD x38.toNat default).Mirror))) 5).bind fun r2511 => ((Qy k true 6).bind fun r2514 => ((Qy k (decide (0 < (mget y0 ((a1.getD x38.toNat default).Batch)))) 20).bind fun r2516 => ((Qd k (r2507, r2511, r2514, r2516)).bind fun r2519 => (if r2519 = 0 then (Xb k a0 a1 fuel (mset y0 ((a1.getD x38.toNat default).Batch) (w64 ((mget y0 ((a1.getD x38.toNat default).Batch)) - 1))) (mset y1 ((a1.getD x38.toNat default).Mirror) true) (w64 (x38 + 1))) else (some (.inl r2519))))))) else ((Qy k (!false) 5).bind fun r2529 => ((Qy k true 6).bind fun r2531 => ((Qy k (decide (0 < (mget y0 ((a1.getD x38.toNat default).Batch)))) 20).bind fun r2533 => ((Qd k (r2507, r2529, r2531, r2533)).bind fun r2536 => (if r2536 = 0 then (Xb k a0 a1 fuel (mset y0 ((a1.getD x38.toNat default).Batch) (w64 ((mget y0 ((a1.getD x38.toNat default).Batch)) - 1))) (mset y1 ((a1.getD x38.toNat default).Mirror) true) (w64 (x38 + 1))) else (some (.inl r2536)))))))))) else ((Yn k ((a1.getD x38.toNat default).Mirror)).bind fun r2547 => ((Qy k r2547 4).bind fun r2550 => (if mhas y1 ((a1.getD x38.toNat default).Mirror) = true then ((Qy k (!(mget y1 ((a1.getD x38.toNat default).Mirror))) 5).bind fun r2554 => ((Qy k false 6).bind fun r2557 => ((Qy k (decide ((0 : Int) < 0)) 20).bind fun r2559 => ((Qd k (r2550, r2554, r2557, r2559)).bind fun r2562 => (if r2562 = 0 then (Xb k a0 a1 fuel (mset y0 ((a1.getD x38.toNat default).Batch) (-1)) (mset y1 ((a1.getD x38.toNat default).Mirror) true) (w64 (x38 + 1))) else (some (.inl r2562))))))) else ((Qy k (!false) 5).bind fun r2572 => ((Qy k false 6).bind fun r2574 => ((Qy k (decide ((0 : Int) < 0)) 20).bind fun r2576 => ((Qd k (r2550, r2572, r2574, r2576)).bind fun r2579 => (if r2579 = 0 then (Xb k a0 a1 fuel (mset y0 ((a1.getD x38.toNat default).Batch) (-1)) (mset y1 ((a1.getD x38.toNat default).Mirror) true) (w64 (x38 + 1))) else (some (.inl r2579))))))))))) else none) else (some (.inr y0))
theorem Qgl (k : Nat) (a0 : (List Qj)) (a1 : (List Qe)) : ∀ (fuel : Nat) (y0 : List (ByteArray × Int)) (y1 : List (ByteArray × Bool)) (x38 : Int) (r : Sum Int (List (ByteArray × Int))), Xb k a0 a1 fuel y0 y1 x38 = some r -> (match r with | .inl r => Yw none Try.prog (szF Try.f24) (Ya Try.f24 1) (Xw a0 a1 y0 y1 x38) .ret (Jy a0 a1 r) | .inr r => Yw none Try.prog (szF Try.f24) (Ya Try.f24 1) (Xw a0 a1 y0 y1 x38) (.exit 2) (Qcg a0 a1 r)) := by
 intro fuel
 induction fuel with
 | zero => intro y0 y1 x38 r h; rw [Xb.eq_1] at h; cases h
 | succ fuel ih =>
  intro y0 y1 x38 r h
  rw [Xb.eq_2] at h
  rcases ifs h with ⟨h2498, h⟩ | ⟨h2498, h⟩
  ·obtain ⟨h2499, h⟩ := ifn h
   have e2500 := (show Xt Try.prog 46 (x38.toNat * 2) (flatMap Qa a1) = some (VV.ag (Qa (a1.getD x38.toNat default))) from Yo ag46 Qa 2 sz46 Y2 a1 default h2499 (by omega))
   rcases ifs h with ⟨h2501, h⟩ | ⟨h2501, h⟩
   ·have e2502 := (show Wh (kdV (.string ((a1.getD x38.toNat default).Batch))) (flatMap (mpE vi) y0) = true /\ lkM (.string ((a1.getD x38.toNat default).Batch)) (flatMap (mpE vi) y0) = some (vi (mget y0 ((a1.getD x38.toNat default).Batch))) from ⟨(Xc vi ((a1.getD x38.toNat default).Batch) y0), (Qer vi ((a1.getD x38.toNat default).Batch) y0 h2501)⟩)
    have e2503 := (ti (ti (ti (an e2502 (ti (ti (ti (ti (ti tt)))))))))
    obtain ⟨r2504, h2505, h⟩ := bs h
    have e2506 := (W9 k ((a1.getD x38.toNat default).Mirror) _ h2505)
    obtain ⟨r2507, h2508, h⟩ := bs h
    rcases ifs h with ⟨h2509, h⟩ | ⟨h2509, h⟩
    ·have e2510 := (show Wh (kdV (.string ((a1.getD x38.toNat default).Mirror))) (flatMap (mpE vb) y1) = true /\ lkM (.string ((a1.getD x38.toNat default).Mirror)) (flatMap (mpE vb) y1) = some (vb (mget y1 ((a1.getD x38.toNat default).Mirror))) from ⟨(Xc vb ((a1.getD x38.toNat default).Mirror) y1), (Qer vb ((a1.getD x38.toNat default).Mirror) y1 h2509)⟩)
     obtain ⟨r2511, h2512, h⟩ := bs h
     have e2513 := (Qp k (!(mget y1 ((a1.getD x38.toNat default).Mirror))) 5 _ h2512)
     obtain ⟨r2514, h2515, h⟩ := bs h
     obtain ⟨r2516, h2517, h⟩ := bs h
     have e2518 := (Qp k (decide (0 < (mget y0 ((a1.getD x38.toNat default).Batch)))) 20 _ h2517)
     obtain ⟨r2519, h2520, h⟩ := bs h
     have e2521 := (VC.args (Qi k (r2507, r2511, r2514, r2516) _ h2520) (Qkr r2507 r2511 r2514 r2516))
     have e2522 := (ti (ti (an e2506 (an (Qp k r2504 4 _ h2508) (ti (ti (ti (an e2510 (ti (an e2513 (ti (an (Qp k true 6 _ h2515) (ti (ti (an e2518 (ti (an e2521 (ti tt))))))))))))))))))
     rcases ifs h with ⟨h2523, h⟩ | ⟨h2523, h⟩
     ·have e2524 := (show Wh (kdV (.string ((a1.getD x38.toNat default).Mirror))) (flatMap (mpE vb) y1) = true from (Xc vb ((a1.getD x38.toNat default).Mirror) y1))
      have e2525 := (show Wh (kdV (.string ((a1.getD x38.toNat default).Batch))) (flatMap (mpE vi) y0) = true from (Xc vi ((a1.getD x38.toNat default).Batch) y0))
      have e2526 := (an (an Try.func49 (an (ti (ti tt)) (an e2503 (an e2522 (an (an (ti (ti tt)) (an (dt h2523) (an (ti (ti (ti (an e2524 tt)))) (ti (ti (ti (ti (ti (an e2525 tt))))))))) (an (ti (ti tt)) tt)))))) (ti tt))
      have h2 := ih _ _ _ _ h
      obtain ⟨q, hv, hq⟩ := pkR (rd := none) (P := Try.prog) (fn := Try.f24) (k := 1) (s := (Xw a0 a1 y0 y1 x38)) (ans := [.reg (.n :: []), .br true, .reg (.n :: .v (VV.ag (Qa (a1.getD x38.toNat default))) :: .n :: .n :: []), .reg (Qxr y0 a1 x38 r2504 r2507 y1 r2511 r2514 r2516 r2519), .reg (.n :: .n :: []), .br false, .reg (.n :: .n :: [])]) (c := ⟨[(7, none), (8, none), (36, none), (37, none), (38, none)], [some (flatMap (mpE vi) (mset y0 ((a1.getD x38.toNat default).Batch) (w64 ((mget y0 ((a1.getD x38.toNat default).Batch)) - 1)))), some (flatMap (mpE vb) (mset y1 ((a1.getD x38.toNat default).Mirror) true))], []⟩) (e := .normal) (s1 := (Xw a0 a1 (mset y0 ((a1.getD x38.toNat default).Batch) (w64 ((mget y0 ((a1.getD x38.toNat default).Batch)) - 1))) (mset y1 ((a1.getD x38.toNat default).Mirror) true) (w64 (x38 + 1)))) (an (an (ti tt) (an (an (dt h2498) tt) (an (an (an h2499 (an e2500 (ti (ti tt)))) (an (ti (ti (ti (an e2526 (ti tt))))) (an (ti (ti tt)) (an (Qm (dt h2523)) tt)))) (ti (ti tt))))) (ti (an (show upM (.string ((a1.getD x38.toNat default).Batch)) (vi (w64 ((mget y0 ((a1.getD x38.toNat default).Batch)) - 1))) (flatMap (mpE vi) y0) = flatMap (mpE vi) (mset y0 ((a1.getD x38.toNat default).Batch) (w64 ((mget y0 ((a1.getD x38.toNat default).Batch)) - 1))) from (by exact Qbf vi ((a1.getD x38.toNat default).Batch) (w64 ((mget y0 ((a1.getD x38.toNat default).Batch)) - 1)) y0)) (an (show upM (.string ((a1.getD x38.toNat default).Mirror)) (vb true) (flatMap (mpE vb) y1) = flatMap (mpE vb) (mset y1 ((a1.getD x38.toNat default).Mirror) true) from (by exact Qbf vb ((a1.getD x38.toNat default).Mirror) true y1)) tt)))) (by kernel_rfl)
      cases r with
      | inl r => exact Qz pm pn hv hq h2
      | inr r =>
       exact Qz pm pn hv hq h2
     ·have e2527 := (an (an Try.func49 (an (ti (ti tt)) (an e2503 (an e2522 (an (an (ti (ti tt)) (an (df h2523) tt)) (an (ti (ti tt)) tt)))))) (ti tt))
      injection h with h; subst h
      exact Q5 (c := ⟨[(4, none), (5, none)], [], []⟩) (s1 := (Jy a0 a1 r2519)) pm pn (ans := [.reg (.n :: []), .br true, .reg (.n :: .v (VV.ag (Qa (a1.getD x38.toNat default))) :: .n :: .n :: []), .reg (Qxs y0 a1 x38 r2504 r2507 y1 r2511 r2514 r2516 r2519), .reg (.n :: .n :: []), .br true, .reg (nN 3 [])]) (by kernel_rfl) (by intro e; cases e) (an (an (ti tt) (an (an (dt h2498) tt) (an (an h2499 (an e2500 (ti (ti tt)))) (an (ti (ti (ti (an e2527 (ti tt))))) (an (ti (ti tt)) (an (Za (df h2523)) (an (ti (ti (ti tt))) tt))))))) (ti tt))
    ·have e2528 := (show Wh (kdV (.string ((a1.getD x38.toNat default).Mirror))) (flatMap (mpE vb) y1) = true /\ lkM (.string ((a1.getD x38.toNat default).Mirror)) (flatMap (mpE vb) y1) = none from ⟨(Xc vb ((a1.getD x38.toNat default).Mirror) y1), (Qgw vb ((a1.getD x38.toNat default).Mirror) y1 (Zk h2509))⟩)
     obtain ⟨r2529, h2530, h⟩ := bs h
     obtain ⟨r2531, h2532, h⟩ := bs h
     obtain ⟨r2533, h2534, h⟩ := bs h
     have e2535 := (Qp k (decide (0 < (mget y0 ((a1.getD x38.toNat default).Batch)))) 20 _ h2534)
     obtain ⟨r2536, h2537, h⟩ := bs h
     have e2538 := (VC.args (Qi k (r2507, r2529, r2531, r2533) _ h2537) (Qkr r2507 r2529 r2531 r2533))
     have e2539 := (ti (ti (an e2506 (an (Qp k r2504 4 _ h2508) (ti (ti (ti (an e2528 (ti (an (Qp k (!false) 5 _ h2530) (ti (an (Qp k true 6 _ h2532) (ti (ti (an e2535 (ti (an e2538 (ti tt))))))))))))))))))
     rcases ifs h with ⟨h2540, h⟩ | ⟨h2540, h⟩
     ·have e2541 := (show Wh (kdV (.string ((a1.getD x38.toNat default).Mirror))) (flatMap (mpE vb) y1) = true from (Xc vb ((a1.getD x38.toNat default).Mirror) y1))
      have e2542 := (show Wh (kdV (.string ((a1.getD x38.toNat default).Batch))) (flatMap (mpE vi) y0) = true from (Xc vi ((a1.getD x38.toNat default).Batch) y0))
      have e2543 := (an (an Try.func49 (an (ti (ti tt)) (an e2503 (an e2539 (an (an (ti (ti tt)) (an (dt h2540) (an (ti (ti (ti (an e2541 tt)))) (ti (ti (ti (ti (ti (an e2542 tt))))))))) (an (ti (ti tt)) tt)))))) (ti tt))
      have h2 := ih _ _ _ _ h
      obtain ⟨q, hv, hq⟩ := pkR (rd := none) (P := Try.prog) (fn := Try.f24) (k := 1) (s := (Xw a0 a1 y0 y1 x38)) (ans := [.reg (.n :: []), .br true, .reg (.n :: .v (VV.ag (Qa (a1.getD x38.toNat default))) :: .n :: .n :: []), .reg (Qxt y0 a1 x38 r2504 r2507 r2529 r2531 r2533 r2536), .reg (.n :: .n :: []), .br false, .reg (.n :: .n :: [])]) (c := ⟨[(7, none), (8, none), (36, none), (37, none), (38, none)], [some (flatMap (mpE vi) (mset y0 ((a1.getD x38.toNat default).Batch) (w64 ((mget y0 ((a1.getD x38.toNat default).Batch)) - 1)))), some (flatMap (mpE vb) (mset y1 ((a1.getD x38.toNat default).Mirror) true))], []⟩) (e := .normal) (s1 := (Xw a0 a1 (mset y0 ((a1.getD x38.toNat default).Batch) (w64 ((mget y0 ((a1.getD x38.toNat default).Batch)) - 1))) (mset y1 ((a1.getD x38.toNat default).Mirror) true) (w64 (x38 + 1)))) (an (an (ti tt) (an (an (dt h2498) tt) (an (an (an h2499 (an e2500 (ti (ti tt)))) (an (ti (ti (ti (an e2543 (ti tt))))) (an (ti (ti tt)) (an (Qm (dt h2540)) tt)))) (ti (ti tt))))) (ti (an (show upM (.string ((a1.getD x38.toNat default).Batch)) (vi (w64 ((mget y0 ((a1.getD x38.toNat default).Batch)) - 1))) (flatMap (mpE vi) y0) = flatMap (mpE vi) (mset y0 ((a1.getD x38.toNat default).Batch) (w64 ((mget y0 ((a1.getD x38.toNat default).Batch)) - 1))) from (by exact Qbf vi ((a1.getD x38.toNat default).Batch) (w64 ((mget y0 ((a1.getD x38.toNat default).Batch)) - 1)) y0)) (an (show upM (.string ((a1.getD x38.toNat default).Mirror)) (vb true) (flatMap (mpE vb) y1) = flatMap (mpE vb) (mset y1 ((a1.getD x38.toNat default).Mirror) true) from (by exact Qbf vb ((a1.getD x38.toNat default).Mirror) true y1)) tt)))) (by kernel_rfl)
      cases r with
      | inl r => exact Qz pm pn hv hq h2
      | inr r =>
       exact Qz pm pn hv hq h2
     ·have e2544 := (an (an Try.func49 (an (ti (ti tt)) (an e2503 (an e2539 (an (an (ti (ti tt)) (an (df h2540) tt)) (an (ti (ti tt)) tt)))))) (ti tt))
      injection h with h; subst h
      exact Q5 (c := ⟨[(4, none), (5, none)], [], []⟩) (s1 := (Jy a0 a1 r2536)) pm pn (ans := [.reg (.n :: []), .br true, .reg (.n :: .v (VV.ag (Qa (a1.getD x38.toNat default))) :: .n :: .n :: []), .reg (Qxu y0 a1 x38 r2504 r2507 r2529 r2531 r2533 r2536), .reg (.n :: .n :: []), .br true, .reg (nN 3 [])]) (by kernel_rfl) (by intro e; cases e) (an (an (ti tt) (an (an (dt h2498) tt) (an (an h2499 (an e2500 (ti (ti tt)))) (an (ti (ti (ti (an e2544 (ti tt))))) (an (ti (ti tt)) (an (Za (df h2540)) (an (ti (ti (ti tt))) tt))))))) (ti tt))
   ·have e2545 := (show Wh (kdV (.string ((a1.getD x38.toNat default).Batch))) (flatMap (mpE vi) y0) = true /\ lkM (.string ((a1.getD x38.toNat default).Batch)) (flatMap (mpE vi) y0) = none from ⟨(Xc vi ((a1.getD x38.toNat default).Batch) y0), (Qgw vi ((a1.getD x38.toNat default).Batch) y0 (Zk h2501))⟩)
    have e2546 := (ti (ti (ti (an e2545 (ti (ti (ti (ti (ti tt)))))))))
    obtain ⟨r2547, h2548, h⟩ := bs h
    have e2549 := (W9 k ((a1.getD x38.toNat default).Mirror) _ h2548)
    obtain ⟨r2550, h2551, h⟩ := bs h
    rcases ifs h with ⟨h2552, h⟩ | ⟨h2552, h⟩
    ·have e2553 := (show Wh (kdV (.string ((a1.getD x38.toNat default).Mirror))) (flatMap (mpE vb) y1) = true /\ lkM (.string ((a1.getD x38.toNat default).Mirror)) (flatMap (mpE vb) y1) = some (vb (mget y1 ((a1.getD x38.toNat default).Mirror))) from ⟨(Xc vb ((a1.getD x38.toNat default).Mirror) y1), (Qer vb ((a1.getD x38.toNat default).Mirror) y1 h2552)⟩)
     obtain ⟨r2554, h2555, h⟩ := bs h
     have e2556 := (Qp k (!(mget y1 ((a1.getD x38.toNat default).Mirror))) 5 _ h2555)
     obtain ⟨r2557, h2558, h⟩ := bs h
     obtain ⟨r2559, h2560, h⟩ := bs h
     have e2561 := (Qp k (decide ((0 : Int) < 0)) 20 _ h2560)
     obtain ⟨r2562, h2563, h⟩ := bs h
     have e2564 := (VC.args (Qi k (r2550, r2554, r2557, r2559) _ h2563) (Qkr r2550 r2554 r2557 r2559))
     have e2565 := (ti (ti (an e2549 (an (Qp k r2547 4 _ h2551) (ti (ti (ti (an e2553 (ti (an e2556 (ti (an (Qp k false 6 _ h2558) (ti (ti (an e2561 (ti (an e2564 (ti tt))))))))))))))))))
     rcases ifs h with ⟨h2566, h⟩ | ⟨h2566, h⟩
     ·have e2567 := (show Wh (kdV (.string ((a1.getD x38.toNat default).Mirror))) (flatMap (mpE vb) y1) = true from (Xc vb ((a1.getD x38.toNat default).Mirror) y1))
      have e2568 := (show Wh (kdV (.string ((a1.getD x38.toNat default).Batch))) (flatMap (mpE vi) y0) = true from (Xc vi ((a1.getD x38.toNat default).Batch) y0))
      have e2569 := (an (an Try.func49 (an (ti (ti tt)) (an e2546 (an e2565 (an (an (ti (ti tt)) (an (dt h2566) (an (ti (ti (ti (an e2567 tt)))) (ti (ti (ti (ti (ti (an e2568 tt))))))))) (an (ti (ti tt)) tt)))))) (ti tt))
      have h2 := ih _ _ _ _ h
      obtain ⟨q, hv, hq⟩ := pkR (rd := none) (P := Try.prog) (fn := Try.f24) (k := 1) (s := (Xw a0 a1 y0 y1 x38)) (ans := [.reg (.n :: []), .br true, .reg (.n :: .v (VV.ag (Qa (a1.getD x38.toNat default))) :: .n :: .n :: []), .reg (Qxv r2547 r2550 y1 a1 x38 r2554 r2557 r2559 r2562), .reg (.n :: .n :: []), .br false, .reg (.n :: .n :: [])]) (c := ⟨[(7, none), (8, none), (36, none), (37, none), (38, none)], [some (flatMap (mpE vi) (mset y0 ((a1.getD x38.toNat default).Batch) (-1))), some (flatMap (mpE vb) (mset y1 ((a1.getD x38.toNat default).Mirror) true))], []⟩) (e := .normal) (s1 := (Xw a0 a1 (mset y0 ((a1.getD x38.toNat default).Batch) (-1)) (mset y1 ((a1.getD x38.toNat default).Mirror) true) (w64 (x38 + 1)))) (an (an (ti tt) (an (an (dt h2498) tt) (an (an (an h2499 (an e2500 (ti (ti tt)))) (an (ti (ti (ti (an e2569 (ti tt))))) (an (ti (ti tt)) (an (Qm (dt h2566)) tt)))) (ti (ti tt))))) (ti (an (show upM (.string ((a1.getD x38.toNat default).Batch)) (vi (-1)) (flatMap (mpE vi) y0) = flatMap (mpE vi) (mset y0 ((a1.getD x38.toNat default).Batch) (-1)) from (by exact Qbf vi ((a1.getD x38.toNat default).Batch) (-1) y0)) (an (show upM (.string ((a1.getD x38.toNat default).Mirror)) (vb true) (flatMap (mpE vb) y1) = flatMap (mpE vb) (mset y1 ((a1.getD x38.toNat default).Mirror) true) from (by exact Qbf vb ((a1.getD x38.toNat default).Mirror) true y1)) tt)))) (by kernel_rfl)
      cases r with
      | inl r => exact Qz pm pn hv hq h2
      | inr r =>
       exact Qz pm pn hv hq h2
     ·have e2570 := (an (an Try.func49 (an (ti (ti tt)) (an e2546 (an e2565 (an (an (ti (ti tt)) (an (df h2566) tt)) (an (ti (ti tt)) tt)))))) (ti tt))
      injection h with h; subst h
      exact Q5 (c := ⟨[(4, none), (5, none)], [], []⟩) (s1 := (Jy a0 a1 r2562)) pm pn (ans := [.reg (.n :: []), .br true, .reg (.n :: .v (VV.ag (Qa (a1.getD x38.toNat default))) :: .n :: .n :: []), .reg (Qxw r2547 r2550 y1 a1 x38 r2554 r2557 r2559 r2562), .reg (.n :: .n :: []), .br true, .reg (nN 3 [])]) (by kernel_rfl) (by intro e; cases e) (an (an (ti tt) (an (an (dt h2498) tt) (an (an h2499 (an e2500 (ti (ti tt)))) (an (ti (ti (ti (an e2570 (ti tt))))) (an (ti (ti tt)) (an (Za (df h2566)) (an (ti (ti (ti tt))) tt))))))) (ti tt))
    ·have e2571 := (show Wh (kdV (.string ((a1.getD x38.toNat default).Mirror))) (flatMap (mpE vb) y1) = true /\ lkM (.string ((a1.getD x38.toNat default).Mirror)) (flatMap (mpE vb) y1) = none from ⟨(Xc vb ((a1.getD x38.toNat default).Mirror) y1), (Qgw vb ((a1.getD x38.toNat default).Mirror) y1 (Zk h2552))⟩)
     obtain ⟨r2572, h2573, h⟩ := bs h
     obtain ⟨r2574, h2575, h⟩ := bs h
     obtain ⟨r2576, h2577, h⟩ := bs h
     have e2578 := (Qp k (decide ((0 : Int) < 0)) 20 _ h2577)
     obtain ⟨r2579, h2580, h⟩ := bs h
     have e2581 := (VC.args (Qi k (r2550, r2572, r2574, r2576) _ h2580) (Qkr r2550 r2572 r2574 r2576))
     have e2582 := (ti (ti (an e2549 (an (Qp k r2547 4 _ h2551) (ti (ti (ti (an e2571 (ti (an (Qp k (!false) 5 _ h2573) (ti (an (Qp k false 6 _ h2575) (ti (ti (an e2578 (ti (an e2581 (ti tt))))))))))))))))))
     rcases ifs h with ⟨h2583, h⟩ | ⟨h2583, h⟩
     ·have e2584 := (show Wh (kdV (.string ((a1.getD x38.toNat default).Mirror))) (flatMap (mpE vb) y1) = true from (Xc vb ((a1.getD x38.toNat default).Mirror) y1))
      have e2585 := (show Wh (kdV (.string ((a1.getD x38.toNat default).Batch))) (flatMap (mpE vi) y0) = true from (Xc vi ((a1.getD x38.toNat default).Batch) y0))
      have e2586 := (an (an Try.func49 (an (ti (ti tt)) (an e2546 (an e2582 (an (an (ti (ti tt)) (an (dt h2583) (an (ti (ti (ti (an e2584 tt)))) (ti (ti (ti (ti (ti (an e2585 tt))))))))) (an (ti (ti tt)) tt)))))) (ti tt))
      have h2 := ih _ _ _ _ h
      obtain ⟨q, hv, hq⟩ := pkR (rd := none) (P := Try.prog) (fn := Try.f24) (k := 1) (s := (Xw a0 a1 y0 y1 x38)) (ans := [.reg (.n :: []), .br true, .reg (.n :: .v (VV.ag (Qa (a1.getD x38.toNat default))) :: .n :: .n :: []), .reg (Qxx r2547 r2550 r2572 r2574 r2576 r2579), .reg (.n :: .n :: []), .br false, .reg (.n :: .n :: [])]) (c := ⟨[(7, none), (8, none), (36, none), (37, none), (38, none)], [some (flatMap (mpE vi) (mset y0 ((a1.getD x38.toNat default).Batch) (-1))), some (flatMap (mpE vb) (mset y1 ((a1.getD x38.toNat default).Mirror) true))], []⟩) (e := .normal) (s1 := (Xw a0 a1 (mset y0 ((a1.getD x38.toNat default).Batch) (-1)) (mset y1 ((a1.getD x38.toNat default).Mirror) true) (w64 (x38 + 1)))) (an (an (ti tt) (an (an (dt h2498) tt) (an (an (an h2499 (an e2500 (ti (ti tt)))) (an (ti (ti (ti (an e2586 (ti tt))))) (an (ti (ti tt)) (an (Qm (dt h2583)) tt)))) (ti (ti tt))))) (ti (an (show upM (.string ((a1.getD x38.toNat default).Batch)) (vi (-1)) (flatMap (mpE vi) y0) = flatMap (mpE vi) (mset y0 ((a1.getD x38.toNat default).Batch) (-1)) from (by exact Qbf vi ((a1.getD x38.toNat default).Batch) (-1) y0)) (an (show upM (.string ((a1.getD x38.toNat default).Mirror)) (vb true) (flatMap (mpE vb) y1) = flatMap (mpE vb) (mset y1 ((a1.getD x38.toNat default).Mirror) true) from (by exact Qbf vb ((a1.getD x38.toNat default).Mirror) true y1)) tt)))) (by kernel_rfl)
      cases r with
      | inl r => exact Qz pm pn hv hq h2
      | inr r =>
       exact Qz pm pn hv hq h2
     ·have e2587 := (an (an Try.func49 (an (ti (ti tt)) (an e2546 (an e2582 (an (an (ti (ti tt)) (an (df h2583) tt)) (an (ti (ti tt)) tt)))))) (ti tt))
      injection h with h; subst h
      exact Q5 (c := ⟨[(4, none), (5, none)], [], []⟩) (s1 := (Jy a0 a1 r2579)) pm pn (ans := [.reg (.n :: []), .br true, .reg (.n :: .v (VV.ag (Qa (a1.getD x38.toNat default))) :: .n :: .n :: []), .reg (Qu4 r2547 r2550 r2572 r2574 r2576 r2579), .reg (.n :: .n :: []), .br true, .reg (nN 3 [])]) (by kernel_rfl) (by intro e; cases e) (an (an (ti tt) (an (an (dt h2498) tt) (an (an h2499 (an e2500 (ti (ti tt)))) (an (ti (ti (ti (an e2587 (ti tt))))) (an (ti (ti tt)) (an (Za (df h2583)) (an (ti (ti (ti tt))) tt))))))) (ti tt))
  ·injection h with h; subst h
   exact Q5 (c := ⟨[(7, none)], [none], []⟩) (s1 := (Qcg a0 a1 y0)) pm pn (ans := [.reg (.n :: []), .br false]) (by kernel_rfl) (by intro e; cases e) (an (an (ti tt) (an (df h2498) tt)) (ti tt))
def Qil (a0 : (List Qj))  : VS := ⟨mkA [(6, VV.c (.map none)), (8, VV.rf 0 0 ((a0.length : Int).toNat)), (23, VV.tr (flatMap Qc a0) a0.length), (24, vi (a0.length : Int)), (25, vi 0)], [some ⟨false, 1, List.replicate (a0.length : Int).toNat (VV.c (.int .i64 0))⟩], .nil⟩
def Qdp (a0 : (List Qj)) (r : Unit) : VS := ⟨mkA [(8, VV.rf 0 0 ((a0.length : Int).toNat))], [some ⟨false, 1, List.replicate (a0.length : Int).toNat (VV.c (.int .i64 0))⟩], .nil⟩
def Qdi (k : Nat) (a0 : (List Qj)) : Nat -> Option (Unit)
 | 0 => none
 | fuel + 1 => if 0 < (a0.length : Int) then (if (0 : Int) <= 0 /\ 0 < (a0.length : Int) then none else none) else (some ())
theorem Qh5 (k : Nat) (a0 : (List Qj)) : ∀ (fuel : Nat)  (r : Unit), Qdi k a0 fuel  = some r -> (Yw none Try.prog (szF Try.f12) (Ya Try.f12 0) (Qil a0 ) (.exit 0) (Qdp a0 r)) := by
 intro fuel
 induction fuel with
 | zero => intro  r h; rw [Qdi.eq_1] at h; cases h
 | succ fuel ih =>
  intro  r h
  rw [Qdi.eq_2] at h
  rcases ifs h with ⟨h2601, h⟩ | ⟨h2601, h⟩
  ·obtain ⟨h2602, h⟩ := ifn h
   have e2603 := (show Xt Try.prog 51 (((0 : Int)).toNat * 4) (flatMap Qc a0) = some (VV.ag (Qc (a0.getD ((0 : Int)).toNat default))) from Yo ag51 Qc 4 sz51 Jr a0 default h2602 (by omega))
   cases h
  ·injection h with h; subst h
   exact Q5 (c := ⟨[(8, none)], [none], []⟩) (s1 := (Qdp a0 ())) pm pn (ans := [.reg (.n :: []), .br false]) (by kernel_rfl) (by intro e; cases e) (an (an (ti tt) (an (df h2601) tt)) (ti tt))
def Qbb (a0 : (List Qj)) (r2591 : (List (ByteArray × Int))) (y1 : List Int) (x25 : Int) : VS := ⟨mkA [(6, VV.mp 0), (8, VV.rf 1 0 y1.length), (23, VV.tr (flatMap Qc a0) a0.length), (24, vi (a0.length : Int)), (25, vi x25)], [some ⟨true, bigX + 1, flatMap (mpE vi) r2591⟩, some ⟨false, 1, List.map vi y1⟩], .nil⟩
def Qdq (a0 : (List Qj)) (r2591 : (List (ByteArray × Int))) (r : (List (ByteArray × Int)) × (List Int)) : VS := ⟨mkA [(8, VV.rf 1 0 r.2.length)], [some ⟨true, bigX + 1, flatMap (mpE vi) r.1⟩, some ⟨false, 1, List.map vi r.2⟩], .nil⟩
def Yb (k : Nat) (a0 : (List Qj)) (r2591 : (List (ByteArray × Int))) : Nat -> (List Int) -> Int -> Option ((List (ByteArray × Int)) × (List Int))
 | 0, _, _ => none
 | fuel + 1, y1, x25 => if x25 < (a0.length : Int) then (if 0 <= x25 /\ x25 < (a0.length : Int) then (if mhas r2591 ((a0.getD x25.toNat default).Name) = true then (if 0 <= x25 /\ x25 < (y1.length : Int) then (Yb k a0 r2591 fuel (y1.set x25.toNat (mget r2591 ((a0.getD x25.toNat default).Name))) (w64 (x25 + 1))) else none) else (if 0 <= x25 /\ x25 < (y1.length : Int) then (Yb k a0 r2591 fuel (y1.set x25.toNat 0) (w64 (x25 + 1))) else none)) else none) else (some (r2591, y1))
theorem Qh6 (k : Nat) (a0 : (List Qj)) (r2591 : (List (ByteArray × Int))) : ∀ (fuel : Nat) (y1 : List Int) (x25 : Int) (r : (List (ByteArray × Int)) × (List Int)), Yb k a0 r2591 fuel y1 x25 = some r -> (Yw none Try.prog (szF Try.f12) (Ya Try.f12 0) (Qbb a0 r2591 y1 x25) (.exit 0) (Qdq a0 r2591 r)) := by
 intro fuel
 induction fuel with
 | zero => intro y1 x25 r h; rw [Yb.eq_1] at h; cases h
 | succ fuel ih =>
  intro y1 x25 r h
  rw [Yb.eq_2] at h
  rcases ifs h with ⟨h2640, h⟩ | ⟨h2640, h⟩
  ·obtain ⟨h2641, h⟩ := ifn h
   have e2642 := (show Xt Try.prog 51 (x25.toNat * 4) (flatMap Qc a0) = some (VV.ag (Qc (a0.getD x25.toNat default))) from Yo ag51 Qc 4 sz51 Jr a0 default h2641 (by omega))
   rcases ifs h with ⟨h2643, h⟩ | ⟨h2643, h⟩
   ·have e2644 := (show Wh (kdV (.string ((a0.getD x25.toNat default).Name))) (flatMap (mpE vi) r2591) = true /\ lkM (.string ((a0.getD x25.toNat default).Name)) (flatMap (mpE vi) r2591) = some (vi (mget r2591 ((a0.getD x25.toNat default).Name))) from ⟨(Xc vi ((a0.getD x25.toNat default).Name) r2591), (Qer vi ((a0.getD x25.toNat default).Name) r2591 h2643)⟩)
    obtain ⟨h2645, h⟩ := ifn h
    have e2646 := (show (0 + x25.toNat * 1) + 1 <= List.length (List.map vi y1) from (by simp only [length_map]; omega))
    have e2647 := (ti (ti (ti (ti (ti (an e2644 (an h2645 (an e2646 tt))))))))
    have h2 := ih _ _ _ h
    obtain ⟨q, hv, hq⟩ := pkR (rd := none) (P := Try.prog) (fn := Try.f12) (k := 0) (s := (Qbb a0 r2591 y1 x25)) (ans := [.reg (.n :: []), .br true, .reg (.n :: .n :: .v (VV.ag (Qc (a0.getD x25.toNat default))) :: nN 3 []), .reg (nN 5 (.v (vi (mget r2591 ((a0.getD x25.toNat default).Name))) :: .n :: .n :: [])), .reg (.n :: .n :: [])]) (c := ⟨[(6, none), (8, some (VV.rf 1 0 ((y1.set x25.toNat (mget r2591 ((a0.getD x25.toNat default).Name))).length))), (23, none), (24, none), (25, none)], [none, some (List.map vi (y1.set x25.toNat (mget r2591 ((a0.getD x25.toNat default).Name))))], []⟩) (e := .normal) (s1 := (Qbb a0 r2591 (y1.set x25.toNat (mget r2591 ((a0.getD x25.toNat default).Name))) (w64 (x25 + 1)))) (an (an (ti tt) (an (an (dt h2640) tt) (an (an (ti (an h2641 (an e2642 (ti (ti (ti tt)))))) e2647) (ti (ti tt))))) (an (an (show Wv (VV.rf 1 0 y1.length) (VV.rf 1 0 ((y1.set x25.toNat (mget r2591 ((a0.getD x25.toNat default).Name))).length)) from (Wv.of_eq (by simp))) tt) (an (show putT (0 + x25.toNat * 1) (List.map vi y1) [vi (mget r2591 ((a0.getD x25.toNat default).Name))] = List.map vi (y1.set x25.toNat (mget r2591 ((a0.getD x25.toNat default).Name))) from (by exact Qli y1 h2645 (mget r2591 ((a0.getD x25.toNat default).Name)) (by omega))) tt))) (by kernel_rfl)
    exact Qz pm pn hv hq h2
   ·have e2648 := (show Wh (kdV (.string ((a0.getD x25.toNat default).Name))) (flatMap (mpE vi) r2591) = true /\ lkM (.string ((a0.getD x25.toNat default).Name)) (flatMap (mpE vi) r2591) = none from ⟨(Xc vi ((a0.getD x25.toNat default).Name) r2591), (Qgw vi ((a0.getD x25.toNat default).Name) r2591 (Zk h2643))⟩)
    obtain ⟨h2649, h⟩ := ifn h
    have e2650 := (show (0 + x25.toNat * 1) + 1 <= List.length (List.map vi y1) from (by simp only [length_map]; omega))
    have e2651 := (ti (ti (ti (ti (ti (an e2648 (an h2649 (an e2650 tt))))))))
    have h2 := ih _ _ _ h
    obtain ⟨q, hv, hq⟩ := pkR (rd := none) (P := Try.prog) (fn := Try.f12) (k := 0) (s := (Qbb a0 r2591 y1 x25)) (ans := [.reg (.n :: []), .br true, .reg (.n :: .n :: .v (VV.ag (Qc (a0.getD x25.toNat default))) :: nN 3 []), .reg (nN 5 (.b false :: .n :: .n :: [])), .reg (.n :: .n :: [])]) (c := ⟨[(6, none), (8, some (VV.rf 1 0 ((y1.set x25.toNat 0).length))), (23, none), (24, none), (25, none)], [none, some (List.map vi (y1.set x25.toNat 0))], []⟩) (e := .normal) (s1 := (Qbb a0 r2591 (y1.set x25.toNat 0) (w64 (x25 + 1)))) (an (an (ti tt) (an (an (dt h2640) tt) (an (an (ti (an h2641 (an e2642 (ti (ti (ti tt)))))) e2651) (ti (ti tt))))) (an (an (show Wv (VV.rf 1 0 y1.length) (VV.rf 1 0 ((y1.set x25.toNat 0).length)) from (Wv.of_eq (by simp))) tt) (an (show putT (0 + x25.toNat * 1) (List.map vi y1) [vi 0] = List.map vi (y1.set x25.toNat 0) from (by exact Qli y1 h2649 0 (by omega))) tt))) (by kernel_rfl)
    exact Qz pm pn hv hq h2
  ·injection h with h; subst h
   exact Q5 (c := ⟨[(8, none)], [none, none], []⟩) (s1 := (Qdq a0 r2591 (r2591, y1))) pm pn (ans := [.reg (.n :: []), .br false]) (by kernel_rfl) (by intro e; cases e) (an (an (ti tt) (an (df h2640) tt)) (ti tt))
theorem Q1o (z0 : (List (ByteArray × Int)) × (List Int)) : VV.tu [VV.fw 1 (List.drop 0 (List.map unfr (List.map vi z0.2))) z0.2.length, vi 0] = VV.tu [VV.fw 1 (List.map vi z0.2) z0.2.length, vi 0] := by first | rfl | (simp only [Qa7, Zi, map_cons, map_nil, un_i, length_map, length_cons, length_nil]; done) | (simp only [Qa7, Zi, map_cons, map_nil, un_i, length_map, length_cons, length_nil]; rfl) | (simp only [Qa7, Zi, map_cons, map_nil, un_i, length_map, length_cons, length_nil, length_cons, length_nil, length_append]; done)
noncomputable def Qu6 (z0 : Int) : List Ans := (.n :: .n :: .inl (inlF Try.f24 [.reg (.n :: .n :: []), .reg (.n :: .call (vi z0) :: .n :: []), .reg (.n :: .n :: []), .br true, .reg (nN 3 [])]) :: nN 5 [])
def Qdr (k : Nat) (a0 : (List Qj)) (a1 : (List Qe)) : Option ((List Int) × Int) :=
 (Y4 k a0).bind fun r2296 => (if r2296 = 0 then (if 200 < (a1.length : Int) then (some ([], 8)) else ((Jp k a0 a1 k ([] : List (ByteArray × Int)) 0).bind fun r2316 => ((Xb k a0 a1 k r2316 ([] : List (ByteArray × Bool)) 0).bind fun r2589 => (match r2589 with | .inl r2590 => (if r2590 = 0 then (if 0 <= (a0.length : Int) /\ (a0.length : Int) <= 1000000000 then ((Qdi k a0 k).bind fun r2605 => (some (List.replicate (a0.length : Int).toNat (0 : Int), 0))) else none) else (some ([], r2590))) | .inr r2591 => (if 0 <= (a0.length : Int) /\ (a0.length : Int) <= 1000000000 then ((Yb k a0 r2591 k (List.replicate (a0.length : Int).toNat (0 : Int)) 0).bind fun r2653 => (some (r2653.2, 0))) else none))))) else (some ([], r2296)))
theorem Qk2 (k : Nat) (a0 : (List Qj)) (a1 : (List Qe)) (r : ((List Int) × Int)) (h : Qdr k a0 a1 = some r) : VC Try.prog 12 [VV.tr (flatMap Qc a0) a0.length, VV.tr (flatMap Qa a1) a1.length] (VV.tu [VV.fw 1 (List.map vi r.1) r.1.length, vi r.2]) := by
 unfold Qdr at h
 obtain ⟨r2296, h2297, h⟩ := bs h
 have e2298 := (ti (an (Qdg k a0 _ h2297) (ti tt)))
 rcases ifs h with ⟨h2299, h⟩ | ⟨h2299, h⟩
 ·rcases ifs h with ⟨h2300, h⟩ | ⟨h2300, h⟩
  ·have e2301 := (an (an Try.func24 (an (ti (ti tt)) (an (an e2298 (an (ti (ti tt)) (an (Qm (dt h2299)) tt))) (an (ti (ti (ti tt))) (an (dt h2300) (an (ti (ti tt)) tt)))))) (ti (ti tt)))
   have e2302 := (ti (ti (an e2301 (ti (ti (ti (ti (ti tt))))))))
   injection h with h; subst h
   exact Qw pm pn Try.func12 (r0 := VV.tu [VV.c (.slice none 0 0), vi 8]) (ans := [.reg (.n :: .n :: []), .reg (Qu5 r2296), .reg (.n :: .n :: []), .br true, .reg (nN 3 [])]) (fr := true) (by kernel_rfl) (an (an (ti (ti tt)) (an e2302 (an (ti (ti tt)) (an (show (!(decide ((8 : Int) = 0))) = true from (Za (df (by decide)))) (an (ti (ti (ti tt))) tt))))) (ti (ti tt))) (Wv.tuL (.cons Wv.Qp4 (.cons (Wv.refl _) .nil)))
  ·obtain ⟨r2316, h2315, h⟩ := bs h
   have hph2315 := Qgk k a0 a1 _ _ _ _ h2315
   have e2317 := (an (ti (an (show [] = flatMap (mpE vi) ([] : List (ByteArray × Int)) from rfl) tt)) (VRun.loop hph2315))
   obtain ⟨r2589, h2588, h⟩ := bs h
   have hph2588 := Qgl k a0 a1 _ _ _ _ _ h2588
   cases r2589 with
   | inl r2590 =>
    dsimp only at h
    have e2592 := (an (ti (an (show [] = flatMap (mpE vb) ([] : List (ByteArray × Bool)) from rfl) tt)) (VRun.loop hph2588))
    have e2593 := (an (an Try.func24 (an (ti (ti tt)) (an (an e2298 (an (ti (ti tt)) (an (Qm (dt h2299)) tt))) (an (an (ti (ti (ti tt))) (an (df h2300) tt)) (an (ti (ti (ti (ti tt)))) (an (an (ti (ti (ti tt))) e2317) (an (ti (ti (ti tt))) e2592))))))) (ti (ti tt)))
    have e2594 := (ti (ti (an e2593 (ti (ti (ti (ti (ti tt))))))))
    rcases ifs h with ⟨h2595, h⟩ | ⟨h2595, h⟩
    ·obtain ⟨h2596, h⟩ := ifn h
     have e2597 := (show 0 <= (a0.length : Int) /\ (a0.length : Int) = (a0.length : Int) /\ (8 * (a0.length : Int).toNat) <= 281474976710656 /\ (a0.length : Int) < 1099511627776 from ⟨by omega, rfl, by omega, by omega⟩)
     obtain ⟨r2605, h2604, h⟩ := bs h
     have hph2604 := Qh5 k a0 _  _ h2604
     have e2606 := (an (ti tt) (VRun.loop hph2604))
     injection h with h; subst h
     exact Qw pm pn Try.func12 (r0 := VV.tu [VV.fw 1 (List.drop 0 (List.map unfr (List.replicate (a0.length : Int).toNat (VV.c (.int .i64 0))))) ((a0.length : Int).toNat), vi 0]) (ans := [.reg (.n :: .n :: []), .reg (.n :: .n :: .inl (inlF Try.f24 [.reg (.n :: .n :: []), .reg (.n :: .call (vi r2296) :: .n :: []), .reg (.n :: .n :: []), .br false, .reg (nN 3 []), .br false, .reg (nN 4 []), .reg (nN 3 []), .sub ⟨[(1, none), (7, none), (8, none), (24, none), (25, none), (26, none)], [some (flatMap (mpE vi) ([] : List (ByteArray × Int))), none], []⟩ (.exit 0) (Y0 a0 a1 r2316), .reg (nN 3 []), .sub ⟨[(7, none), (8, none), (36, none), (37, none), (38, none)], [none, some (flatMap (mpE vb) ([] : List (ByteArray × Bool)))], []⟩ .ret (Jy a0 a1 r2590)]) :: nN 5 []), .reg (.n :: .n :: []), .br false, .reg (nN 4 []), .reg (nN 3 []), .sub ⟨[(6, none), (8, none), (23, none), (24, none), (25, none)], [none], []⟩ (.exit 0) (Qdp a0 r2605), .reg (nN 3 [])]) (fr := true) (by kernel_rfl) (an (an (ti (ti tt)) (an e2594 (an (an (ti (ti tt)) (an (Qm (dt h2595)) tt)) (an (ti (ti (an e2597 (ti tt)))) (an (an (ti (ti (ti tt))) e2606) (an (ti (ti (ti tt))) tt)))))) (an (show List.all (List.replicate (a0.length : Int).toNat (VV.c (.int .i64 0))) new0 = true from (by rw [show List.replicate (a0.length : Int).toNat (VV.c (.int .i64 0)) = List.map vi (List.replicate (a0.length : Int).toNat (0 : Int)) from Qd4 _]; exact Qns _)) (ti tt))) (Wv.of_eq (by simp only [show List.replicate (a0.length : Int).toNat (VV.c (.int .i64 0)) = List.map vi (List.replicate (a0.length : Int).toNat (0 : Int)) from Qd4 _, Qa7, Zi, Yd, Qeb, map_cons, map_nil, un_i, un_k, un_b, un_s, Qae, Qot, length_map, length_replicate, length_append, List.length_set, length_cons, length_nil, Nat.zero_add, Wi, Qb5, Zo, Xf, Xr, Yu, Ye]))
    ·injection h with h; subst h
     exact Qw pm pn Try.func12 (r0 := VV.tu [VV.c (.slice none 0 0), vi r2590]) (ans := [.reg (.n :: .n :: []), .reg (.n :: .n :: .inl (inlF Try.f24 [.reg (.n :: .n :: []), .reg (.n :: .call (vi r2296) :: .n :: []), .reg (.n :: .n :: []), .br false, .reg (nN 3 []), .br false, .reg (nN 4 []), .reg (nN 3 []), .sub ⟨[(1, none), (7, none), (8, none), (24, none), (25, none), (26, none)], [some (flatMap (mpE vi) ([] : List (ByteArray × Int))), none], []⟩ (.exit 0) (Y0 a0 a1 r2316), .reg (nN 3 []), .sub ⟨[(7, none), (8, none), (36, none), (37, none), (38, none)], [none, some (flatMap (mpE vb) ([] : List (ByteArray × Bool)))], []⟩ .ret (Jy a0 a1 r2590)]) :: nN 5 []), .reg (.n :: .n :: []), .br true, .reg (nN 3 [])]) (fr := true) (by kernel_rfl) (an (an (ti (ti tt)) (an e2594 (an (ti (ti tt)) (an (Za (df h2595)) (an (ti (ti (ti tt))) tt))))) (ti (ti tt))) (Wv.tuL (.cons Wv.Qp4 (.cons (Wv.refl _) .nil)))
   | inr r2591 =>
    dsimp only at h
    have e2607 := (an (ti (an (show [] = flatMap (mpE vb) ([] : List (ByteArray × Bool)) from rfl) tt)) (VRun.loop hph2588))
    have e2608 := (an (an Try.func24 (an (ti (ti tt)) (an (an e2298 (an (ti (ti tt)) (an (Qm (dt h2299)) tt))) (an (an (ti (ti (ti tt))) (an (df h2300) tt)) (an (ti (ti (ti (ti tt)))) (an (an (ti (ti (ti tt))) e2317) (an (an (ti (ti (ti tt))) e2607) (an (ti (ti (ti tt))) tt)))))))) (ti (ti tt)))
    have e2609 := (ti (ti (an e2608 (ti (ti (ti (ti (ti tt))))))))
    obtain ⟨h2610, h⟩ := ifn h
    have e2611 := (show 0 <= (a0.length : Int) /\ (a0.length : Int) = (a0.length : Int) /\ (8 * (a0.length : Int).toNat) <= 281474976710656 /\ (a0.length : Int) < 1099511627776 from ⟨by omega, rfl, by omega, by omega⟩)
    obtain ⟨r2653, h2652, h⟩ := bs h
    have hph2652 := Qh6 k a0 r2591 _ _ _ _ h2652
    have e2654 := (an (an (an (show Wv (VV.rf 1 0 ((a0.length : Int).toNat)) (VV.rf 1 0 ((List.replicate (a0.length : Int).toNat (0 : Int)).length)) from (Wv.of_eq (by simp))) tt) (an (show List.replicate (a0.length : Int).toNat (VV.c (.int .i64 0)) = List.map vi (List.replicate (a0.length : Int).toNat (0 : Int)) from Qd4 _) tt)) (VRun.loop hph2652))
    injection h with h; subst h
    exact Qw pm pn Try.func12 (r0 := VV.tu [VV.fw 1 (List.drop 0 (List.map unfr (List.map vi r2653.2))) r2653.2.length, vi 0]) (ans := [.reg (.n :: .n :: []), .reg (.n :: .n :: .inl (inlF Try.f24 [.reg (.n :: .n :: []), .reg (.n :: .call (vi r2296) :: .n :: []), .reg (.n :: .n :: []), .br false, .reg (nN 3 []), .br false, .reg (nN 4 []), .reg (nN 3 []), .sub ⟨[(1, none), (7, none), (8, none), (24, none), (25, none), (26, none)], [some (flatMap (mpE vi) ([] : List (ByteArray × Int))), none], []⟩ (.exit 0) (Y0 a0 a1 r2316), .reg (nN 3 []), .sub ⟨[(7, none), (8, none), (36, none), (37, none), (38, none)], [none, some (flatMap (mpE vb) ([] : List (ByteArray × Bool)))], []⟩ (.exit 2) (Qcg a0 a1 r2591), .reg (nN 3 [])]) :: nN 5 []), .reg (.n :: .n :: []), .br false, .reg (nN 4 []), .reg (nN 3 []), .sub ⟨[(6, none), (8, some (VV.rf 1 0 ((List.replicate (a0.length : Int).toNat (0 : Int)).length))), (23, none), (24, none), (25, none)], [none, some (List.map vi (List.replicate (a0.length : Int).toNat (0 : Int)))], []⟩ (.exit 0) (Qdq a0 r2591 r2653), .reg (nN 3 [])]) (fr := true) (by kernel_rfl) (an (an (ti (ti tt)) (an e2609 (an (an (ti (ti tt)) (an (show (!(decide ((0 : Int) = 0))) = false from (Qm (dt (by decide)))) tt)) (an (ti (ti (an e2611 (ti tt)))) (an (an (ti (ti (ti tt))) e2654) (an (ti (ti (ti tt))) tt)))))) (an (show List.all (List.map vi r2653.2) new0 = true from (by exact Qns _)) (ti tt))) (Wv.of_eq (Q1o r2653))
 ·have e2655 := (an (an Try.func24 (an (ti (ti tt)) (an e2298 (an (ti (ti tt)) (an (Za (df h2299)) (an (ti (ti (ti tt))) tt)))))) (ti (ti tt)))
  have e2656 := (ti (ti (an e2655 (ti (ti (ti (ti (ti tt))))))))
  injection h with h; subst h
  exact Qw pm pn Try.func12 (r0 := VV.tu [VV.c (.slice none 0 0), vi r2296]) (ans := [.reg (.n :: .n :: []), .reg (Qu6 r2296), .reg (.n :: .n :: []), .br true, .reg (nN 3 [])]) (fr := true) (by kernel_rfl) (an (an (ti (ti tt)) (an e2656 (an (ti (ti tt)) (an (Za (df h2299)) (an (ti (ti (ti tt))) tt))))) (ti (ti tt))) (Wv.tuL (.cons Wv.Qp4 (.cons (Wv.refl _) .nil)))
def Qao (a0 : (List Qj)) (a1 : (List Qe)) (y0 : List (ByteArray × Int)) (x26 : Int) : VS := ⟨mkA [(1, VV.tr (flatMap Qa a1) a1.length), (7, VV.mp 0), (8, VV.mp 1), (24, VV.tr (flatMap Qc a0) a0.length), (25, vi (a0.length : Int)), (26, vi x26)], [some ⟨true, bigX + 1, flatMap (mpE vi) y0⟩, some ⟨true, bigX + 1, []⟩], (.node none (mkA [(0, VV.tr (flatMap Qc a0) a0.length), (1, VV.tr (flatMap Qa a1) a1.length), (4, vi 0), (8, VV.tr (flatMap Qc a0) a0.length), (9, VV.tr (flatMap Qa a1) a1.length)]) .nil)⟩
def Ym (a0 : (List Qj)) (a1 : (List Qe)) (r : (List (ByteArray × Int))) : VS := ⟨mkA [(1, VV.tr (flatMap Qa a1) a1.length), (7, VV.mp 0), (8, VV.mp 1)], [some ⟨true, bigX + 1, flatMap (mpE vi) r⟩, some ⟨true, bigX + 1, []⟩], (.node none (mkA [(0, VV.tr (flatMap Qc a0) a0.length), (1, VV.tr (flatMap Qa a1) a1.length), (4, vi 0), (8, VV.tr (flatMap Qc a0) a0.length), (9, VV.tr (flatMap Qa a1) a1.length)]) .nil)⟩
def Xk (k : Nat) (a0 : (List Qj)) (a1 : (List Qe)) : Nat -> (List (ByteArray × Int)) -> Int -> Option ((List (ByteArray × Int)))
 | 0, _, _ => none
 | fuel + 1, y0, x26 => if x26 < (a0.length : Int) then (if 0 <= x26 /\ x26 < (a0.length : Int) then (Xk k a0 a1 fuel (mset y0 ((a0.getD x26.toNat default).Name) ((a0.getD x26.toNat default).Count)) (w64 (x26 + 1))) else none) else (some y0)
theorem Qem (k : Nat) (a0 : (List Qj)) (a1 : (List Qe)) : ∀ (fuel : Nat) (y0 : List (ByteArray × Int)) (x26 : Int) (r : (List (ByteArray × Int))), Xk k a0 a1 fuel y0 x26 = some r -> (Yw none Try.prog (szF Try.f24) (Ya Try.f24 0) (Qao a0 a1 y0 x26) (.exit 0) (Ym a0 a1 r)) := by
 intro fuel
 induction fuel with
 | zero => intro y0 x26 r h; rw [Xk.eq_1] at h; cases h
 | succ fuel ih =>
  intro y0 x26 r h
  rw [Xk.eq_2] at h
  rcases ifs h with ⟨h2976, h⟩ | ⟨h2976, h⟩
  ·obtain ⟨h2977, h⟩ := ifn h
   have e2978 := (show Xt Try.prog 51 (x26.toNat * 4) (flatMap Qc a0) = some (VV.ag (Qc (a0.getD x26.toNat default))) from Yo ag51 Qc 4 sz51 Jr a0 default h2977 (by omega))
   have e2979 := (show Wh (kdV (.string ((a0.getD x26.toNat default).Name))) (flatMap (mpE vi) y0) = true from (Xc vi ((a0.getD x26.toNat default).Name) y0))
   have h2 := ih _ _ _ h
   obtain ⟨q, hv, hq⟩ := pkR (rd := none) (P := Try.prog) (fn := Try.f24) (k := 0) (s := (Qao a0 a1 y0 x26)) (ans := [.reg (.n :: []), .br true, .reg (.n :: .v (VV.ag (Qc (a0.getD x26.toNat default))) :: .n :: .n :: []), .reg (nN 6 []), .reg (.n :: .n :: [])]) (c := ⟨[(1, none), (7, none), (8, none), (24, none), (25, none), (26, none)], [some (flatMap (mpE vi) (mset y0 ((a0.getD x26.toNat default).Name) ((a0.getD x26.toNat default).Count))), none], []⟩) (e := .normal) (s1 := (Qao a0 a1 (mset y0 ((a0.getD x26.toNat default).Name) ((a0.getD x26.toNat default).Count)) (w64 (x26 + 1)))) (an (an (ti tt) (an (an (dt h2976) tt) (an (an (an h2977 (an e2978 (ti (ti tt)))) (ti (ti (ti (ti (ti (an e2979 tt))))))) (ti (ti tt))))) (ti (an (show upM (.string ((a0.getD x26.toNat default).Name)) (vi ((a0.getD x26.toNat default).Count)) (flatMap (mpE vi) y0) = flatMap (mpE vi) (mset y0 ((a0.getD x26.toNat default).Name) ((a0.getD x26.toNat default).Count)) from (by exact Qbf vi ((a0.getD x26.toNat default).Name) ((a0.getD x26.toNat default).Count) y0)) tt))) (by kernel_rfl)
   exact Qz pm pn hv hq h2
  ·injection h with h; subst h
   exact Q5 (c := ⟨[(1, none), (7, none), (8, none)], [none, none], []⟩) (s1 := (Ym a0 a1 y0)) pm pn (ans := [.reg (.n :: []), .br false]) (by kernel_rfl) (by intro e; cases e) (an (an (ti tt) (an (df h2976) tt)) (ti tt))
def Z4 (a0 : (List Qj)) (a1 : (List Qe)) (y0 : List (ByteArray × Int)) (y1 : List (ByteArray × Bool)) (x38 : Int) : VS := ⟨mkA [(7, VV.mp 0), (8, VV.mp 1), (36, VV.tr (flatMap Qa a1) a1.length), (37, vi (a1.length : Int)), (38, vi x38)], [some ⟨true, bigX + 1, flatMap (mpE vi) y0⟩, some ⟨true, bigX + 1, flatMap (mpE vb) y1⟩], (.node none (mkA [(0, VV.tr (flatMap Qc a0) a0.length), (1, VV.tr (flatMap Qa a1) a1.length), (4, vi 0), (8, VV.tr (flatMap Qc a0) a0.length), (9, VV.tr (flatMap Qa a1) a1.length)]) .nil)⟩
def Jh (a0 : (List Qj)) (a1 : (List Qe)) (r : Int) : VS := ⟨mkA [(4, VV.c (.map none)), (5, vi r)], [], (.node none (mkA [(0, VV.tr (flatMap Qc a0) a0.length), (1, VV.tr (flatMap Qa a1) a1.length), (4, vi 0), (8, VV.tr (flatMap Qc a0) a0.length), (9, VV.tr (flatMap Qa a1) a1.length)]) .nil)⟩
def Qad (a0 : (List Qj)) (a1 : (List Qe)) (r : (List (ByteArray × Int))) : VS := ⟨mkA [(7, VV.mp 0)], [some ⟨true, bigX + 1, flatMap (mpE vi) r⟩], (.node none (mkA [(0, VV.tr (flatMap Qc a0) a0.length), (1, VV.tr (flatMap Qa a1) a1.length), (4, vi 0), (8, VV.tr (flatMap Qc a0) a0.length), (9, VV.tr (flatMap Qa a1) a1.length)]) .nil)⟩
def Zg (k : Nat) (a0 : (List Qj)) (a1 : (List Qe)) : Nat -> (List (ByteArray × Int)) -> (List (ByteArray × Bool)) -> Int -> Option (Sum Int (List (ByteArray × Int)))
 | 0, _, _, _ => none
 | fuel + 1, y0, y1, x38 => if x38 < (a1.length : Int) then (if 0 <= x38 /\ x38 < (a1.length : Int) then (if mhas y0 ((a1.getD x38.toNat default).Batch) = true then ((Yn k ((a1.getD x38.toNat default).Mirror)).bind fun r3169 => ((Qy k r3169 4).bind fun r3172 => (if mhas y1 ((a1.getD x38.toNat default).Mirror) = true then ((Qy k (!(mget y1 ((a1.getD x38.toNat default).Mirror))) 5).bind fun r3176 => ((Qy k true 6).bind fun r3179 => ((Qy k (decide (0 < (mget y0 ((a1.getD x38.toNat default).Batch)))) 20).bind fun r3181 => ((Qd k (r3172, r3176, r3179, r3181)).bind fun r3184 => (if r3184 = 0 then (Zg k a0 a1 fuel (mset y0 ((a1.getD x38.toNat default).Batch) (w64 ((mget y0 ((a1.getD x38.toNat default).Batch)) - 1))) (mset y1 ((a1.getD x38.toNat default).Mirror) true) (w64 (x38 + 1))) else (some (.inl r3184))))))) else ((Qy k (!false) 5).bind fun r3194 => ((Qy k true 6).bind fun r3196 => ((Qy k (decide (0 < (mget y0 ((a1.getD x38.toNat default).Batch)))) 20).bind fun r3198 => ((Qd k (r3172, r3194, r3196, r3198)).bind fun r3201 => (if r3201 = 0 then (Zg k a0 a1 fuel (mset y0 ((a1.getD x38.toNat default).Batch) (w64 ((mget y0 ((a1.getD x38.toNat default).Batch)) - 1))) (mset y1 ((a1.getD x38.toNat default).Mirror) true) (w64 (x38 + 1))) else (some (.inl r3201)))))))))) else ((Yn k ((a1.getD x38.toNat default).Mirror)).bind fun r3212 => ((Qy k r3212 4).bind fun r3215 => (if mhas y1 ((a1.getD x38.toNat default).Mirror) = true then ((Qy k (!(mget y1 ((a1.getD x38.toNat default).Mirror))) 5).bind fun r3219 => ((Qy k false 6).bind fun r3222 => ((Qy k (decide ((0 : Int) < 0)) 20).bind fun r3224 => ((Qd k (r3215, r3219, r3222, r3224)).bind fun r3227 => (if r3227 = 0 then (Zg k a0 a1 fuel (mset y0 ((a1.getD x38.toNat default).Batch) (-1)) (mset y1 ((a1.getD x38.toNat default).Mirror) true) (w64 (x38 + 1))) else (some (.inl r3227))))))) else ((Qy k (!false) 5).bind fun r3237 => ((Qy k false 6).bind fun r3239 => ((Qy k (decide ((0 : Int) < 0)) 20).bind fun r3241 => ((Qd k (r3215, r3237, r3239, r3241)).bind fun r3244 => (if r3244 = 0 then (Zg k a0 a1 fuel (mset y0 ((a1.getD x38.toNat default).Batch) (-1)) (mset y1 ((a1.getD x38.toNat default).Mirror) true) (w64 (x38 + 1))) else (some (.inl r3244))))))))))) else none) else (some (.inr y0))
theorem Qen (k : Nat) (a0 : (List Qj)) (a1 : (List Qe)) : ∀ (fuel : Nat) (y0 : List (ByteArray × Int)) (y1 : List (ByteArray × Bool)) (x38 : Int) (r : Sum Int (List (ByteArray × Int))), Zg k a0 a1 fuel y0 y1 x38 = some r -> (match r with | .inl r => Yw none Try.prog (szF Try.f24) (Ya Try.f24 1) (Z4 a0 a1 y0 y1 x38) .ret (Jh a0 a1 r) | .inr r => Yw none Try.prog (szF Try.f24) (Ya Try.f24 1) (Z4 a0 a1 y0 y1 x38) (.exit 2) (Qad a0 a1 r)) := by
 intro fuel
 induction fuel with
 | zero => intro y0 y1 x38 r h; rw [Zg.eq_1] at h; cases h
 | succ fuel ih =>
  intro y0 y1 x38 r h
  rw [Zg.eq_2] at h
  rcases ifs h with ⟨h3163, h⟩ | ⟨h3163, h⟩
  ·obtain ⟨h3164, h⟩ := ifn h
   have e3165 := (show Xt Try.prog 46 (x38.toNat * 2) (flatMap Qa a1) = some (VV.ag (Qa (a1.getD x38.toNat default))) from Yo ag46 Qa 2 sz46 Y2 a1 default h3164 (by omega))
   rcases ifs h with ⟨h3166, h⟩ | ⟨h3166, h⟩
   ·have e3167 := (show Wh (kdV (.string ((a1.getD x38.toNat default).Batch))) (flatMap (mpE vi) y0) = true /\ lkM (.string ((a1.getD x38.toNat default).Batch)) (flatMap (mpE vi) y0) = some (vi (mget y0 ((a1.getD x38.toNat default).Batch))) from ⟨(Xc vi ((a1.getD x38.toNat default).Batch) y0), (Qer vi ((a1.getD x38.toNat default).Batch) y0 h3166)⟩)
    have e3168 := (ti (ti (ti (an e3167 (ti (ti (ti (ti (ti tt)))))))))
    obtain ⟨r3169, h3170, h⟩ := bs h
    have e3171 := (W9 k ((a1.getD x38.toNat default).Mirror) _ h3170)
    obtain ⟨r3172, h3173, h⟩ := bs h
    rcases ifs h with ⟨h3174, h⟩ | ⟨h3174, h⟩
    ·have e3175 := (show Wh (kdV (.string ((a1.getD x38.toNat default).Mirror))) (flatMap (mpE vb) y1) = true /\ lkM (.string ((a1.getD x38.toNat default).Mirror)) (flatMap (mpE vb) y1) = some (vb (mget y1 ((a1.getD x38.toNat default).Mirror))) from ⟨(Xc vb ((a1.getD x38.toNat default).Mirror) y1), (Qer vb ((a1.getD x38.toNat default).Mirror) y1 h3174)⟩)
     obtain ⟨r3176, h3177, h⟩ := bs h
     have e3178 := (Qp k (!(mget y1 ((a1.getD x38.toNat default).Mirror))) 5 _ h3177)
     obtain ⟨r3179, h3180, h⟩ := bs h
     obtain ⟨r3181, h3182, h⟩ := bs h
     have e3183 := (Qp k (decide (0 < (mget y0 ((a1.getD x38.toNat default).Batch)))) 20 _ h3182)
     obtain ⟨r3184, h3185, h⟩ := bs h
     have e3186 := (VC.args (Qi k (r3172, r3176, r3179, r3181) _ h3185) (Qkr r3172 r3176 r3179 r3181))
     have e3187 := (ti (ti (an e3171 (an (Qp k r3169 4 _ h3173) (ti (ti (ti (an e3175 (ti (an e3178 (ti (an (Qp k true 6 _ h3180) (ti (ti (an e3183 (ti (an e3186 (ti tt))))))))))))))))))
     rcases ifs h with ⟨h3188, h⟩ | ⟨h3188, h⟩
     ·have e3189 := (show Wh (kdV (.string ((a1.getD x38.toNat default).Mirror))) (flatMap (mpE vb) y1) = true from (Xc vb ((a1.getD x38.toNat default).Mirror) y1))
      have e3190 := (show Wh (kdV (.string ((a1.getD x38.toNat default).Batch))) (flatMap (mpE vi) y0) = true from (Xc vi ((a1.getD x38.toNat default).Batch) y0))
      have e3191 := (an (an Try.func49 (an (ti (ti tt)) (an e3168 (an e3187 (an (an (ti (ti tt)) (an (dt h3188) (an (ti (ti (ti (an e3189 tt)))) (ti (ti (ti (ti (ti (an e3190 tt))))))))) (an (ti (ti tt)) tt)))))) (ti tt))
      have h2 := ih _ _ _ _ h
      obtain ⟨q, hv, hq⟩ := pkR (rd := none) (P := Try.prog) (fn := Try.f24) (k := 1) (s := (Z4 a0 a1 y0 y1 x38)) (ans := [.reg (.n :: []), .br true, .reg (.n :: .v (VV.ag (Qa (a1.getD x38.toNat default))) :: .n :: .n :: []), .reg (Qxr y0 a1 x38 r3169 r3172 y1 r3176 r3179 r3181 r3184), .reg (.n :: .n :: []), .br false, .reg (.n :: .n :: [])]) (c := ⟨[(7, none), (8, none), (36, none), (37, none), (38, none)], [some (flatMap (mpE vi) (mset y0 ((a1.getD x38.toNat default).Batch) (w64 ((mget y0 ((a1.getD x38.toNat default).Batch)) - 1)))), some (flatMap (mpE vb) (mset y1 ((a1.getD x38.toNat default).Mirror) true))], []⟩) (e := .normal) (s1 := (Z4 a0 a1 (mset y0 ((a1.getD x38.toNat default).Batch) (w64 ((mget y0 ((a1.getD x38.toNat default).Batch)) - 1))) (mset y1 ((a1.getD x38.toNat default).Mirror) true) (w64 (x38 + 1)))) (an (an (ti tt) (an (an (dt h3163) tt) (an (an (an h3164 (an e3165 (ti (ti tt)))) (an (ti (ti (ti (an e3191 (ti tt))))) (an (ti (ti tt)) (an (Qm (dt h3188)) tt)))) (ti (ti tt))))) (ti (an (show upM (.string ((a1.getD x38.toNat default).Batch)) (vi (w64 ((mget y0 ((a1.getD x38.toNat default).Batch)) - 1))) (flatMap (mpE vi) y0) = flatMap (mpE vi) (mset y0 ((a1.getD x38.toNat default).Batch) (w64 ((mget y0 ((a1.getD x38.toNat default).Batch)) - 1))) from (by exact Qbf vi ((a1.getD x38.toNat default).Batch) (w64 ((mget y0 ((a1.getD x38.toNat default).Batch)) - 1)) y0)) (an (show upM (.string ((a1.getD x38.toNat default).Mirror)) (vb true) (flatMap (mpE vb) y1) = flatMap (mpE vb) (mset y1 ((a1.getD x38.toNat default).Mirror) true) from (by exact Qbf vb ((a1.getD x38.toNat default).Mirror) true y1)) tt)))) (by kernel_rfl)
      cases r with
      | inl r => exact Qz pm pn hv hq h2
      | inr r =>
       exact Qz pm pn hv hq h2
     ·have e3192 := (an (an Try.func49 (an (ti (ti tt)) (an e3168 (an e3187 (an (an (ti (ti tt)) (an (df h3188) tt)) (an (ti (ti tt)) tt)))))) (ti tt))
      injection h with h; subst h
      exact Q5 (c := ⟨[(4, none), (5, none)], [], []⟩) (s1 := (Jh a0 a1 r3184)) pm pn (ans := [.reg (.n :: []), .br true, .reg (.n :: .v (VV.ag (Qa (a1.getD x38.toNat default))) :: .n :: .n :: []), .reg (Qxs y0 a1 x38 r3169 r3172 y1 r3176 r3179 r3181 r3184), .reg (.n :: .n :: []), .br true, .reg (nN 3 [])]) (by kernel_rfl) (by intro e; cases e) (an (an (ti tt) (an (an (dt h3163) tt) (an (an h3164 (an e3165 (ti (ti tt)))) (an (ti (ti (ti (an e3192 (ti tt))))) (an (ti (ti tt)) (an (Za (df h3188)) (an (ti (ti (ti tt))) tt))))))) (ti tt))
    ·have e3193 := (show Wh (kdV (.string ((a1.getD x38.toNat default).Mirror))) (flatMap (mpE vb) y1) = true /\ lkM (.string ((a1.getD x38.toNat default).Mirror)) (flatMap (mpE vb) y1) = none from ⟨(Xc vb ((a1.getD x38.toNat default).Mirror) y1), (Qgw vb ((a1.getD x38.toNat default).Mirror) y1 (Zk h3174))⟩)
     obtain ⟨r3194, h3195, h⟩ := bs h
     obtain ⟨r3196, h3197, h⟩ := bs h
     obtain ⟨r3198, h3199, h⟩ := bs h
     have e3200 := (Qp k (decide (0 < (mget y0 ((a1.getD x38.toNat default).Batch)))) 20 _ h3199)
     obtain ⟨r3201, h3202, h⟩ := bs h
     have e3203 := (VC.args (Qi k (r3172, r3194, r3196, r3198) _ h3202) (Qkr r3172 r3194 r3196 r3198))
     have e3204 := (ti (ti (an e3171 (an (Qp k r3169 4 _ h3173) (ti (ti (ti (an e3193 (ti (an (Qp k (!false) 5 _ h3195) (ti (an (Qp k true 6 _ h3197) (ti (ti (an e3200 (ti (an e3203 (ti tt))))))))))))))))))
     rcases ifs h with ⟨h3205, h⟩ | ⟨h3205, h⟩
     ·have e3206 := (show Wh (kdV (.string ((a1.getD x38.toNat default).Mirror))) (flatMap (mpE vb) y1) = true from (Xc vb ((a1.getD x38.toNat default).Mirror) y1))
      have e3207 := (show Wh (kdV (.string ((a1.getD x38.toNat default).Batch))) (flatMap (mpE vi) y0) = true from (Xc vi ((a1.getD x38.toNat default).Batch) y0))
      have e3208 := (an (an Try.func49 (an (ti (ti tt)) (an e3168 (an e3204 (an (an (ti (ti tt)) (an (dt h3205) (an (ti (ti (ti (an e3206 tt)))) (ti (ti (ti (ti (ti (an e3207 tt))))))))) (an (ti (ti tt)) tt)))))) (ti tt))
      have h2 := ih _ _ _ _ h
      obtain ⟨q, hv, hq⟩ := pkR (rd := none) (P := Try.prog) (fn := Try.f24) (k := 1) (s := (Z4 a0 a1 y0 y1 x38)) (ans := [.reg (.n :: []), .br true, .reg (.n :: .v (VV.ag (Qa (a1.getD x38.toNat default))) :: .n :: .n :: []), .reg (Qxt y0 a1 x38 r3169 r3172 r3194 r3196 r3198 r3201), .reg (.n :: .n :: []), .br false, .reg (.n :: .n :: [])]) (c := ⟨[(7, none), (8, none), (36, none), (37, none), (38, none)], [some (flatMap (mpE vi) (mset y0 ((a1.getD x38.toNat default).Batch) (w64 ((mget y0 ((a1.getD x38.toNat default).Batch)) - 1)))), some (flatMap (mpE vb) (mset y1 ((a1.getD x38.toNat default).Mirror) true))], []⟩) (e := .normal) (s1 := (Z4 a0 a1 (mset y0 ((a1.getD x38.toNat default).Batch) (w64 ((mget y0 ((a1.getD x38.toNat default).Batch)) - 1))) (mset y1 ((a1.getD x38.toNat default).Mirror) true) (w64 (x38 + 1)))) (an (an (ti tt) (an (an (dt h3163) tt) (an (an (an h3164 (an e3165 (ti (ti tt)))) (an (ti (ti (ti (an e3208 (ti tt))))) (an (ti (ti tt)) (an (Qm (dt h3205)) tt)))) (ti (ti tt))))) (ti (an (show upM (.string ((a1.getD x38.toNat default).Batch)) (vi (w64 ((mget y0 ((a1.getD x38.toNat default).Batch)) - 1))) (flatMap (mpE vi) y0) = flatMap (mpE vi) (mset y0 ((a1.getD x38.toNat default).Batch) (w64 ((mget y0 ((a1.getD x38.toNat default).Batch)) - 1))) from (by exact Qbf vi ((a1.getD x38.toNat default).Batch) (w64 ((mget y0 ((a1.getD x38.toNat default).Batch)) - 1)) y0)) (an (show upM (.string ((a1.getD x38.toNat default).Mirror)) (vb true) (flatMap (mpE vb) y1) = flatMap (mpE vb) (mset y1 ((a1.getD x38.toNat default).Mirror) true) from (by exact Qbf vb ((a1.getD x38.toNat default).Mirror) true y1)) tt)))) (by kernel_rfl)
      cases r with
      | inl r => exact Qz pm pn hv hq h2
      | inr r =>
       exact Qz pm pn hv hq h2
     ·have e3209 := (an (an Try.func49 (an (ti (ti tt)) (an e3168 (an e3204 (an (an (ti (ti tt)) (an (df h3205) tt)) (an (ti (ti tt)) tt)))))) (ti tt))
      injection h with h; subst h
      exact Q5 (c := ⟨[(4, none), (5, none)], [], []⟩) (s1 := (Jh a0 a1 r3201)) pm pn (ans := [.reg (.n :: []), .br true, .reg (.n :: .v (VV.ag (Qa (a1.getD x38.toNat default))) :: .n :: .n :: []), .reg (Qxu y0 a1 x38 r3169 r3172 r3194 r3196 r3198 r3201), .reg (.n :: .n :: []), .br true, .reg (nN 3 [])]) (by kernel_rfl) (by intro e; cases e) (an (an (ti tt) (an (an (dt h3163) tt) (an (an h3164 (an e3165 (ti (ti tt)))) (an (ti (ti (ti (an e3209 (ti tt))))) (an (ti (ti tt)) (an (Za (df h3205)) (an (ti (ti (ti tt))) tt))))))) (ti tt))
   ·have e3210 := (show Wh (kdV (.string ((a1.getD x38.toNat default).Batch))) (flatMap (mpE vi) y0) = true /\ lkM (.string ((a1.getD x38.toNat default).Batch)) (flatMap (mpE vi) y0) = none from ⟨(Xc vi ((a1.getD x38.toNat default).Batch) y0), (Qgw vi ((a1.getD x38.toNat default).Batch) y0 (Zk h3166))⟩)
    have e3211 := (ti (ti (ti (an e3210 (ti (ti (ti (ti (ti tt)))))))))
    obtain ⟨r3212, h3213, h⟩ := bs h
    have e3214 := (W9 k ((a1.getD x38.toNat default).Mirror) _ h3213)
    obtain ⟨r3215, h3216, h⟩ := bs h
    rcases ifs h with ⟨h3217, h⟩ | ⟨h3217, h⟩
    ·have e3218 := (show Wh (kdV (.string ((a1.getD x38.toNat default).Mirror))) (flatMap (mpE vb) y1) = true /\ lkM (.string ((a1.getD x38.toNat default).Mirror)) (flatMap (mpE vb) y1) = some (vb (mget y1 ((a1.getD x38.toNat default).Mirror))) from ⟨(Xc vb ((a1.getD x38.toNat default).Mirror) y1), (Qer vb ((a1.getD x38.toNat default).Mirror) y1 h3217)⟩)
     obtain ⟨r3219, h3220, h⟩ := bs h
     have e3221 := (Qp k (!(mget y1 ((a1.getD x38.toNat default).Mirror))) 5 _ h3220)
     obtain ⟨r3222, h3223, h⟩ := bs h
     obtain ⟨r3224, h3225, h⟩ := bs h
     have e3226 := (Qp k (decide ((0 : Int) < 0)) 20 _ h3225)
     obtain ⟨r3227, h3228, h⟩ := bs h
     have e3229 := (VC.args (Qi k (r3215, r3219, r3222, r3224) _ h3228) (Qkr r3215 r3219 r3222 r3224))
     have e3230 := (ti (ti (an e3214 (an (Qp k r3212 4 _ h3216) (ti (ti (ti (an e3218 (ti (an e3221 (ti (an (Qp k false 6 _ h3223) (ti (ti (an e3226 (ti (an e3229 (ti tt))))))))))))))))))
     rcases ifs h with ⟨h3231, h⟩ | ⟨h3231, h⟩
     ·have e3232 := (show Wh (kdV (.string ((a1.getD x38.toNat default).Mirror))) (flatMap (mpE vb) y1) = true from (Xc vb ((a1.getD x38.toNat default).Mirror) y1))
      have e3233 := (show Wh (kdV (.string ((a1.getD x38.toNat default).Batch))) (flatMap (mpE vi) y0) = true from (Xc vi ((a1.getD x38.toNat default).Batch) y0))
      have e3234 := (an (an Try.func49 (an (ti (ti tt)) (an e3211 (an e3230 (an (an (ti (ti tt)) (an (dt h3231) (an (ti (ti (ti (an e3232 tt)))) (ti (ti (ti (ti (ti (an e3233 tt))))))))) (an (ti (ti tt)) tt)))))) (ti tt))
      have h2 := ih _ _ _ _ h
      obtain ⟨q, hv, hq⟩ := pkR (rd := none) (P := Try.prog) (fn := Try.f24) (k := 1) (s := (Z4 a0 a1 y0 y1 x38)) (ans := [.reg (.n :: []), .br true, .reg (.n :: .v (VV.ag (Qa (a1.getD x38.toNat default))) :: .n :: .n :: []), .reg (Qxv r3212 r3215 y1 a1 x38 r3219 r3222 r3224 r3227), .reg (.n :: .n :: []), .br false, .reg (.n :: .n :: [])]) (c := ⟨[(7, none), (8, none), (36, none), (37, none), (38, none)], [some (flatMap (mpE vi) (mset y0 ((a1.getD x38.toNat default).Batch) (-1))), some (flatMap (mpE vb) (mset y1 ((a1.getD x38.toNat default).Mirror) true))], []⟩) (e := .normal) (s1 := (Z4 a0 a1 (mset y0 ((a1.getD x38.toNat default).Batch) (-1)) (mset y1 ((a1.getD x38.toNat default).Mirror) true) (w64 (x38 + 1)))) (an (an (ti tt) (an (an (dt h3163) tt) (an (an (an h3164 (an e3165 (ti (ti tt)))) (an (ti (ti (ti (an e3234 (ti tt))))) (an (ti (ti tt)) (an (Qm (dt h3231)) tt)))) (ti (ti tt))))) (ti (an (show upM (.string ((a1.getD x38.toNat default).Batch)) (vi (-1)) (flatMap (mpE vi) y0) = flatMap (mpE vi) (mset y0 ((a1.getD x38.toNat default).Batch) (-1)) from (by exact Qbf vi ((a1.getD x38.toNat default).Batch) (-1) y0)) (an (show upM (.string ((a1.getD x38.toNat default).Mirror)) (vb true) (flatMap (mpE vb) y1) = flatMap (mpE vb) (mset y1 ((a1.getD x38.toNat default).Mirror) true) from (by exact Qbf vb ((a1.getD x38.toNat default).Mirror) true y1)) tt)))) (by kernel_rfl)
      cases r with
      | inl r => exact Qz pm pn hv hq h2
      | inr r =>
       exact Qz pm pn hv hq h2
     ·have e3235 := (an (an Try.func49 (an (ti (ti tt)) (an e3211 (an e3230 (an (an (ti (ti tt)) (an (df h3231) tt)) (an (ti (ti tt)) tt)))))) (ti tt))
      injection h with h; subst h
      exact Q5 (c := ⟨[(4, none), (5, none)], [], []⟩) (s1 := (Jh a0 a1 r3227)) pm pn (ans := [.reg (.n :: []), .br true, .reg (.n :: .v (VV.ag (Qa (a1.getD x38.toNat default))) :: .n :: .n :: []), .reg (Qxw r3212 r3215 y1 a1 x38 r3219 r3222 r3224 r3227), .reg (.n :: .n :: []), .br true, .reg (nN 3 [])]) (by kernel_rfl) (by intro e; cases e) (an (an (ti tt) (an (an (dt h3163) tt) (an (an h3164 (an e3165 (ti (ti tt)))) (an (ti (ti (ti (an e3235 (ti tt))))) (an (ti (ti tt)) (an (Za (df h3231)) (an (ti (ti (ti tt))) tt))))))) (ti tt))
    ·have e3236 := (show Wh (kdV (.string ((a1.getD x38.toNat default).Mirror))) (flatMap (mpE vb) y1) = true /\ lkM (.string ((a1.getD x38.toNat default).Mirror)) (flatMap (mpE vb) y1) = none from ⟨(Xc vb ((a1.getD x38.toNat default).Mirror) y1), (Qgw vb ((a1.getD x38.toNat default).Mirror) y1 (Zk h3217))⟩)
     obtain ⟨r3237, h3238, h⟩ := bs h
     obtain ⟨r3239, h3240, h⟩ := bs h
     obtain ⟨r3241, h3242, h⟩ := bs h
     have e3243 := (Qp k (decide ((0 : Int) < 0)) 20 _ h3242)
     obtain ⟨r3244, h3245, h⟩ := bs h
     have e3246 := (VC.args (Qi k (r3215, r3237, r3239, r3241) _ h3245) (Qkr r3215 r3237 r3239 r3241))
     have e3247 := (ti (ti (an e3214 (an (Qp k r3212 4 _ h3216) (ti (ti (ti (an e3236 (ti (an (Qp k (!false) 5 _ h3238) (ti (an (Qp k false 6 _ h3240) (ti (ti (an e3243 (ti (an e3246 (ti tt))))))))))))))))))
     rcases ifs h with ⟨h3248, h⟩ | ⟨h3248, h⟩
     ·have e3249 := (show Wh (kdV (.string ((a1.getD x38.toNat default).Mirror))) (flatMap (mpE vb) y1) = true from (Xc vb ((a1.getD x38.toNat default).Mirror) y1))
      have e3250 := (show Wh (kdV (.string ((a1.getD x38.toNat default).Batch))) (flatMap (mpE vi) y0) = true from (Xc vi ((a1.getD x38.toNat default).Batch) y0))
      have e3251 := (an (an Try.func49 (an (ti (ti tt)) (an e3211 (an e3247 (an (an (ti (ti tt)) (an (dt h3248) (an (ti (ti (ti (an e3249 tt)))) (ti (ti (ti (ti (ti (an e3250 tt))))))))) (an (ti (ti tt)) tt)))))) (ti tt))
      have h2 := ih _ _ _ _ h
      obtain ⟨q, hv, hq⟩ := pkR (rd := none) (P := Try.prog) (fn := Try.f24) (k := 1) (s := (Z4 a0 a1 y0 y1 x38)) (ans := [.reg (.n :: []), .br true, .reg (.n :: .v (VV.ag (Qa (a1.getD x38.toNat default))) :: .n :: .n :: []), .reg (Qxx r3212 r3215 r3237 r3239 r3241 r3244), .reg (.n :: .n :: []), .br false, .reg (.n :: .n :: [])]) (c := ⟨[(7, none), (8, none), (36, none), (37, none), (38, none)], [some (flatMap (mpE vi) (mset y0 ((a1.getD x38.toNat default).Batch) (-1))), some (flatMap (mpE vb) (mset y1 ((a1.getD x38.toNat default).Mirror) true))], []⟩) (e := .normal) (s1 := (Z4 a0 a1 (mset y0 ((a1.getD x38.toNat default).Batch) (-1)) (mset y1 ((a1.getD x38.toNat default).Mirror) true) (w64 (x38 + 1)))) (an (an (ti tt) (an (an (dt h3163) tt) (an (an (an h3164 (an e3165 (ti (ti tt)))) (an (ti (ti (ti (an e3251 (ti tt))))) (an (ti (ti tt)) (an (Qm (dt h3248)) tt)))) (ti (ti tt))))) (ti (an (show upM (.string ((a1.getD x38.toNat default).Batch)) (vi (-1)) (flatMap (mpE vi) y0) = flatMap (mpE vi) (mset y0 ((a1.getD x38.toNat default).Batch) (-1)) from (by exact Qbf vi ((a1.getD x38.toNat default).Batch) (-1) y0)) (an (show upM (.string ((a1.getD x38.toNat default).Mirror)) (vb true) (flatMap (mpE vb) y1) = flatMap (mpE vb) (mset y1 ((a1.getD x38.toNat default).Mirror) true) from (by exact Qbf vb ((a1.getD x38.toNat default).Mirror) true y1)) tt)))) (by kernel_rfl)
      cases r with
      | inl r => exact Qz pm pn hv hq h2
      | inr r =>
       exact Qz pm pn hv hq h2
     ·have e3252 := (an (an Try.func49 (an (ti (ti tt)) (an e3211 (an e3247 (an (an (ti (ti tt)) (an (df h3248) tt)) (an (ti (ti tt)) tt)))))) (ti tt))
      injection h with h; subst h
      exact Q5 (c := ⟨[(4, none), (5, none)], [], []⟩) (s1 := (Jh a0 a1 r3244)) pm pn (ans := [.reg (.n :: []), .br true, .reg (.n :: .v (VV.ag (Qa (a1.getD x38.toNat default))) :: .n :: .n :: []), .reg (Qu4 r3212 r3215 r3237 r3239 r3241 r3244), .reg (.n :: .n :: []), .br true, .reg (nN 3 [])]) (by kernel_rfl) (by intro e; cases e) (an (an (ti tt) (an (an (dt h3163) tt) (an (an h3164 (an e3165 (ti (ti tt)))) (an (ti (ti (ti (an e3252 (ti tt))))) (an (ti (ti tt)) (an (Za (df h3248)) (an (ti (ti (ti tt))) tt))))))) (ti tt))
  ·injection h with h; subst h
   exact Q5 (c := ⟨[(7, none)], [none], []⟩) (s1 := (Qad a0 a1 y0)) pm pn (ans := [.reg (.n :: []), .br false]) (by kernel_rfl) (by intro e; cases e) (an (an (ti tt) (an (df h3163) tt)) (ti tt))
def Yr (k : Nat) (a0 : (List Qj)) (a1 : (List Qe)) : Option Int :=
 (Y4 k a0).bind fun r2961 => (if r2961 = 0 then (if 200 < (a1.length : Int) then (some 8) else ((Xk k a0 a1 k ([] : List (ByteArray × Int)) 0).bind fun r2981 => ((Zg k a0 a1 k r2981 ([] : List (ByteArray × Bool)) 0).bind fun r3254 => (match r3254 with | .inl r3255 => (some r3255) | .inr r3256 => (some 0))))) else (some r2961))
theorem Qeh (k : Nat) (a0 : (List Qj)) (a1 : (List Qe)) (r : Int) (h : Yr k a0 a1 = some r) : VC Try.prog 26 [VV.tr (flatMap Qc a0) a0.length, VV.tr (flatMap Qa a1) a1.length] (vi r) := by
 unfold Yr at h
 obtain ⟨r2961, h2962, h⟩ := bs h
 have e2963 := (ti (an (Qdg k a0 _ h2962) (ti tt)))
 rcases ifs h with ⟨h2964, h⟩ | ⟨h2964, h⟩
 ·rcases ifs h with ⟨h2965, h⟩ | ⟨h2965, h⟩
  ·have e2966 := (an (an Try.func24 (an (ti (ti tt)) (an (an e2963 (an (ti (ti tt)) (an (Qm (dt h2964)) tt))) (an (ti (ti (ti tt))) (an (dt h2965) (an (ti (ti tt)) tt)))))) (ti (ti tt)))
   have e2967 := (ti (ti (an e2966 (ti (ti (ti (ti (ti tt))))))))
   injection h with h; subst h
   exact Qw pm pn Try.func26 (r0 := vi 8) (ans := [.reg (.n :: []), .reg (Qu5 r2961), .reg (.n :: .n :: [])]) (fr := true) (by kernel_rfl) (an (an (ti tt) (an e2967 (an (ti (ti tt)) tt))) (ti tt)) (Wv.refl _)
  ·obtain ⟨r2981, h2980, h⟩ := bs h
   have hph2980 := Qem k a0 a1 _ _ _ _ h2980
   have e2982 := (an (ti (an (show [] = flatMap (mpE vi) ([] : List (ByteArray × Int)) from rfl) tt)) (VRun.loop hph2980))
   obtain ⟨r3254, h3253, h⟩ := bs h
   have hph3253 := Qen k a0 a1 _ _ _ _ _ h3253
   cases r3254 with
   | inl r3255 =>
    dsimp only at h
    have e3257 := (an (ti (an (show [] = flatMap (mpE vb) ([] : List (ByteArray × Bool)) from rfl) tt)) (VRun.loop hph3253))
    have e3258 := (an (an Try.func24 (an (ti (ti tt)) (an (an e2963 (an (ti (ti tt)) (an (Qm (dt h2964)) tt))) (an (an (ti (ti (ti tt))) (an (df h2965) tt)) (an (ti (ti (ti (ti tt)))) (an (an (ti (ti (ti tt))) e2982) (an (ti (ti (ti tt))) e3257))))))) (ti (ti tt)))
    have e3259 := (ti (ti (an e3258 (ti (ti (ti (ti (ti tt))))))))
    injection h with h; subst h
    exact Qw pm pn Try.func26 (r0 := vi r3255) (ans := [.reg (.n :: []), .reg (.n :: .n :: .inl (inlF Try.f24 [.reg (.n :: .n :: []), .reg (.n :: .call (vi r2961) :: .n :: []), .reg (.n :: .n :: []), .br false, .reg (nN 3 []), .br false, .reg (nN 4 []), .reg (nN 3 []), .sub ⟨[(1, none), (7, none), (8, none), (24, none), (25, none), (26, none)], [some (flatMap (mpE vi) ([] : List (ByteArray × Int))), none], []⟩ (.exit 0) (Ym a0 a1 r2981), .reg (nN 3 []), .sub ⟨[(7, none), (8, none), (36, none), (37, none), (38, none)], [none, some (flatMap (mpE vb) ([] : List (ByteArray × Bool)))], []⟩ .ret (Jh a0 a1 r3255)]) :: nN 5 []), .reg (.n :: .n :: [])]) (fr := true) (by kernel_rfl) (an (an (ti tt) (an e3259 (an (ti (ti tt)) tt))) (ti tt)) (Wv.refl _)
   | inr r3256 =>
    dsimp only at h
    have e3260 := (an (ti (an (show [] = flatMap (mpE vb) ([] : List (ByteArray × Bool)) from rfl) tt)) (VRun.loop hph3253))
    have e3261 := (an (an Try.func24 (an (ti (ti tt)) (an (an e2963 (an (ti (ti tt)) (an (Qm (dt h2964)) tt))) (an (an (ti (ti (ti tt))) (an (df h2965) tt)) (an (ti (ti (ti (ti tt)))) (an (an (ti (ti (ti tt))) e2982) (an (an (ti (ti (ti tt))) e3260) (an (ti (ti (ti tt))) tt)))))))) (ti (ti tt)))
    have e3262 := (ti (ti (an e3261 (ti (ti (ti (ti (ti tt))))))))
    injection h with h; subst h
    exact Qw pm pn Try.func26 (r0 := vi 0) (ans := [.reg (.n :: []), .reg (.n :: .n :: .inl (inlF Try.f24 [.reg (.n :: .n :: []), .reg (.n :: .call (vi r2961) :: .n :: []), .reg (.n :: .n :: []), .br false, .reg (nN 3 []), .br false, .reg (nN 4 []), .reg (nN 3 []), .sub ⟨[(1, none), (7, none), (8, none), (24, none), (25, none), (26, none)], [some (flatMap (mpE vi) ([] : List (ByteArray × Int))), none], []⟩ (.exit 0) (Ym a0 a1 r2981), .reg (nN 3 []), .sub ⟨[(7, none), (8, none), (36, none), (37, none), (38, none)], [none, some (flatMap (mpE vb) ([] : List (ByteArray × Bool)))], []⟩ (.exit 2) (Qad a0 a1 r3256), .reg (nN 3 [])]) :: nN 5 []), .reg (.n :: .n :: [])]) (fr := true) (by kernel_rfl) (an (an (ti tt) (an e3262 (an (ti (ti tt)) tt))) (ti tt)) (Wv.refl _)
 ·have e3263 := (an (an Try.func24 (an (ti (ti tt)) (an e2963 (an (ti (ti tt)) (an (Za (df h2964)) (an (ti (ti (ti tt))) tt)))))) (ti (ti tt)))
  have e3264 := (ti (ti (an e3263 (ti (ti (ti (ti (ti tt))))))))
  injection h with h; subst h
  exact Qw pm pn Try.func26 (r0 := vi r2961) (ans := [.reg (.n :: []), .reg (Qu6 r2961), .reg (.n :: .n :: [])]) (fr := true) (by kernel_rfl) (an (an (ti tt) (an e3264 (an (ti (ti tt)) tt))) (ti tt)) (Wv.refl _)
end Go.Proofs.Ytmaegladkjcmdaa.Vg

import Derived.Test.YtodiglefoobjkaaS2
namespace Go.Proofs.Ytodiglefoobjkaa.Vg
set_option maxRecDepth 100000
set_option maxHeartbeats 4000000
set_option linter.unusedVariables false
set_option linter.unusedSimpArgs false
open Go Go.Proofs.Ytodiglefoobjkaa.Ev Go.Proofs.Ytodiglefoobjkaa.Vv
open List (flatMap length_cons length_nil length_map length_append map_cons map_nil length_replicate)
structure A24 where
 e0 : Int
 e1 : Int
 deriving Inhabited
def c_A24 (x : A24) : List VV := [vi x.e0, vi x.e1]
theorem eqS3_0 (z0 : (Bool × Int)) (z1 : (Bool × Int)) (z2 : (Bool × Int)) (z3 : (Bool × Int)) : [VV.tr ([VV.fn 45 [VV.tp [vb (((z0, z1, z2, z3).1).1)] 0, VV.tp [vi (((z0, z1, z2, z3).1).2)] 0], VV.fn 45 [VV.tp [vb (((z0, z1, z2, z3).2.1).1)] 0, VV.tp [vi (((z0, z1, z2, z3).2.1).2)] 0], VV.fn 45 [VV.tp [vb (((z0, z1, z2, z3).2.2.1).1)] 0, VV.tp [vi (((z0, z1, z2, z3).2.2.1).2)] 0], VV.fn 45 [VV.tp [vb (((z0, z1, z2, z3).2.2.2).1)] 0, VV.tp [vi (((z0, z1, z2, z3).2.2.2).2)] 0]]) 4] = [VV.tr (List.drop 0 (List.map unfr [VV.fn 45 [VV.tp [vb z0.1] 0, VV.tp [vi z0.2] 0], VV.fn 45 [VV.tp [vb z1.1] 0, VV.tp [vi z1.2] 0], VV.fn 45 [VV.tp [vb z2.1] 0, VV.tp [vi z2.2] 0], VV.fn 45 [VV.tp [vb z3.1] 0, VV.tp [vi z3.2] 0]])) 4] := by first | rfl | (simp only [drop0, unfr_vi, unfr_vb, map_cons, map_nil, un_i, un_b, un_tr]; done) | (simp only [drop0, unfr_vi, unfr_vb, map_cons, map_nil, un_i, un_b, un_tr]; rfl) | (simp only [drop0, unfr_vi, unfr_vb, map_cons, map_nil, un_i, un_b, un_tr, length_cons, length_nil, length_append]; done)
def arS3_1 (z0 : Bool) (z1 : (Bool × Int)) (z2 : (Bool × Int)) (z3 : (Bool × Int)) (z4 : (Bool × Int)) (z5 : Int) : List Ans := (.n :: .n :: .call (vb z0) :: .call (VV.fn 45 [VV.tp [vb z1.1] 0, VV.tp [vi z1.2] 0]) :: nN 3 (.b false :: .n :: .call (VV.fn 45 [VV.tp [vb z2.1] 0, VV.tp [vi z2.2] 0]) :: .n :: .call (VV.fn 45 [VV.tp [vb z3.1] 0, VV.tp [vi z3.2] 0]) :: .n :: .n :: .call (VV.fn 45 [VV.tp [vb z4.1] 0, VV.tp [vi z4.2] 0]) :: .n :: .call (vi z5) :: .n :: []))
def arS3_2 (z0 : Bool) (z1 : (Bool × Int)) (z2 : List (ByteArray × Bool)) (z3 : (List SGlassPromise)) (z4 : Int) (z5 : (Bool × Int)) (z6 : (Bool × Int)) (z7 : (Bool × Int)) (z8 : Int) : List Ans := (.n :: .n :: .call (vb z0) :: .call (VV.fn 45 [VV.tp [vb z1.1] 0, VV.tp [vi z1.2] 0]) :: nN 3 (.v (vb (mget z2 ((z3.getD z4.toNat default).Mirror))) :: .n :: .call (VV.fn 45 [VV.tp [vb z5.1] 0, VV.tp [vi z5.2] 0]) :: .n :: .call (VV.fn 45 [VV.tp [vb z6.1] 0, VV.tp [vi z6.2] 0]) :: .n :: .n :: .call (VV.fn 45 [VV.tp [vb z7.1] 0, VV.tp [vi z7.2] 0]) :: .n :: .call (vi z8) :: .n :: []))
noncomputable def arS3_3 (z0 : List (ByteArray × Int)) (z1 : (List SGlassPromise)) (z2 : Int) (z3 : Bool) (z4 : (Bool × Int)) (z5 : List (ByteArray × Bool)) (z6 : (Bool × Int)) (z7 : (Bool × Int)) (z8 : (Bool × Int)) (z9 : Int) : List Ans := (nN 3 (.inl (inlF Try.f42 [.reg (.n :: .n :: []), .reg (nN 3 (.v (vi (mget z0 ((z1.getD z2.toNat default).Batch))) :: nN 5 [])), .reg (arS3_2 z3 z4 z5 z1 z2 z6 z7 z8 z9), .reg (.n :: .n :: []), .br true, .reg (nN 4 []), .reg (nN 6 []), .reg (.n :: .n :: [])]) :: .n :: []))
noncomputable def arS3_4 (z0 : List (ByteArray × Int)) (z1 : (List SGlassPromise)) (z2 : Int) (z3 : Bool) (z4 : (Bool × Int)) (z5 : List (ByteArray × Bool)) (z6 : (Bool × Int)) (z7 : (Bool × Int)) (z8 : (Bool × Int)) (z9 : Int) : List Ans := (nN 3 (.inl (inlF Try.f42 [.reg (.n :: .n :: []), .reg (nN 3 (.v (vi (mget z0 ((z1.getD z2.toNat default).Batch))) :: nN 5 [])), .reg (arS3_2 z3 z4 z5 z1 z2 z6 z7 z8 z9), .reg (.n :: .n :: []), .br false, .reg (.n :: .n :: [])]) :: .n :: []))
noncomputable def arS3_5 (z0 : List (ByteArray × Int)) (z1 : (List SGlassPromise)) (z2 : Int) (z3 : Bool) (z4 : (Bool × Int)) (z5 : (Bool × Int)) (z6 : (Bool × Int)) (z7 : (Bool × Int)) (z8 : Int) : List Ans := (nN 3 (.inl (inlF Try.f42 [.reg (.n :: .n :: []), .reg (nN 3 (.v (vi (mget z0 ((z1.getD z2.toNat default).Batch))) :: nN 5 [])), .reg (arS3_1 z3 z4 z5 z6 z7 z8), .reg (.n :: .n :: []), .br true, .reg (nN 4 []), .reg (nN 6 []), .reg (.n :: .n :: [])]) :: .n :: []))
noncomputable def arS3_6 (z0 : List (ByteArray × Int)) (z1 : (List SGlassPromise)) (z2 : Int) (z3 : Bool) (z4 : (Bool × Int)) (z5 : (Bool × Int)) (z6 : (Bool × Int)) (z7 : (Bool × Int)) (z8 : Int) : List Ans := (nN 3 (.inl (inlF Try.f42 [.reg (.n :: .n :: []), .reg (nN 3 (.v (vi (mget z0 ((z1.getD z2.toNat default).Batch))) :: nN 5 [])), .reg (arS3_1 z3 z4 z5 z6 z7 z8), .reg (.n :: .n :: []), .br false, .reg (.n :: .n :: [])]) :: .n :: []))
noncomputable def arS3_7 (z0 : Bool) (z1 : (Bool × Int)) (z2 : List (ByteArray × Bool)) (z3 : (List SGlassPromise)) (z4 : Int) (z5 : (Bool × Int)) (z6 : (Bool × Int)) (z7 : (Bool × Int)) (z8 : Int) : List Ans := (nN 3 (.inl (inlF Try.f42 [.reg (.n :: .n :: []), .reg (nN 3 (.b false :: nN 5 [])), .reg (arS3_2 z0 z1 z2 z3 z4 z5 z6 z7 z8), .reg (.n :: .n :: []), .br true, .reg (nN 4 []), .reg (nN 6 []), .reg (.n :: .n :: [])]) :: .n :: []))
noncomputable def arS3_8 (z0 : Bool) (z1 : (Bool × Int)) (z2 : List (ByteArray × Bool)) (z3 : (List SGlassPromise)) (z4 : Int) (z5 : (Bool × Int)) (z6 : (Bool × Int)) (z7 : (Bool × Int)) (z8 : Int) : List Ans := (nN 3 (.inl (inlF Try.f42 [.reg (.n :: .n :: []), .reg (nN 3 (.b false :: nN 5 [])), .reg (arS3_2 z0 z1 z2 z3 z4 z5 z6 z7 z8), .reg (.n :: .n :: []), .br false, .reg (.n :: .n :: [])]) :: .n :: []))
noncomputable def arS3_9 (z0 : Bool) (z1 : (Bool × Int)) (z2 : (Bool × Int)) (z3 : (Bool × Int)) (z4 : (Bool × Int)) (z5 : Int) : List Ans := (nN 3 (.inl (inlF Try.f42 [.reg (.n :: .n :: []), .reg (nN 3 (.b false :: nN 5 [])), .reg (arS3_1 z0 z1 z2 z3 z4 z5), .reg (.n :: .n :: []), .br true, .reg (nN 4 []), .reg (nN 6 []), .reg (.n :: .n :: [])]) :: .n :: []))
noncomputable def arS3_10 (z0 : Bool) (z1 : (Bool × Int)) (z2 : (Bool × Int)) (z3 : (Bool × Int)) (z4 : (Bool × Int)) (z5 : Int) : List Ans := (nN 3 (.inl (inlF Try.f42 [.reg (.n :: .n :: []), .reg (nN 3 (.b false :: nN 5 [])), .reg (arS3_1 z0 z1 z2 z3 z4 z5), .reg (.n :: .n :: []), .br false, .reg (.n :: .n :: [])]) :: .n :: []))
def arS3_11 (z0 : (List (ByteArray × Int))) (z1 : (List SGlassBatch)) (z2 : Int) : List Ans := (nN 3 (.v (vi (mget z0 ((z1.getD z2.toNat default).Name))) :: .n :: .n :: nS 5 (.b true :: .n :: nS 5 (.b true :: []))))
def arS3_12 (z0 : (List (ByteArray × Int))) (z1 : (List SGlassBatch)) (z2 : Int) : List Ans := (nN 3 (.v (vi (mget z0 ((z1.getD z2.toNat default).Name))) :: nN 7 (.b false :: .n :: nS 5 (.b true :: []))))
def arS3_13 (z0 : (List (ByteArray × Int))) (z1 : (List SGlassBatch)) (z2 : Int) : List Ans := (nN 3 (.v (vi (mget z0 ((z1.getD z2.toNat default).Name))) :: nN 7 (.b false :: nN 6 (.b false :: []))))
noncomputable def arS3_14 (z0 : Int) : List Ans := (.n :: .n :: .inl (inlF Try.f22 [.reg (.n :: .n :: []), .reg (.n :: .call (vi z0) :: .n :: []), .reg (.n :: .n :: []), .br false, .reg (nN 3 []), .br true, .reg (.n :: .n :: [])]) :: nN 5 [])
def nblank_FirstBatch_i22_l0_0_h (a0 : (List SGlassBatch)) (a1 : (List SGlassPromise)) (a2 : A24) (y1 : List (ByteArray × Int)) (x26 : Int) : VS := ⟨mkA [(1, VV.tr (flatMap c_SGlassPromise a1) a1.length), (7, VV.mp 1), (8, VV.mp 2), (24, VV.tr (flatMap c_SGlassBatch a0) a0.length), (25, vi (a0.length : Int)), (26, vi x26)], [some ⟨true, 1, c_A24 a2⟩, some ⟨true, bigX + 1, flatMap (mpE vi) y1⟩, some ⟨true, bigX + 1, []⟩], (.node none (mkA [(0, VV.tr (flatMap c_SGlassBatch a0) a0.length), (1, VV.tr (flatMap c_SGlassPromise a1) a1.length), (2, VV.ag (c_A24 a2)), (5, VV.pt 0 0), (6, vs (⟨#[]⟩ : ByteArray)), (7, vi 0), (16, VV.tr (flatMap c_SGlassBatch a0) a0.length), (17, VV.tr (flatMap c_SGlassPromise a1) a1.length)]) .nil)⟩
def nblank_FirstBatch_i22_l0_0_e0 (a0 : (List SGlassBatch)) (a1 : (List SGlassPromise)) (a2 : A24) (r : (List (ByteArray × Int))) : VS := ⟨mkA [(1, VV.tr (flatMap c_SGlassPromise a1) a1.length), (7, VV.mp 1), (8, VV.mp 2)], [some ⟨true, 1, c_A24 a2⟩, some ⟨true, bigX + 1, flatMap (mpE vi) r⟩, some ⟨true, bigX + 1, []⟩], (.node none (mkA [(0, VV.tr (flatMap c_SGlassBatch a0) a0.length), (1, VV.tr (flatMap c_SGlassPromise a1) a1.length), (2, VV.ag (c_A24 a2)), (5, VV.pt 0 0), (6, vs (⟨#[]⟩ : ByteArray)), (7, vi 0), (16, VV.tr (flatMap c_SGlassBatch a0) a0.length), (17, VV.tr (flatMap c_SGlassPromise a1) a1.length)]) .nil)⟩
def nblank_FirstBatch_i22_l0_0 (k : Nat) (a0 : (List SGlassBatch)) (a1 : (List SGlassPromise)) (a2 : A24) : Nat -> (List (ByteArray × Int)) -> Int -> Option ((List (ByteArray × Int)))
 | 0, _, _ => none
 | fuel + 1, y1, x26 => if x26 < (a0.length : Int) then (if 0 <= x26 /\ x26 < (a0.length : Int) then (nblank_FirstBatch_i22_l0_0 k a0 a1 a2 fuel (mset y1 ((a0.getD x26.toNat default).Name) ((a0.getD x26.toNat default).Count)) (w64 (x26 + 1))) else none) else (some y1)
theorem nblank_FirstBatch_i22_l0_0_ok (k : Nat) (a0 : (List SGlassBatch)) (a1 : (List SGlassPromise)) (a2 : A24) : ∀ (fuel : Nat) (y1 : List (ByteArray × Int)) (x26 : Int) (r : (List (ByteArray × Int))), nblank_FirstBatch_i22_l0_0 k a0 a1 a2 fuel y1 x26 = some r -> (VLoop none Try.prog (szF Try.f22) (bodyOf Try.f22 0) (nblank_FirstBatch_i22_l0_0_h a0 a1 a2 y1 x26) (.exit 0) (nblank_FirstBatch_i22_l0_0_e0 a0 a1 a2 r)) := by
 intro fuel
 induction fuel with
 | zero => intro y1 x26 r h; rw [nblank_FirstBatch_i22_l0_0.eq_1] at h; cases h
 | succ fuel ih =>
  intro y1 x26 r h
  rw [nblank_FirstBatch_i22_l0_0.eq_2] at h
  rcases ifs h with ⟨h3374, h⟩ | ⟨h3374, h⟩
  ·obtain ⟨h3375, h⟩ := ifn h
   have e3376 := (show loadL Try.prog 44 (x26.toNat * 4) (flatMap c_SGlassBatch a0) = some (VV.ag (c_SGlassBatch (a0.getD x26.toNat default))) from ld_whole ag44 c_SGlassBatch 4 sz44 len_c_SGlassBatch a0 default h3375 (by omega))
   have e3377 := (show keysM (kdV (.string ((a0.getD x26.toNat default).Name))) (flatMap (mpE vi) y1) = true from (keysM_mp vi ((a0.getD x26.toNat default).Name) y1))
   have h2 := ih _ _ _ h
   obtain ⟨q, hv, hq⟩ := pkR (rd := none) (P := Try.prog) (fn := Try.f22) (k := 0) (s := (nblank_FirstBatch_i22_l0_0_h a0 a1 a2 y1 x26)) (ans := [.reg (.n :: []), .br true, .reg (.n :: .v (VV.ag (c_SGlassBatch (a0.getD x26.toNat default))) :: .n :: .n :: []), .reg (nN 6 []), .reg (.n :: .n :: [])]) (c := ⟨[(1, none), (7, none), (8, none), (24, none), (25, none), (26, none)], [none, some (flatMap (mpE vi) (mset y1 ((a0.getD x26.toNat default).Name) ((a0.getD x26.toNat default).Count))), none], []⟩) (e := .normal) (s1 := (nblank_FirstBatch_i22_l0_0_h a0 a1 a2 (mset y1 ((a0.getD x26.toNat default).Name) ((a0.getD x26.toNat default).Count)) (w64 (x26 + 1)))) (an (an (ti trivial) (an (an (decide_eq_true h3374) trivial) (an (an (an h3375 (an e3376 (ti (ti trivial)))) (ti (ti (ti (ti (ti (an e3377 trivial))))))) (ti (ti trivial))))) (ti (an (show upM (.string ((a0.getD x26.toNat default).Name)) (vi ((a0.getD x26.toNat default).Count)) (flatMap (mpE vi) y1) = flatMap (mpE vi) (mset y1 ((a0.getD x26.toNat default).Name) ((a0.getD x26.toNat default).Count)) from (by exact upM_mp vi ((a0.getD x26.toNat default).Name) ((a0.getD x26.toNat default).Count) y1)) trivial))) (by kernel_rfl)
   exact round_next pm pn hv hq h2
  ·injection h with h; subst h
   exact round_stop (c := ⟨[(1, none), (7, none), (8, none)], [none, none, none], []⟩) (s1 := (nblank_FirstBatch_i22_l0_0_e0 a0 a1 a2 y1)) pm pn (ans := [.reg (.n :: []), .br false]) (by kernel_rfl) (by intro e; cases e) (an (an (ti trivial) (an (decide_eq_false h3374) trivial)) (ti trivial))
def nblank_FirstBatch_i22_l1_0_h (a0 : (List SGlassBatch)) (a1 : (List SGlassPromise)) (a2 : A24) (y1 : List (ByteArray × Int)) (y2 : List (ByteArray × Bool)) (x38 : Int) : VS := ⟨mkA [(7, VV.mp 1), (8, VV.mp 2), (36, VV.tr (flatMap c_SGlassPromise a1) a1.length), (37, vi (a1.length : Int)), (38, vi x38)], [some ⟨true, 1, c_A24 a2⟩, some ⟨true, bigX + 1, flatMap (mpE vi) y1⟩, some ⟨true, bigX + 1, flatMap (mpE vb) y2⟩], (.node none (mkA [(0, VV.tr (flatMap c_SGlassBatch a0) a0.length), (1, VV.tr (flatMap c_SGlassPromise a1) a1.length), (2, VV.ag (c_A24 a2)), (5, VV.pt 0 0), (6, vs (⟨#[]⟩ : ByteArray)), (7, vi 0), (16, VV.tr (flatMap c_SGlassBatch a0) a0.length), (17, VV.tr (flatMap c_SGlassPromise a1) a1.length)]) .nil)⟩
def nblank_FirstBatch_i22_l1_0_e0 (a0 : (List SGlassBatch)) (a1 : (List SGlassPromise)) (a2 : A24) (r : Int) : VS := ⟨mkA [(4, VV.c (.map none)), (5, vi r)], [some ⟨true, 1, c_A24 a2⟩], (.node none (mkA [(0, VV.tr (flatMap c_SGlassBatch a0) a0.length), (1, VV.tr (flatMap c_SGlassPromise a1) a1.length), (2, VV.ag (c_A24 a2)), (5, VV.pt 0 0), (6, vs (⟨#[]⟩ : ByteArray)), (7, vi 0), (16, VV.tr (flatMap c_SGlassBatch a0) a0.length), (17, VV.tr (flatMap c_SGlassPromise a1) a1.length)]) .nil)⟩
def nblank_FirstBatch_i22_l1_0_e1 (a0 : (List SGlassBatch)) (a1 : (List SGlassPromise)) (a2 : A24) (r : (List (ByteArray × Int))) : VS := ⟨mkA [(7, VV.mp 1)], [some ⟨true, 1, c_A24 a2⟩, some ⟨true, bigX + 1, flatMap (mpE vi) r⟩], (.node none (mkA [(0, VV.tr (flatMap c_SGlassBatch a0) a0.length), (1, VV.tr (flatMap c_SGlassPromise a1) a1.length), (2, VV.ag (c_A24 a2)), (5, VV.pt 0 0), (6, vs (⟨#[]⟩ : ByteArray)), (7, vi 0), (16, VV.tr (flatMap c_SGlassBatch a0) a0.length), (17, VV.tr (flatMap c_SGlassPromise a1) a1.length)]) .nil)⟩
def nblank_FirstBatch_i22_l1_0 (k : Nat) (a0 : (List SGlassBatch)) (a1 : (List SGlassPromise)) (a2 : A24) : Nat -> (List (ByteArray × Int)) -> (List (ByteArray × Bool)) -> Int -> Option (Sum Int (List (ByteArray × Int)))
 | 0, _, _, _ => none
 | fuel + 1, y1, y2, x38 => if x38 < (a1.length : Int) then (if 0 <= x38 /\ x38 < (a1.length : Int) then (if mhas y1 ((a1.getD x38.toNat default).Batch) = true then ((nblank_isName k ((a1.getD x38.toNat default).Mirror)).bind fun r3567 => ((nblank_need k r3567 4).bind fun r3570 => (if mhas y2 ((a1.getD x38.toNat default).Mirror) = true then ((nblank_need k (!(mget y2 ((a1.getD x38.toNat default).Mirror))) 5).bind fun r3574 => ((nblank_need k true 6).bind fun r3577 => ((nblank_need k (decide (0 < (mget y1 ((a1.getD x38.toNat default).Batch)))) 20).bind fun r3579 => ((nblank_firstOf_c0_Lblank_need_1_blank_need_1_blank_need_1_blank_need_1 k (r3570, r3574, r3577, r3579)).bind fun r3582 => (if r3582 = 0 then (nblank_FirstBatch_i22_l1_0 k a0 a1 a2 fuel (mset y1 ((a1.getD x38.toNat default).Batch) (w64 ((mget y1 ((a1.getD x38.toNat default).Batch)) - 1))) (mset y2 ((a1.getD x38.toNat default).Mirror) true) (w64 (x38 + 1))) else (some (.inl r3582))))))) else ((nblank_need k (!false) 5).bind fun r3592 => ((nblank_need k true 6).bind fun r3594 => ((nblank_need k (decide (0 < (mget y1 ((a1.getD x38.toNat default).Batch)))) 20).bind fun r3596 => ((nblank_firstOf_c0_Lblank_need_1_blank_need_1_blank_need_1_blank_need_1 k (r3570, r3592, r3594, r3596)).bind fun r3599 => (if r3599 = 0 then (nblank_FirstBatch_i22_l1_0 k a0 a1 a2 fuel (mset y1 ((a1.getD x38.toNat default).Batch) (w64 ((mget y1 ((a1.getD x38.toNat default).Batch)) - 1))) (mset y2 ((a1.getD x38.toNat default).Mirror) true) (w64 (x38 + 1))) else (some (.inl r3599)))))))))) else ((nblank_isName k ((a1.getD x38.toNat default).Mirror)).bind fun r3610 => ((nblank_need k r3610 4).bind fun r3613 => (if mhas y2 ((a1.getD x38.toNat default).Mirror) = true then ((nblank_need k (!(mget y2 ((a1.getD x38.toNat default).Mirror))) 5).bind fun r3617 => ((nblank_need k false 6).bind fun r3620 => ((nblank_need k (decide ((0 : Int) < 0)) 20).bind fun r3622 => ((nblank_firstOf_c0_Lblank_need_1_blank_need_1_blank_need_1_blank_need_1 k (r3613, r3617, r3620, r3622)).bind fun r3625 => (if r3625 = 0 then (nblank_FirstBatch_i22_l1_0 k a0 a1 a2 fuel (mset y1 ((a1.getD x38.toNat default).Batch) (-1)) (mset y2 ((a1.getD x38.toNat default).Mirror) true) (w64 (x38 + 1))) else (some (.inl r3625))))))) else ((nblank_need k (!false) 5).bind fun r3635 => ((nblank_need k false 6).bind fun r3637 => ((nblank_need k (decide ((0 : Int) < 0)) 20).bind fun r3639 => ((nblank_firstOf_c0_Lblank_need_1_blank_need_1_blank_need_1_blank_need_1 k (r3613, r3635, r3637, r3639)).bind fun r3642 => (if r3642 = 0 then (nblank_FirstBatch_i22_l1_0 k a0 a1 a2 fuel (mset y1 ((a1.getD x38.toNat default).Batch) (-1)) (mset y2 ((a1.getD x38.toNat default).Mirror) true) (w64 (x38 + 1))) else (some (.inl r3642))))))))))) else none) else (some (.inr y1))
theorem nblank_FirstBatch_i22_l1_0_ok (k : Nat) (a0 : (List SGlassBatch)) (a1 : (List SGlassPromise)) (a2 : A24) : ∀ (fuel : Nat) (y1 : List (ByteArray × Int)) (y2 : List (ByteArray × Bool)) (x38 : Int) (r : Sum Int (List (ByteArray × Int))), nblank_FirstBatch_i22_l1_0 k a0 a1 a2 fuel y1 y2 x38 = some r -> (match r with | .inl r => VLoop none Try.prog (szF Try.f22) (bodyOf Try.f22 1) (nblank_FirstBatch_i22_l1_0_h a0 a1 a2 y1 y2 x38) .ret (nblank_FirstBatch_i22_l1_0_e0 a0 a1 a2 r) | .inr r => VLoop none Try.prog (szF Try.f22) (bodyOf Try.f22 1) (nblank_FirstBatch_i22_l1_0_h a0 a1 a2 y1 y2 x38) (.exit 2) (nblank_FirstBatch_i22_l1_0_e1 a0 a1 a2 r)) := by
 intro fuel
 induction fuel with
 | zero => intro y1 y2 x38 r h; rw [nblank_FirstBatch_i22_l1_0.eq_1] at h; cases h
 | succ fuel ih =>
  intro y1 y2 x38 r h
  rw [nblank_FirstBatch_i22_l1_0.eq_2] at h
  rcases ifs h with ⟨h3561, h⟩ | ⟨h3561, h⟩
  ·obtain ⟨h3562, h⟩ := ifn h
   have e3563 := (show loadL Try.prog 67 (x38.toNat * 2) (flatMap c_SGlassPromise a1) = some (VV.ag (c_SGlassPromise (a1.getD x38.toNat default))) from ld_whole ag67 c_SGlassPromise 2 sz67 len_c_SGlassPromise a1 default h3562 (by omega))
   rcases ifs h with ⟨h3564, h⟩ | ⟨h3564, h⟩
   ·have e3565 := (show keysM (kdV (.string ((a1.getD x38.toNat default).Batch))) (flatMap (mpE vi) y1) = true /\ lkM (.string ((a1.getD x38.toNat default).Batch)) (flatMap (mpE vi) y1) = some (vi (mget y1 ((a1.getD x38.toNat default).Batch))) from ⟨(keysM_mp vi ((a1.getD x38.toNat default).Batch) y1), (lkM_has vi ((a1.getD x38.toNat default).Batch) y1 h3564)⟩)
    have e3566 := (ti (ti (ti (an e3565 (ti (ti (ti (ti (ti trivial)))))))))
    obtain ⟨r3567, h3568, h⟩ := bs h
    have e3569 := (nblank_isName_ok k ((a1.getD x38.toNat default).Mirror) _ h3568)
    obtain ⟨r3570, h3571, h⟩ := bs h
    rcases ifs h with ⟨h3572, h⟩ | ⟨h3572, h⟩
    ·have e3573 := (show keysM (kdV (.string ((a1.getD x38.toNat default).Mirror))) (flatMap (mpE vb) y2) = true /\ lkM (.string ((a1.getD x38.toNat default).Mirror)) (flatMap (mpE vb) y2) = some (vb (mget y2 ((a1.getD x38.toNat default).Mirror))) from ⟨(keysM_mp vb ((a1.getD x38.toNat default).Mirror) y2), (lkM_has vb ((a1.getD x38.toNat default).Mirror) y2 h3572)⟩)
     obtain ⟨r3574, h3575, h⟩ := bs h
     have e3576 := (nblank_need_ok k (!(mget y2 ((a1.getD x38.toNat default).Mirror))) 5 _ h3575)
     obtain ⟨r3577, h3578, h⟩ := bs h
     obtain ⟨r3579, h3580, h⟩ := bs h
     have e3581 := (nblank_need_ok k (decide (0 < (mget y1 ((a1.getD x38.toNat default).Batch)))) 20 _ h3580)
     obtain ⟨r3582, h3583, h⟩ := bs h
     have e3584 := (VC.args (nblank_firstOf_c0_Lblank_need_1_blank_need_1_blank_need_1_blank_need_1_ok k (r3570, r3574, r3577, r3579) _ h3583) (eqS3_0 r3570 r3574 r3577 r3579))
     have e3585 := (ti (ti (an e3569 (an (nblank_need_ok k r3567 4 _ h3571) (ti (ti (ti (an e3573 (ti (an e3576 (ti (an (nblank_need_ok k true 6 _ h3578) (ti (ti (an e3581 (ti (an e3584 (ti trivial))))))))))))))))))
     rcases ifs h with ⟨h3586, h⟩ | ⟨h3586, h⟩
     ·have e3587 := (show keysM (kdV (.string ((a1.getD x38.toNat default).Mirror))) (flatMap (mpE vb) y2) = true from (keysM_mp vb ((a1.getD x38.toNat default).Mirror) y2))
      have e3588 := (show keysM (kdV (.string ((a1.getD x38.toNat default).Batch))) (flatMap (mpE vi) y1) = true from (keysM_mp vi ((a1.getD x38.toNat default).Batch) y1))
      have e3589 := (an (an Try.func42 (an (ti (ti trivial)) (an e3566 (an e3585 (an (an (ti (ti trivial)) (an (decide_eq_true h3586) (an (ti (ti (ti (an e3587 trivial)))) (ti (ti (ti (ti (ti (an e3588 trivial))))))))) (an (ti (ti trivial)) trivial)))))) (ti trivial))
      have h2 := ih _ _ _ _ h
      obtain ⟨q, hv, hq⟩ := pkR (rd := none) (P := Try.prog) (fn := Try.f22) (k := 1) (s := (nblank_FirstBatch_i22_l1_0_h a0 a1 a2 y1 y2 x38)) (ans := [.reg (.n :: []), .br true, .reg (.n :: .v (VV.ag (c_SGlassPromise (a1.getD x38.toNat default))) :: .n :: .n :: []), .reg (arS3_3 y1 a1 x38 r3567 r3570 y2 r3574 r3577 r3579 r3582), .reg (.n :: .n :: []), .br false, .reg (.n :: .n :: [])]) (c := ⟨[(7, none), (8, none), (36, none), (37, none), (38, none)], [none, some (flatMap (mpE vi) (mset y1 ((a1.getD x38.toNat default).Batch) (w64 ((mget y1 ((a1.getD x38.toNat default).Batch)) - 1)))), some (flatMap (mpE vb) (mset y2 ((a1.getD x38.toNat default).Mirror) true))], []⟩) (e := .normal) (s1 := (nblank_FirstBatch_i22_l1_0_h a0 a1 a2 (mset y1 ((a1.getD x38.toNat default).Batch) (w64 ((mget y1 ((a1.getD x38.toNat default).Batch)) - 1))) (mset y2 ((a1.getD x38.toNat default).Mirror) true) (w64 (x38 + 1)))) (an (an (ti trivial) (an (an (decide_eq_true h3561) trivial) (an (an (an h3562 (an e3563 (ti (ti trivial)))) (an (ti (ti (ti (an e3589 (ti trivial))))) (an (ti (ti trivial)) (an (not_f (decide_eq_true h3586)) trivial)))) (ti (ti trivial))))) (ti (an (show upM (.string ((a1.getD x38.toNat default).Batch)) (vi (w64 ((mget y1 ((a1.getD x38.toNat default).Batch)) - 1))) (flatMap (mpE vi) y1) = flatMap (mpE vi) (mset y1 ((a1.getD x38.toNat default).Batch) (w64 ((mget y1 ((a1.getD x38.toNat default).Batch)) - 1))) from (by exact upM_mp vi ((a1.getD x38.toNat default).Batch) (w64 ((mget y1 ((a1.getD x38.toNat default).Batch)) - 1)) y1)) (an (show upM (.string ((a1.getD x38.toNat default).Mirror)) (vb true) (flatMap (mpE vb) y2) = flatMap (mpE vb) (mset y2 ((a1.getD x38.toNat default).Mirror) true) from (by exact upM_mp vb ((a1.getD x38.toNat default).Mirror) true y2)) trivial)))) (by kernel_rfl)
      cases r with
      | inl r => exact round_next pm pn hv hq h2
      | inr r =>
       exact round_next pm pn hv hq h2
     ·have e3590 := (an (an Try.func42 (an (ti (ti trivial)) (an e3566 (an e3585 (an (an (ti (ti trivial)) (an (decide_eq_false h3586) trivial)) (an (ti (ti trivial)) trivial)))))) (ti trivial))
      injection h with h; subst h
      exact round_stop (c := ⟨[(4, none), (5, none)], [none], []⟩) (s1 := (nblank_FirstBatch_i22_l1_0_e0 a0 a1 a2 r3582)) pm pn (ans := [.reg (.n :: []), .br true, .reg (.n :: .v (VV.ag (c_SGlassPromise (a1.getD x38.toNat default))) :: .n :: .n :: []), .reg (arS3_4 y1 a1 x38 r3567 r3570 y2 r3574 r3577 r3579 r3582), .reg (.n :: .n :: []), .br true, .reg (nN 3 [])]) (by kernel_rfl) (by intro e; cases e) (an (an (ti trivial) (an (an (decide_eq_true h3561) trivial) (an (an h3562 (an e3563 (ti (ti trivial)))) (an (ti (ti (ti (an e3590 (ti trivial))))) (an (ti (ti trivial)) (an (not_t (decide_eq_false h3586)) (an (ti (ti (ti trivial))) trivial))))))) (ti trivial))
    ·have e3591 := (show keysM (kdV (.string ((a1.getD x38.toNat default).Mirror))) (flatMap (mpE vb) y2) = true /\ lkM (.string ((a1.getD x38.toNat default).Mirror)) (flatMap (mpE vb) y2) = none from ⟨(keysM_mp vb ((a1.getD x38.toNat default).Mirror) y2), (lkM_no vb ((a1.getD x38.toNat default).Mirror) y2 (bool_f h3572))⟩)
     obtain ⟨r3592, h3593, h⟩ := bs h
     obtain ⟨r3594, h3595, h⟩ := bs h
     obtain ⟨r3596, h3597, h⟩ := bs h
     have e3598 := (nblank_need_ok k (decide (0 < (mget y1 ((a1.getD x38.toNat default).Batch)))) 20 _ h3597)
     obtain ⟨r3599, h3600, h⟩ := bs h
     have e3601 := (VC.args (nblank_firstOf_c0_Lblank_need_1_blank_need_1_blank_need_1_blank_need_1_ok k (r3570, r3592, r3594, r3596) _ h3600) (eqS3_0 r3570 r3592 r3594 r3596))
     have e3602 := (ti (ti (an e3569 (an (nblank_need_ok k r3567 4 _ h3571) (ti (ti (ti (an e3591 (ti (an (nblank_need_ok k (!false) 5 _ h3593) (ti (an (nblank_need_ok k true 6 _ h3595) (ti (ti (an e3598 (ti (an e3601 (ti trivial))))))))))))))))))
     rcases ifs h with ⟨h3603, h⟩ | ⟨h3603, h⟩
     ·have e3604 := (show keysM (kdV (.string ((a1.getD x38.toNat default).Mirror))) (flatMap (mpE vb) y2) = true from (keysM_mp vb ((a1.getD x38.toNat default).Mirror) y2))
      have e3605 := (show keysM (kdV (.string ((a1.getD x38.toNat default).Batch))) (flatMap (mpE vi) y1) = true from (keysM_mp vi ((a1.getD x38.toNat default).Batch) y1))
      have e3606 := (an (an Try.func42 (an (ti (ti trivial)) (an e3566 (an e3602 (an (an (ti (ti trivial)) (an (decide_eq_true h3603) (an (ti (ti (ti (an e3604 trivial)))) (ti (ti (ti (ti (ti (an e3605 trivial))))))))) (an (ti (ti trivial)) trivial)))))) (ti trivial))
      have h2 := ih _ _ _ _ h
      obtain ⟨q, hv, hq⟩ := pkR (rd := none) (P := Try.prog) (fn := Try.f22) (k := 1) (s := (nblank_FirstBatch_i22_l1_0_h a0 a1 a2 y1 y2 x38)) (ans := [.reg (.n :: []), .br true, .reg (.n :: .v (VV.ag (c_SGlassPromise (a1.getD x38.toNat default))) :: .n :: .n :: []), .reg (arS3_5 y1 a1 x38 r3567 r3570 r3592 r3594 r3596 r3599), .reg (.n :: .n :: []), .br false, .reg (.n :: .n :: [])]) (c := ⟨[(7, none), (8, none), (36, none), (37, none), (38, none)], [none, some (flatMap (mpE vi) (mset y1 ((a1.getD x38.toNat default).Batch) (w64 ((mget y1 ((a1.getD x38.toNat default).Batch)) - 1)))), some (flatMap (mpE vb) (mset y2 ((a1.getD x38.toNat default).Mirror) true))], []⟩) (e := .normal) (s1 := (nblank_FirstBatch_i22_l1_0_h a0 a1 a2 (mset y1 ((a1.getD x38.toNat default).Batch) (w64 ((mget y1 ((a1.getD x38.toNat default).Batch)) - 1))) (mset y2 ((a1.getD x38.toNat default).Mirror) true) (w64 (x38 + 1)))) (an (an (ti trivial) (an (an (decide_eq_true h3561) trivial) (an (an (an h3562 (an e3563 (ti (ti trivial)))) (an (ti (ti (ti (an e3606 (ti trivial))))) (an (ti (ti trivial)) (an (not_f (decide_eq_true h3603)) trivial)))) (ti (ti trivial))))) (ti (an (show upM (.string ((a1.getD x38.toNat default).Batch)) (vi (w64 ((mget y1 ((a1.getD x38.toNat default).Batch)) - 1))) (flatMap (mpE vi) y1) = flatMap (mpE vi) (mset y1 ((a1.getD x38.toNat default).Batch) (w64 ((mget y1 ((a1.getD x38.toNat default).Batch)) - 1))) from (by exact upM_mp vi ((a1.getD x38.toNat default).Batch) (w64 ((mget y1 ((a1.getD x38.toNat default).Batch)) - 1)) y1)) (an (show upM (.string ((a1.getD x38.toNat default).Mirror)) (vb true) (flatMap (mpE vb) y2) = flatMap (mpE vb) (mset y2 ((a1.getD x38.toNat default).Mirror) true) from (by exact upM_mp vb ((a1.getD x38.toNat default).Mirror) true y2)) trivial)))) (by kernel_rfl)
      cases r with
      | inl r => exact round_next pm pn hv hq h2
      | inr r =>
       exact round_next pm pn hv hq h2
     ·have e3607 := (an (an Try.func42 (an (ti (ti trivial)) (an e3566 (an e3602 (an (an (ti (ti trivial)) (an (decide_eq_false h3603) trivial)) (an (ti (ti trivial)) trivial)))))) (ti trivial))
      injection h with h; subst h
      exact round_stop (c := ⟨[(4, none), (5, none)], [none], []⟩) (s1 := (nblank_FirstBatch_i22_l1_0_e0 a0 a1 a2 r3599)) pm pn (ans := [.reg (.n :: []), .br true, .reg (.n :: .v (VV.ag (c_SGlassPromise (a1.getD x38.toNat default))) :: .n :: .n :: []), .reg (arS3_6 y1 a1 x38 r3567 r3570 r3592 r3594 r3596 r3599), .reg (.n :: .n :: []), .br true, .reg (nN 3 [])]) (by kernel_rfl) (by intro e; cases e) (an (an (ti trivial) (an (an (decide_eq_true h3561) trivial) (an (an h3562 (an e3563 (ti (ti trivial)))) (an (ti (ti (ti (an e3607 (ti trivial))))) (an (ti (ti trivial)) (an (not_t (decide_eq_false h3603)) (an (ti (ti (ti trivial))) trivial))))))) (ti trivial))
   ·have e3608 := (show keysM (kdV (.string ((a1.getD x38.toNat default).Batch))) (flatMap (mpE vi) y1) = true /\ lkM (.string ((a1.getD x38.toNat default).Batch)) (flatMap (mpE vi) y1) = none from ⟨(keysM_mp vi ((a1.getD x38.toNat default).Batch) y1), (lkM_no vi ((a1.getD x38.toNat default).Batch) y1 (bool_f h3564))⟩)
    have e3609 := (ti (ti (ti (an e3608 (ti (ti (ti (ti (ti trivial)))))))))
    obtain ⟨r3610, h3611, h⟩ := bs h
    have e3612 := (nblank_isName_ok k ((a1.getD x38.toNat default).Mirror) _ h3611)
    obtain ⟨r3613, h3614, h⟩ := bs h
    rcases ifs h with ⟨h3615, h⟩ | ⟨h3615, h⟩
    ·have e3616 := (show keysM (kdV (.string ((a1.getD x38.toNat default).Mirror))) (flatMap (mpE vb) y2) = true /\ lkM (.string ((a1.getD x38.toNat default).Mirror)) (flatMap (mpE vb) y2) = some (vb (mget y2 ((a1.getD x38.toNat default).Mirror))) from ⟨(keysM_mp vb ((a1.getD x38.toNat default).Mirror) y2), (lkM_has vb ((a1.getD x38.toNat default).Mirror) y2 h3615)⟩)
     obtain ⟨r3617, h3618, h⟩ := bs h
     have e3619 := (nblank_need_ok k (!(mget y2 ((a1.getD x38.toNat default).Mirror))) 5 _ h3618)
     obtain ⟨r3620, h3621, h⟩ := bs h
     obtain ⟨r3622, h3623, h⟩ := bs h
     have e3624 := (nblank_need_ok k (decide ((0 : Int) < 0)) 20 _ h3623)
     obtain ⟨r3625, h3626, h⟩ := bs h
     have e3627 := (VC.args (nblank_firstOf_c0_Lblank_need_1_blank_need_1_blank_need_1_blank_need_1_ok k (r3613, r3617, r3620, r3622) _ h3626) (eqS3_0 r3613 r3617 r3620 r3622))
     have e3628 := (ti (ti (an e3612 (an (nblank_need_ok k r3610 4 _ h3614) (ti (ti (ti (an e3616 (ti (an e3619 (ti (an (nblank_need_ok k false 6 _ h3621) (ti (ti (an e3624 (ti (an e3627 (ti trivial))))))))))))))))))
     rcases ifs h with ⟨h3629, h⟩ | ⟨h3629, h⟩
     ·have e3630 := (show keysM (kdV (.string ((a1.getD x38.toNat default).Mirror))) (flatMap (mpE vb) y2) = true from (keysM_mp vb ((a1.getD x38.toNat default).Mirror) y2))
      have e3631 := (show keysM (kdV (.string ((a1.getD x38.toNat default).Batch))) (flatMap (mpE vi) y1) = true from (keysM_mp vi ((a1.getD x38.toNat default).Batch) y1))
      have e3632 := (an (an Try.func42 (an (ti (ti trivial)) (an e3609 (an e3628 (an (an (ti (ti trivial)) (an (decide_eq_true h3629) (an (ti (ti (ti (an e3630 trivial)))) (ti (ti (ti (ti (ti (an e3631 trivial))))))))) (an (ti (ti trivial)) trivial)))))) (ti trivial))
      have h2 := ih _ _ _ _ h
      obtain ⟨q, hv, hq⟩ := pkR (rd := none) (P := Try.prog) (fn := Try.f22) (k := 1) (s := (nblank_FirstBatch_i22_l1_0_h a0 a1 a2 y1 y2 x38)) (ans := [.reg (.n :: []), .br true, .reg (.n :: .v (VV.ag (c_SGlassPromise (a1.getD x38.toNat default))) :: .n :: .n :: []), .reg (arS3_7 r3610 r3613 y2 a1 x38 r3617 r3620 r3622 r3625), .reg (.n :: .n :: []), .br false, .reg (.n :: .n :: [])]) (c := ⟨[(7, none), (8, none), (36, none), (37, none), (38, none)], [none, some (flatMap (mpE vi) (mset y1 ((a1.getD x38.toNat default).Batch) (-1))), some (flatMap (mpE vb) (mset y2 ((a1.getD x38.toNat default).Mirror) true))], []⟩) (e := .normal) (s1 := (nblank_FirstBatch_i22_l1_0_h a0 a1 a2 (mset y1 ((a1.getD x38.toNat default).Batch) (-1)) (mset y2 ((a1.getD x38.toNat default).Mirror) true) (w64 (x38 + 1)))) (an (an (ti trivial) (an (an (decide_eq_true h3561) trivial) (an (an (an h3562 (an e3563 (ti (ti trivial)))) (an (ti (ti (ti (an e3632 (ti trivial))))) (an (ti (ti trivial)) (an (not_f (decide_eq_true h3629)) trivial)))) (ti (ti trivial))))) (ti (an (show upM (.string ((a1.getD x38.toNat default).Batch)) (vi (-1)) (flatMap (mpE vi) y1) = flatMap (mpE vi) (mset y1 ((a1.getD x38.toNat default).Batch) (-1)) from (by exact upM_mp vi ((a1.getD x38.toNat default).Batch) (-1) y1)) (an (show upM (.string ((a1.getD x38.toNat default).Mirror)) (vb true) (flatMap (mpE vb) y2) = flatMap (mpE vb) (mset y2 ((a1.getD x38.toNat default).Mirror) true) from (by exact upM_mp vb ((a1.getD x38.toNat default).Mirror) true y2)) trivial)))) (by kernel_rfl)
      cases r with
      | inl r => exact round_next pm pn hv hq h2
      | inr r =>
       exact round_next pm pn hv hq h2
     ·have e3633 := (an (an Try.func42 (an (ti (ti trivial)) (an e3609 (an e3628 (an (an (ti (ti trivial)) (an (decide_eq_false h3629) trivial)) (an (ti (ti trivial)) trivial)))))) (ti trivial))
      injection h with h; subst h
      exact round_stop (c := ⟨[(4, none), (5, none)], [none], []⟩) (s1 := (nblank_FirstBatch_i22_l1_0_e0 a0 a1 a2 r3625)) pm pn (ans := [.reg (.n :: []), .br true, .reg (.n :: .v (VV.ag (c_SGlassPromise (a1.getD x38.toNat default))) :: .n :: .n :: []), .reg (arS3_8 r3610 r3613 y2 a1 x38 r3617 r3620 r3622 r3625), .reg (.n :: .n :: []), .br true, .reg (nN 3 [])]) (by kernel_rfl) (by intro e; cases e) (an (an (ti trivial) (an (an (decide_eq_true h3561) trivial) (an (an h3562 (an e3563 (ti (ti trivial)))) (an (ti (ti (ti (an e3633 (ti trivial))))) (an (ti (ti trivial)) (an (not_t (decide_eq_false h3629)) (an (ti (ti (ti trivial))) trivial))))))) (ti trivial))
    ·have e3634 := (show keysM (kdV (.string ((a1.getD x38.toNat default).Mirror))) (flatMap (mpE vb) y2) = true /\ lkM (.string ((a1.getD x38.toNat default).Mirror)) (flatMap (mpE vb) y2) = none from ⟨(keysM_mp vb ((a1.getD x38.toNat default).Mirror) y2), (lkM_no vb ((a1.getD x38.toNat default).Mirror) y2 (bool_f h3615))⟩)
     obtain ⟨r3635, h3636, h⟩ := bs h
     obtain ⟨r3637, h3638, h⟩ := bs h
     obtain ⟨r3639, h3640, h⟩ := bs h
     have e3641 := (nblank_need_ok k (decide ((0 : Int) < 0)) 20 _ h3640)
     obtain ⟨r3642, h3643, h⟩ := bs h
     have e3644 := (VC.args (nblank_firstOf_c0_Lblank_need_1_blank_need_1_blank_need_1_blank_need_1_ok k (r3613, r3635, r3637, r3639) _ h3643) (eqS3_0 r3613 r3635 r3637 r3639))
     have e3645 := (ti (ti (an e3612 (an (nblank_need_ok k r3610 4 _ h3614) (ti (ti (ti (an e3634 (ti (an (nblank_need_ok k (!false) 5 _ h3636) (ti (an (nblank_need_ok k false 6 _ h3638) (ti (ti (an e3641 (ti (an e3644 (ti trivial))))))))))))))))))
     rcases ifs h with ⟨h3646, h⟩ | ⟨h3646, h⟩
     ·have e3647 := (show keysM (kdV (.string ((a1.getD x38.toNat default).Mirror))) (flatMap (mpE vb) y2) = true from (keysM_mp vb ((a1.getD x38.toNat default).Mirror) y2))
      have e3648 := (show keysM (kdV (.string ((a1.getD x38.toNat default).Batch))) (flatMap (mpE vi) y1) = true from (keysM_mp vi ((a1.getD x38.toNat default).Batch) y1))
      have e3649 := (an (an Try.func42 (an (ti (ti trivial)) (an e3609 (an e3645 (an (an (ti (ti trivial)) (an (decide_eq_true h3646) (an (ti (ti (ti (an e3647 trivial)))) (ti (ti (ti (ti (ti (an e3648 trivial))))))))) (an (ti (ti trivial)) trivial)))))) (ti trivial))
      have h2 := ih _ _ _ _ h
      obtain ⟨q, hv, hq⟩ := pkR (rd := none) (P := Try.prog) (fn := Try.f22) (k := 1) (s := (nblank_FirstBatch_i22_l1_0_h a0 a1 a2 y1 y2 x38)) (ans := [.reg (.n :: []), .br true, .reg (.n :: .v (VV.ag (c_SGlassPromise (a1.getD x38.toNat default))) :: .n :: .n :: []), .reg (arS3_9 r3610 r3613 r3635 r3637 r3639 r3642), .reg (.n :: .n :: []), .br false, .reg (.n :: .n :: [])]) (c := ⟨[(7, none), (8, none), (36, none), (37, none), (38, none)], [none, some (flatMap (mpE vi) (mset y1 ((a1.getD x38.toNat default).Batch) (-1))), some (flatMap (mpE vb) (mset y2 ((a1.getD x38.toNat default).Mirror) true))], []⟩) (e := .normal) (s1 := (nblank_FirstBatch_i22_l1_0_h a0 a1 a2 (mset y1 ((a1.getD x38.toNat default).Batch) (-1)) (mset y2 ((a1.getD x38.toNat default).Mirror) true) (w64 (x38 + 1)))) (an (an (ti trivial) (an (an (decide_eq_true h3561) trivial) (an (an (an h3562 (an e3563 (ti (ti trivial)))) (an (ti (ti (ti (an e3649 (ti trivial))))) (an (ti (ti trivial)) (an (not_f (decide_eq_true h3646)) trivial)))) (ti (ti trivial))))) (ti (an (show upM (.string ((a1.getD x38.toNat default).Batch)) (vi (-1)) (flatMap (mpE vi) y1) = flatMap (mpE vi) (mset y1 ((a1.getD x38.toNat default).Batch) (-1)) from (by exact upM_mp vi ((a1.getD x38.toNat default).Batch) (-1) y1)) (an (show upM (.string ((a1.getD x38.toNat default).Mirror)) (vb true) (flatMap (mpE vb) y2) = flatMap (mpE vb) (mset y2 ((a1.getD x38.toNat default).Mirror) true) from (by exact upM_mp vb ((a1.getD x38.toNat default).Mirror) true y2)) trivial)))) (by kernel_rfl)
      cases r with
      | inl r => exact round_next pm pn hv hq h2
      | inr r =>
       exact round_next pm pn hv hq h2
     ·have e3650 := (an (an Try.func42 (an (ti (ti trivial)) (an e3609 (an e3645 (an (an (ti (ti trivial)) (an (decide_eq_false h3646) trivial)) (an (ti (ti trivial)) trivial)))))) (ti trivial))
      injection h with h; subst h
      exact round_stop (c := ⟨[(4, none), (5, none)], [none], []⟩) (s1 := (nblank_FirstBatch_i22_l1_0_e0 a0 a1 a2 r3642)) pm pn (ans := [.reg (.n :: []), .br true, .reg (.n :: .v (VV.ag (c_SGlassPromise (a1.getD x38.toNat default))) :: .n :: .n :: []), .reg (arS3_10 r3610 r3613 r3635 r3637 r3639 r3642), .reg (.n :: .n :: []), .br true, .reg (nN 3 [])]) (by kernel_rfl) (by intro e; cases e) (an (an (ti trivial) (an (an (decide_eq_true h3561) trivial) (an (an h3562 (an e3563 (ti (ti trivial)))) (an (ti (ti (ti (an e3650 (ti trivial))))) (an (ti (ti trivial)) (an (not_t (decide_eq_false h3646)) (an (ti (ti (ti trivial))) trivial))))))) (ti trivial))
  ·injection h with h; subst h
   exact round_stop (c := ⟨[(7, none)], [none, none], []⟩) (s1 := (nblank_FirstBatch_i22_l1_0_e1 a0 a1 a2 y1)) pm pn (ans := [.reg (.n :: []), .br false]) (by kernel_rfl) (by intro e; cases e) (an (an (ti trivial) (an (decide_eq_false h3561) trivial)) (ti trivial))
def nblank_FirstBatch_l0_0_h (a0 : (List SGlassBatch)) (a2 : A24)  : VS := ⟨mkA [(5, VV.pt 0 0), (8, VV.c (.map none)), (10, vs (⟨#[]⟩ : ByteArray)), (11, vi 0), (34, VV.tr (flatMap c_SGlassBatch a0) a0.length), (35, vi (a0.length : Int)), (36, vi 0)], [some ⟨true, 1, c_A24 a2⟩], .nil⟩
def nblank_FirstBatch_l0_0_e0 (a0 : (List SGlassBatch)) (a2 : A24) (r : Unit) : VS := ⟨mkA [(10, vs (⟨#[]⟩ : ByteArray))], [], .nil⟩
def nblank_FirstBatch_l0_0 (k : Nat) (a0 : (List SGlassBatch)) (a2 : A24) : Nat -> Option (Unit)
 | 0 => none
 | fuel + 1 => if 0 < (a0.length : Int) then (if (0 : Int) <= 0 /\ 0 < (a0.length : Int) then none else none) else (some ())
theorem nblank_FirstBatch_l0_0_ok (k : Nat) (a0 : (List SGlassBatch)) (a2 : A24) : ∀ (fuel : Nat)  (r : Unit), nblank_FirstBatch_l0_0 k a0 a2 fuel  = some r -> (VLoop none Try.prog (szF Try.f9) (bodyOf Try.f9 0) (nblank_FirstBatch_l0_0_h a0 a2 ) (.exit 0) (nblank_FirstBatch_l0_0_e0 a0 a2 r)) := by
 intro fuel
 induction fuel with
 | zero => intro  r h; rw [nblank_FirstBatch_l0_0.eq_1] at h; cases h
 | succ fuel ih =>
  intro  r h
  rw [nblank_FirstBatch_l0_0.eq_2] at h
  rcases ifs h with ⟨h3673, h⟩ | ⟨h3673, h⟩
  ·obtain ⟨h3674, h⟩ := ifn h
   have e3675 := (show loadL Try.prog 44 (((0 : Int)).toNat * 4) (flatMap c_SGlassBatch a0) = some (VV.ag (c_SGlassBatch (a0.getD ((0 : Int)).toNat default))) from ld_whole ag44 c_SGlassBatch 4 sz44 len_c_SGlassBatch a0 default h3674 (by omega))
   cases h
  ·injection h with h; subst h
   exact round_stop (c := ⟨[(10, none)], [], []⟩) (s1 := (nblank_FirstBatch_l0_0_e0 a0 a2 ())) pm pn (ans := [.reg (.n :: []), .br false]) (by kernel_rfl) (by intro e; cases e) (an (an (ti trivial) (an (decide_eq_false h3673) trivial)) (ti trivial))
def nblank_FirstBatch_l0_1_h (a0 : (List SGlassBatch)) (a2 : A24) (r3654 : (List (ByteArray × Int))) (x10 : ByteArray) (x11 : Int) (x36 : Int) : VS := ⟨mkA [(5, VV.pt 0 0), (8, VV.mp 1), (10, vs x10), (11, vi x11), (34, VV.tr (flatMap c_SGlassBatch a0) a0.length), (35, vi (a0.length : Int)), (36, vi x36)], [some ⟨true, 1, c_A24 a2⟩, some ⟨true, bigX + 1, flatMap (mpE vi) r3654⟩], .nil⟩
def nblank_FirstBatch_l0_1_e0 (a0 : (List SGlassBatch)) (a2 : A24) (r3654 : (List (ByteArray × Int))) (r : ByteArray) : VS := ⟨mkA [(10, vs r)], [], .nil⟩
def nblank_FirstBatch_l0_1 (k : Nat) (a0 : (List SGlassBatch)) (a2 : A24) (r3654 : (List (ByteArray × Int))) : Nat -> ByteArray -> Int -> Int -> Option (ByteArray)
 | 0, _, _, _ => none
 | fuel + 1, x10, x11, x36 => if x36 < (a0.length : Int) then (if 0 <= x36 /\ x36 < (a0.length : Int) then (if mhas r3654 ((a0.getD x36.toNat default).Name) = true then (if (mget r3654 ((a0.getD x36.toNat default).Name)) = 0 then (nblank_FirstBatch_l0_1 k a0 a2 r3654 fuel x10 x11 (w64 (x36 + 1))) else (if ((a0.getD x36.toNat default).Diameter) < a2.e0 then (nblank_FirstBatch_l0_1 k a0 a2 r3654 fuel x10 x11 (w64 (x36 + 1))) else (if ((a0.getD x36.toNat default).Thick) < a2.e1 then (nblank_FirstBatch_l0_1 k a0 a2 r3654 fuel x10 x11 (w64 (x36 + 1))) else (if x10 = (⟨#[]⟩ : ByteArray) then (nblank_FirstBatch_l0_1 k a0 a2 r3654 fuel ((a0.getD x36.toNat default).Name) (w64 ((w64 (((a0.getD x36.toNat default).Diameter) * ((a0.getD x36.toNat default).Diameter))) * ((a0.getD x36.toNat default).Thick))) (w64 (x36 + 1))) else (if (w64 ((w64 (((a0.getD x36.toNat default).Diameter) * ((a0.getD x36.toNat default).Diameter))) * ((a0.getD x36.toNat default).Thick))) < x11 then (nblank_FirstBatch_l0_1 k a0 a2 r3654 fuel ((a0.getD x36.toNat default).Name) (w64 ((w64 (((a0.getD x36.toNat default).Diameter) * ((a0.getD x36.toNat default).Diameter))) * ((a0.getD x36.toNat default).Thick))) (w64 (x36 + 1))) else (nblank_FirstBatch_l0_1 k a0 a2 r3654 fuel x10 x11 (w64 (x36 + 1)))))))) else (nblank_FirstBatch_l0_1 k a0 a2 r3654 fuel x10 x11 (w64 (x36 + 1)))) else none) else (some x10)
theorem nblank_FirstBatch_l0_1_ok (k : Nat) (a0 : (List SGlassBatch)) (a2 : A24) (r3654 : (List (ByteArray × Int))) : ∀ (fuel : Nat) (x10 : ByteArray) (x11 : Int) (x36 : Int) (r : ByteArray), nblank_FirstBatch_l0_1 k a0 a2 r3654 fuel x10 x11 x36 = some r -> (VLoop none Try.prog (szF Try.f9) (bodyOf Try.f9 0) (nblank_FirstBatch_l0_1_h a0 a2 r3654 x10 x11 x36) (.exit 0) (nblank_FirstBatch_l0_1_e0 a0 a2 r3654 r)) := by
 intro fuel
 induction fuel with
 | zero => intro x10 x11 x36 r h; rw [nblank_FirstBatch_l0_1.eq_1] at h; cases h
 | succ fuel ih =>
  intro x10 x11 x36 r h
  rw [nblank_FirstBatch_l0_1.eq_2] at h
  rcases ifs h with ⟨h3737, h⟩ | ⟨h3737, h⟩
  ·obtain ⟨h3738, h⟩ := ifn h
   have e3739 := (show loadL Try.prog 44 (x36.toNat * 4) (flatMap c_SGlassBatch a0) = some (VV.ag (c_SGlassBatch (a0.getD x36.toNat default))) from ld_whole ag44 c_SGlassBatch 4 sz44 len_c_SGlassBatch a0 default h3738 (by omega))
   rcases ifs h with ⟨h3740, h⟩ | ⟨h3740, h⟩
   ·have e3741 := (show keysM (kdV (.string ((a0.getD x36.toNat default).Name))) (flatMap (mpE vi) r3654) = true /\ lkM (.string ((a0.getD x36.toNat default).Name)) (flatMap (mpE vi) r3654) = some (vi (mget r3654 ((a0.getD x36.toNat default).Name))) from ⟨(keysM_mp vi ((a0.getD x36.toNat default).Name) r3654), (lkM_has vi ((a0.getD x36.toNat default).Name) r3654 h3740)⟩)
    rcases ifs h with ⟨h3742, h⟩ | ⟨h3742, h⟩
    ·have e3743 := (ti (ti (ti (an e3741 (ti (ti (an (decide_eq_true h3742) (an (decide_eq_true h3742) (an (decide_eq_true h3742) (an (decide_eq_true h3742) (an (decide_eq_true h3742) (an (decide_eq_true h3742) (ti (an rt (an rt (an rt (an rt (an rt (an rt trivial)))))))))))))))))))
     have h2 := ih _ _ _ _ h
     obtain ⟨q, hv, hq⟩ := pkR (rd := none) (P := Try.prog) (fn := Try.f9) (k := 0) (s := (nblank_FirstBatch_l0_1_h a0 a2 r3654 x10 x11 x36)) (ans := [.reg (.n :: []), .br true, .reg (.n :: .v (VV.ag (c_SGlassBatch (a0.getD x36.toNat default))) :: .n :: .n :: []), .reg (arS3_11 r3654 a0 x36), .br true, .reg (.n :: .n :: [])]) (c := ⟨[(5, none), (8, none), (10, none), (11, none), (34, none), (35, none), (36, none)], [none, none], []⟩) (e := .normal) (s1 := (nblank_FirstBatch_l0_1_h a0 a2 r3654 x10 x11 (w64 (x36 + 1)))) (an (an (ti trivial) (an (an (decide_eq_true h3737) trivial) (an (an (an h3738 (an e3739 (ti (ti trivial)))) (an e3743 (an rt trivial))) (ti (ti trivial))))) (ti trivial)) (by kernel_rfl)
     exact round_next pm pn hv hq h2
    ·have e3744 := (an (decide_eq_false h3742) (show (0:Int) <= 0 /\ (0:Int) < ((2 : Nat) : Int) from ⟨by decide, by decide⟩))
     rcases ifs h with ⟨h3745, h⟩ | ⟨h3745, h⟩
     ·have e3746 := (ti (ti (ti (an e3741 (ti (ti (an (an (decide_eq_false h3742) trivial) (an (an (decide_eq_false h3742) trivial) (an e3744 (an (an (decide_eq_false h3742) trivial) (an (an (decide_eq_false h3742) trivial) (an (decide_eq_false h3742) (ti (an (decide_eq_true h3745) (an (decide_eq_true h3745) (an (decide_eq_true h3745) (an (decide_eq_true h3745) (an (decide_eq_true h3745) (an (decide_eq_true h3745) trivial)))))))))))))))))))
      have h2 := ih _ _ _ _ h
      obtain ⟨q, hv, hq⟩ := pkR (rd := none) (P := Try.prog) (fn := Try.f9) (k := 0) (s := (nblank_FirstBatch_l0_1_h a0 a2 r3654 x10 x11 x36)) (ans := [.reg (.n :: []), .br true, .reg (.n :: .v (VV.ag (c_SGlassBatch (a0.getD x36.toNat default))) :: .n :: .n :: []), .reg (arS3_12 r3654 a0 x36), .br true, .reg (.n :: .n :: [])]) (c := ⟨[(5, none), (8, none), (10, none), (11, none), (34, none), (35, none), (36, none)], [none, none], []⟩) (e := .normal) (s1 := (nblank_FirstBatch_l0_1_h a0 a2 r3654 x10 x11 (w64 (x36 + 1)))) (an (an (ti trivial) (an (an (decide_eq_true h3737) trivial) (an (an (an h3738 (an e3739 (ti (ti trivial)))) (an e3746 (an rt trivial))) (ti (ti trivial))))) (ti trivial)) (by kernel_rfl)
      exact round_next pm pn hv hq h2
     ·have e3747 := (an (decide_eq_false h3745) (show (0:Int) <= 1 /\ (1:Int) < ((2 : Nat) : Int) from ⟨by decide, by decide⟩))
      have e3748 := (ti (ti (ti (an e3741 (ti (ti (an (an (decide_eq_false h3742) trivial) (an (an (decide_eq_false h3742) trivial) (an e3744 (an (an (decide_eq_false h3742) trivial) (an (an (decide_eq_false h3742) trivial) (an (decide_eq_false h3742) (ti (an (an (decide_eq_false h3745) trivial) (an (an (decide_eq_false h3745) trivial) (an e3747 (an (an (decide_eq_false h3745) trivial) (an (an (decide_eq_false h3745) trivial) (an (decide_eq_false h3745) trivial)))))))))))))))))))
      rcases ifs h with ⟨h3749, h⟩ | ⟨h3749, h⟩
      ·have h2 := ih _ _ _ _ h
       obtain ⟨q, hv, hq⟩ := pkR (rd := none) (P := Try.prog) (fn := Try.f9) (k := 0) (s := (nblank_FirstBatch_l0_1_h a0 a2 r3654 x10 x11 x36)) (ans := [.reg (.n :: []), .br true, .reg (.n :: .v (VV.ag (c_SGlassBatch (a0.getD x36.toNat default))) :: .n :: .n :: []), .reg (arS3_13 r3654 a0 x36), .br true, .reg (.n :: .n :: [])]) (c := ⟨[(5, none), (8, none), (10, none), (11, none), (34, none), (35, none), (36, none)], [none, none], []⟩) (e := .normal) (s1 := (nblank_FirstBatch_l0_1_h a0 a2 r3654 x10 x11 (w64 (x36 + 1)))) (an (an (ti trivial) (an (an (decide_eq_true h3737) trivial) (an (an (an h3738 (an e3739 (ti (ti trivial)))) (an e3748 (an (decide_eq_true h3749) trivial))) (ti (ti trivial))))) (ti trivial)) (by kernel_rfl)
       exact round_next pm pn hv hq h2
      ·have e3750 := (ti (ti (ti (ti (ti (ti (ti (ti (ti trivial)))))))))
       rcases ifs h with ⟨h3751, h⟩ | ⟨h3751, h⟩
       ·have e3752 := (ti (ti (ti (an (decide_eq_true h3751) (an (decide_eq_true h3751) (an (decide_eq_true h3751) (an (decide_eq_true h3751) trivial)))))))
        have h2 := ih _ _ _ _ h
        obtain ⟨q, hv, hq⟩ := pkR (rd := none) (P := Try.prog) (fn := Try.f9) (k := 0) (s := (nblank_FirstBatch_l0_1_h a0 a2 r3654 x10 x11 x36)) (ans := [.reg (.n :: []), .br true, .reg (.n :: .v (VV.ag (c_SGlassBatch (a0.getD x36.toNat default))) :: .n :: .n :: []), .reg (arS3_13 r3654 a0 x36), .br false, .reg (nN 9 []), .reg (nN 3 (nS 3 (.b true :: []))), .br true, .reg (nN 5 []), .reg (.n :: .n :: [])]) (c := ⟨[(5, none), (8, none), (10, none), (11, none), (34, none), (35, none), (36, none)], [none, none], []⟩) (e := .normal) (s1 := (nblank_FirstBatch_l0_1_h a0 a2 r3654 ((a0.getD x36.toNat default).Name) (w64 ((w64 (((a0.getD x36.toNat default).Diameter) * ((a0.getD x36.toNat default).Diameter))) * ((a0.getD x36.toNat default).Thick))) (w64 (x36 + 1)))) (an (an (ti trivial) (an (an (decide_eq_true h3737) trivial) (an (an (an h3738 (an e3739 (ti (ti trivial)))) (an (an e3748 (an (decide_eq_false h3749) trivial)) (an e3750 (an e3752 (an rt (ti (ti (ti (ti (ti trivial)))))))))) (ti (ti trivial))))) (ti trivial)) (by kernel_rfl)
        exact round_next pm pn hv hq h2
       ·have e3753 := (ti (ti (ti (an (an (decide_eq_false h3751) trivial) (an (an (decide_eq_false h3751) trivial) (an (an (decide_eq_false h3751) trivial) (an (decide_eq_false h3751) trivial)))))))
        rcases ifs h with ⟨h3754, h⟩ | ⟨h3754, h⟩
        ·have h2 := ih _ _ _ _ h
         obtain ⟨q, hv, hq⟩ := pkR (rd := none) (P := Try.prog) (fn := Try.f9) (k := 0) (s := (nblank_FirstBatch_l0_1_h a0 a2 r3654 x10 x11 x36)) (ans := [.reg (.n :: []), .br true, .reg (.n :: .v (VV.ag (c_SGlassBatch (a0.getD x36.toNat default))) :: .n :: .n :: []), .reg (arS3_13 r3654 a0 x36), .br false, .reg (nN 9 []), .reg (nN 6 (.b false :: [])), .br true, .reg (nN 5 []), .reg (.n :: .n :: [])]) (c := ⟨[(5, none), (8, none), (10, none), (11, none), (34, none), (35, none), (36, none)], [none, none], []⟩) (e := .normal) (s1 := (nblank_FirstBatch_l0_1_h a0 a2 r3654 ((a0.getD x36.toNat default).Name) (w64 ((w64 (((a0.getD x36.toNat default).Diameter) * ((a0.getD x36.toNat default).Diameter))) * ((a0.getD x36.toNat default).Thick))) (w64 (x36 + 1)))) (an (an (ti trivial) (an (an (decide_eq_true h3737) trivial) (an (an (an h3738 (an e3739 (ti (ti trivial)))) (an (an e3748 (an (decide_eq_false h3749) trivial)) (an e3750 (an e3753 (an (decide_eq_true h3754) (ti (ti (ti (ti (ti trivial)))))))))) (ti (ti trivial))))) (ti trivial)) (by kernel_rfl)
         exact round_next pm pn hv hq h2
        ·have h2 := ih _ _ _ _ h
         obtain ⟨q, hv, hq⟩ := pkR (rd := none) (P := Try.prog) (fn := Try.f9) (k := 0) (s := (nblank_FirstBatch_l0_1_h a0 a2 r3654 x10 x11 x36)) (ans := [.reg (.n :: []), .br true, .reg (.n :: .v (VV.ag (c_SGlassBatch (a0.getD x36.toNat default))) :: .n :: .n :: []), .reg (arS3_13 r3654 a0 x36), .br false, .reg (nN 9 []), .reg (nN 6 (.b false :: [])), .br false, .reg (.n :: .n :: [])]) (c := ⟨[(5, none), (8, none), (10, none), (11, none), (34, none), (35, none), (36, none)], [none, none], []⟩) (e := .normal) (s1 := (nblank_FirstBatch_l0_1_h a0 a2 r3654 x10 x11 (w64 (x36 + 1)))) (an (an (ti trivial) (an (an (decide_eq_true h3737) trivial) (an (an (an h3738 (an e3739 (ti (ti trivial)))) (an (an e3748 (an (decide_eq_false h3749) trivial)) (an e3750 (an e3753 (an (decide_eq_false h3754) trivial))))) (ti (ti trivial))))) (ti trivial)) (by kernel_rfl)
         exact round_next pm pn hv hq h2
   ·have e3755 := (show keysM (kdV (.string ((a0.getD x36.toNat default).Name))) (flatMap (mpE vi) r3654) = true /\ lkM (.string ((a0.getD x36.toNat default).Name)) (flatMap (mpE vi) r3654) = none from ⟨(keysM_mp vi ((a0.getD x36.toNat default).Name) r3654), (lkM_no vi ((a0.getD x36.toNat default).Name) r3654 (bool_f h3740))⟩)
    have e3756 := (show (decide ((0 : Int) = 0)) = true from (decide_eq_true (by decide)))
    have e3757 := (ti (ti (ti (an e3755 (ti (ti (an (show (decide ((0 : Int) = 0)) = !false from (decide_eq_true (by decide))) (an (show (decide ((0 : Int) = 0)) = !false from (decide_eq_true (by decide))) (an (show (decide ((0 : Int) = 0)) = !false from (decide_eq_true (by decide))) (an (show (decide ((0 : Int) = 0)) = !false from (decide_eq_true (by decide))) (an (show (decide ((0 : Int) = 0)) = !false from (decide_eq_true (by decide))) (an e3756 (ti (an rt (an rt (an rt (an rt (an rt (an rt trivial)))))))))))))))))))
    have h2 := ih _ _ _ _ h
    obtain ⟨q, hv, hq⟩ := pkR (rd := none) (P := Try.prog) (fn := Try.f9) (k := 0) (s := (nblank_FirstBatch_l0_1_h a0 a2 r3654 x10 x11 x36)) (ans := [.reg (.n :: []), .br true, .reg (.n :: .v (VV.ag (c_SGlassBatch (a0.getD x36.toNat default))) :: .n :: .n :: []), .reg (nN 3 (.b false :: .n :: .n :: nS 5 (.b true :: .n :: nS 5 (.b true :: [])))), .br true, .reg (.n :: .n :: [])]) (c := ⟨[(5, none), (8, none), (10, none), (11, none), (34, none), (35, none), (36, none)], [none, none], []⟩) (e := .normal) (s1 := (nblank_FirstBatch_l0_1_h a0 a2 r3654 x10 x11 (w64 (x36 + 1)))) (an (an (ti trivial) (an (an (decide_eq_true h3737) trivial) (an (an (an h3738 (an e3739 (ti (ti trivial)))) (an e3757 (an rt trivial))) (ti (ti trivial))))) (ti trivial)) (by kernel_rfl)
    exact round_next pm pn hv hq h2
  ·injection h with h; subst h
   exact round_stop (c := ⟨[(10, none)], [], []⟩) (s1 := (nblank_FirstBatch_l0_1_e0 a0 a2 r3654 x10)) pm pn (ans := [.reg (.n :: []), .br false]) (by kernel_rfl) (by intro e; cases e) (an (an (ti trivial) (an (decide_eq_false h3737) trivial)) (ti trivial))
noncomputable def arS3_15 (z0 : Int) : List Ans := (.n :: .n :: .inl (inlF Try.f22 [.reg (.n :: .n :: []), .reg (.n :: .call (vi z0) :: .n :: []), .reg (.n :: .n :: []), .br true, .reg (nN 3 [])]) :: nN 5 [])
def nblank_FirstBatch (k : Nat) (a0 : (List SGlassBatch)) (a1 : (List SGlassPromise)) (a2 : A24) : Option (ByteArray × Int) :=
 (nblank_CheckBatches k a0).bind fun r3359 => (if r3359 = 0 then (if 200 < (a1.length : Int) then (some ((⟨#[]⟩ : ByteArray), 8)) else ((nblank_FirstBatch_i22_l0_0 k a0 a1 a2 k ([] : List (ByteArray × Int)) 0).bind fun r3379 => ((nblank_FirstBatch_i22_l1_0 k a0 a1 a2 k r3379 ([] : List (ByteArray × Bool)) 0).bind fun r3652 => (match r3652 with | .inl r3653 => (if r3653 = 0 then ((nblank_isWithin k a2.e0 1 1000).bind fun r3660 => (if r3660 = true then ((nblank_isWithin k a2.e1 1 500).bind fun r3665 => (if r3665 = true then ((nblank_FirstBatch_l0_0 k a0 a2 k).bind fun r3677 => (if (⟨#[]⟩ : ByteArray) = (⟨#[]⟩ : ByteArray) then (some ((⟨#[]⟩ : ByteArray), 12)) else (some ((⟨#[]⟩ : ByteArray), 0)))) else (some ((⟨#[]⟩ : ByteArray), 2)))) else (some ((⟨#[]⟩ : ByteArray), 2)))) else (some ((⟨#[]⟩ : ByteArray), r3653))) | .inr r3654 => ((nblank_isWithin k a2.e0 1 1000).bind fun r3685 => (if r3685 = true then ((nblank_isWithin k a2.e1 1 500).bind fun r3690 => (if r3690 = true then ((nblank_FirstBatch_l0_1 k a0 a2 r3654 k (⟨#[]⟩ : ByteArray) 0 0).bind fun r3759 => (if r3759 = (⟨#[]⟩ : ByteArray) then (some ((⟨#[]⟩ : ByteArray), 12)) else (some (r3759, 0)))) else (some ((⟨#[]⟩ : ByteArray), 2)))) else (some ((⟨#[]⟩ : ByteArray), 2)))))))) else (some ((⟨#[]⟩ : ByteArray), r3359)))
theorem nblank_FirstBatch_ok (k : Nat) (a0 : (List SGlassBatch)) (a1 : (List SGlassPromise)) (a2 : A24) (r : (ByteArray × Int)) (h : nblank_FirstBatch k a0 a1 a2 = some r) : VC Try.prog 9 [VV.tr (flatMap c_SGlassBatch a0) a0.length, VV.tr (flatMap c_SGlassPromise a1) a1.length, VV.ag (c_A24 a2)] (VV.tu [vs r.1, vi r.2]) := by
 unfold nblank_FirstBatch at h
 obtain ⟨r3359, h3360, h⟩ := bs h
 have e3361 := (ti (an (nblank_CheckBatches_ok k a0 _ h3360) (ti trivial)))
 rcases ifs h with ⟨h3362, h⟩ | ⟨h3362, h⟩
 ·rcases ifs h with ⟨h3363, h⟩ | ⟨h3363, h⟩
  ·have e3364 := (an (an Try.func22 (an (ti (ti trivial)) (an (an e3361 (an (ti (ti trivial)) (an (not_f (decide_eq_true h3362)) trivial))) (an (ti (ti (ti trivial))) (an (decide_eq_true h3363) (an (ti (ti trivial)) trivial)))))) (ti (ti trivial)))
   have e3365 := (ti (ti (an e3364 (ti (ti (ti (ti (ti trivial))))))))
   injection h with h; subst h
   exact fun_ok pm pn Try.func9 (r0 := VV.tu [vs (⟨#[]⟩ : ByteArray), vi 8]) (ans := [.reg (nN 3 []), .reg (arS3_14 r3359), .reg (.n :: .n :: []), .br true, .reg (nN 3 [])]) (fr := true) (by kernel_rfl) (an (an (ti (ti (ti trivial))) (an e3365 (an (ti (ti trivial)) (an (show (!(decide ((8 : Int) = 0))) = true from (not_t (decide_eq_false (by decide)))) (an (ti (ti (ti trivial))) trivial))))) (ti (ti trivial))) (Wv.refl _)
  ·obtain ⟨r3379, h3378, h⟩ := bs h
   have hph3378 := nblank_FirstBatch_i22_l0_0_ok k a0 a1 a2 _ _ _ _ h3378
   have e3380 := (an (ti (an (show [] = flatMap (mpE vi) ([] : List (ByteArray × Int)) from rfl) trivial)) (VRun.loop hph3378))
   obtain ⟨r3652, h3651, h⟩ := bs h
   have hph3651 := nblank_FirstBatch_i22_l1_0_ok k a0 a1 a2 _ _ _ _ _ h3651
   cases r3652 with
   | inl r3653 =>
    dsimp only at h
    have e3655 := (an (ti (an (show [] = flatMap (mpE vb) ([] : List (ByteArray × Bool)) from rfl) trivial)) (VRun.loop hph3651))
    have e3656 := (an (an Try.func22 (an (ti (ti trivial)) (an (an e3361 (an (ti (ti trivial)) (an (not_f (decide_eq_true h3362)) trivial))) (an (an (ti (ti (ti trivial))) (an (decide_eq_false h3363) trivial)) (an (ti (ti (ti (ti trivial)))) (an (an (ti (ti (ti trivial))) e3380) (an (ti (ti (ti trivial))) e3655))))))) (ti (ti trivial)))
    have e3657 := (ti (ti (an e3656 (ti (ti (ti (ti (ti trivial))))))))
    rcases ifs h with ⟨h3658, h⟩ | ⟨h3658, h⟩
    ·have e3659 := (show (0:Int) <= 0 /\ (0:Int) < ((2 : Nat) : Int) from ⟨by decide, by decide⟩)
     obtain ⟨r3660, h3661, h⟩ := bs h
     have e3662 := (nblank_isWithin_ok k a2.e0 1 1000 _ h3661)
     rcases ifs h with ⟨h3663, h⟩ | ⟨h3663, h⟩
     ·have e3664 := (an (not_f h3663) (show (0:Int) <= 1 /\ (1:Int) < ((2 : Nat) : Int) from ⟨by decide, by decide⟩))
      obtain ⟨r3665, h3666, h⟩ := bs h
      have e3667 := (an (not_f h3663) (nblank_isWithin_ok k a2.e1 1 500 _ h3666))
      have e3668 := (an e3659 (ti (an e3662 (ti (ti (an e3664 (an (an (not_f h3663) trivial) (an e3667 (an (an (not_f h3663) trivial) (an (not_f h3663) trivial))))))))))
      rcases ifs h with ⟨h3669, h⟩ | ⟨h3669, h⟩
      ·obtain ⟨r3677, h3676, h⟩ := bs h
       have hph3676 := nblank_FirstBatch_l0_0_ok k a0 a2 _  _ h3676
       have e3678 := (an (ti trivial) (VRun.loop hph3676))
       rcases ifs h with ⟨h3679, h⟩ | ⟨h3679, h⟩
       ·injection h with h; subst h
        exact fun_ok pm pn Try.func9 (r0 := VV.tu [vs (⟨#[]⟩ : ByteArray), vi 12]) (ans := [.reg (nN 3 []), .reg (.n :: .n :: .inl (inlF Try.f22 [.reg (.n :: .n :: []), .reg (.n :: .call (vi r3359) :: .n :: []), .reg (.n :: .n :: []), .br false, .reg (nN 3 []), .br false, .reg (nN 4 []), .reg (nN 3 []), .sub ⟨[(1, none), (7, none), (8, none), (24, none), (25, none), (26, none)], [none, some (flatMap (mpE vi) ([] : List (ByteArray × Int))), none], []⟩ (.exit 0) (nblank_FirstBatch_i22_l0_0_e0 a0 a1 a2 r3379), .reg (nN 3 []), .sub ⟨[(7, none), (8, none), (36, none), (37, none), (38, none)], [none, none, some (flatMap (mpE vb) ([] : List (ByteArray × Bool)))], []⟩ .ret (nblank_FirstBatch_i22_l1_0_e0 a0 a1 a2 r3653)]) :: nN 5 []), .reg (.n :: .n :: []), .br false, .reg (.n :: .n :: .call (vb r3660) :: nN 4 (.call (vb r3665) :: .n :: .b false :: [])), .br false, .reg (.n :: .n :: []), .reg (nN 3 []), .sub ⟨[(5, none), (8, none), (10, none), (11, none), (34, none), (35, none), (36, none)], [none], []⟩ (.exit 0) (nblank_FirstBatch_l0_0_e0 a0 a2 r3677), .reg (.n :: .n :: []), .br true, .reg (.n :: .n :: [])]) (fr := true) (by kernel_rfl) (an (an (ti (ti (ti trivial))) (an e3657 (an (an (ti (ti trivial)) (an (not_f (decide_eq_true h3658)) trivial)) (an (an e3668 (an (not_f h3669) trivial)) (an (ti (ti trivial)) (an (an (ti (ti (ti trivial))) e3678) (an (ti (ti trivial)) (an (decide_eq_true h3679) (an (ti (ti trivial)) trivial))))))))) (ti (ti trivial))) (Wv.refl _)
       ·injection h with h; subst h
        exact fun_ok pm pn Try.func9 (r0 := VV.tu [vs (⟨#[]⟩ : ByteArray), vi 0]) (ans := [.reg (nN 3 []), .reg (.n :: .n :: .inl (inlF Try.f22 [.reg (.n :: .n :: []), .reg (.n :: .call (vi r3359) :: .n :: []), .reg (.n :: .n :: []), .br false, .reg (nN 3 []), .br false, .reg (nN 4 []), .reg (nN 3 []), .sub ⟨[(1, none), (7, none), (8, none), (24, none), (25, none), (26, none)], [none, some (flatMap (mpE vi) ([] : List (ByteArray × Int))), none], []⟩ (.exit 0) (nblank_FirstBatch_i22_l0_0_e0 a0 a1 a2 r3379), .reg (nN 3 []), .sub ⟨[(7, none), (8, none), (36, none), (37, none), (38, none)], [none, none, some (flatMap (mpE vb) ([] : List (ByteArray × Bool)))], []⟩ .ret (nblank_FirstBatch_i22_l1_0_e0 a0 a1 a2 r3653)]) :: nN 5 []), .reg (.n :: .n :: []), .br false, .reg (.n :: .n :: .call (vb r3660) :: nN 4 (.call (vb r3665) :: .n :: .b false :: [])), .br false, .reg (.n :: .n :: []), .reg (nN 3 []), .sub ⟨[(5, none), (8, none), (10, none), (11, none), (34, none), (35, none), (36, none)], [none], []⟩ (.exit 0) (nblank_FirstBatch_l0_0_e0 a0 a2 r3677), .reg (.n :: .n :: []), .br false, .reg (nN 3 [])]) (fr := true) (by kernel_rfl) (an (an (ti (ti (ti trivial))) (an e3657 (an (an (ti (ti trivial)) (an (not_f (decide_eq_true h3658)) trivial)) (an (an e3668 (an (not_f h3669) trivial)) (an (ti (ti trivial)) (an (an (ti (ti (ti trivial))) e3678) (an (an (ti (ti trivial)) (an (decide_eq_false h3679) trivial)) (an (ti (ti (ti trivial))) trivial)))))))) (ti (ti trivial))) (Wv.refl _)
      ·injection h with h; subst h
       exact fun_ok pm pn Try.func9 (r0 := VV.tu [vs (⟨#[]⟩ : ByteArray), vi 2]) (ans := [.reg (nN 3 []), .reg (.n :: .n :: .inl (inlF Try.f22 [.reg (.n :: .n :: []), .reg (.n :: .call (vi r3359) :: .n :: []), .reg (.n :: .n :: []), .br false, .reg (nN 3 []), .br false, .reg (nN 4 []), .reg (nN 3 []), .sub ⟨[(1, none), (7, none), (8, none), (24, none), (25, none), (26, none)], [none, some (flatMap (mpE vi) ([] : List (ByteArray × Int))), none], []⟩ (.exit 0) (nblank_FirstBatch_i22_l0_0_e0 a0 a1 a2 r3379), .reg (nN 3 []), .sub ⟨[(7, none), (8, none), (36, none), (37, none), (38, none)], [none, none, some (flatMap (mpE vb) ([] : List (ByteArray × Bool)))], []⟩ .ret (nblank_FirstBatch_i22_l1_0_e0 a0 a1 a2 r3653)]) :: nN 5 []), .reg (.n :: .n :: []), .br false, .reg (.n :: .n :: .call (vb r3660) :: nN 4 (.call (vb r3665) :: .n :: .b false :: [])), .br true, .reg (.n :: .n :: [])]) (fr := true) (by kernel_rfl) (an (an (ti (ti (ti trivial))) (an e3657 (an (an (ti (ti trivial)) (an (not_f (decide_eq_true h3658)) trivial)) (an e3668 (an (not_t (bool_f h3669)) (an (ti (ti trivial)) trivial)))))) (ti (ti trivial))) (Wv.refl _)
     ·have e3680 := (an e3659 (ti (an e3662 (ti (ti (an (not_t (bool_f h3663)) (an (not_t (bool_f h3663)) (an (not_t (bool_f h3663)) (an (not_t (bool_f h3663)) (an (not_t (bool_f h3663)) trivial))))))))))
      injection h with h; subst h
      exact fun_ok pm pn Try.func9 (r0 := VV.tu [vs (⟨#[]⟩ : ByteArray), vi 2]) (ans := [.reg (nN 3 []), .reg (.n :: .n :: .inl (inlF Try.f22 [.reg (.n :: .n :: []), .reg (.n :: .call (vi r3359) :: .n :: []), .reg (.n :: .n :: []), .br false, .reg (nN 3 []), .br false, .reg (nN 4 []), .reg (nN 3 []), .sub ⟨[(1, none), (7, none), (8, none), (24, none), (25, none), (26, none)], [none, some (flatMap (mpE vi) ([] : List (ByteArray × Int))), none], []⟩ (.exit 0) (nblank_FirstBatch_i22_l0_0_e0 a0 a1 a2 r3379), .reg (nN 3 []), .sub ⟨[(7, none), (8, none), (36, none), (37, none), (38, none)], [none, none, some (flatMap (mpE vb) ([] : List (ByteArray × Bool)))], []⟩ .ret (nblank_FirstBatch_i22_l1_0_e0 a0 a1 a2 r3653)]) :: nN 5 []), .reg (.n :: .n :: []), .br false, .reg (.n :: .n :: .call (vb r3660) :: .n :: .n :: nS 4 (.b true :: [])), .br true, .reg (.n :: .n :: [])]) (fr := true) (by kernel_rfl) (an (an (ti (ti (ti trivial))) (an e3657 (an (an (ti (ti trivial)) (an (not_f (decide_eq_true h3658)) trivial)) (an e3680 (an rt (an (ti (ti trivial)) trivial)))))) (ti (ti trivial))) (Wv.refl _)
    ·injection h with h; subst h
     exact fun_ok pm pn Try.func9 (r0 := VV.tu [vs (⟨#[]⟩ : ByteArray), vi r3653]) (ans := [.reg (nN 3 []), .reg (.n :: .n :: .inl (inlF Try.f22 [.reg (.n :: .n :: []), .reg (.n :: .call (vi r3359) :: .n :: []), .reg (.n :: .n :: []), .br false, .reg (nN 3 []), .br false, .reg (nN 4 []), .reg (nN 3 []), .sub ⟨[(1, none), (7, none), (8, none), (24, none), (25, none), (26, none)], [none, some (flatMap (mpE vi) ([] : List (ByteArray × Int))), none], []⟩ (.exit 0) (nblank_FirstBatch_i22_l0_0_e0 a0 a1 a2 r3379), .reg (nN 3 []), .sub ⟨[(7, none), (8, none), (36, none), (37, none), (38, none)], [none, none, some (flatMap (mpE vb) ([] : List (ByteArray × Bool)))], []⟩ .ret (nblank_FirstBatch_i22_l1_0_e0 a0 a1 a2 r3653)]) :: nN 5 []), .reg (.n :: .n :: []), .br true, .reg (nN 3 [])]) (fr := true) (by kernel_rfl) (an (an (ti (ti (ti trivial))) (an e3657 (an (ti (ti trivial)) (an (not_t (decide_eq_false h3658)) (an (ti (ti (ti trivial))) trivial))))) (ti (ti trivial))) (Wv.refl _)
   | inr r3654 =>
    dsimp only at h
    have e3681 := (an (ti (an (show [] = flatMap (mpE vb) ([] : List (ByteArray × Bool)) from rfl) trivial)) (VRun.loop hph3651))
    have e3682 := (an (an Try.func22 (an (ti (ti trivial)) (an (an e3361 (an (ti (ti trivial)) (an (not_f (decide_eq_true h3362)) trivial))) (an (an (ti (ti (ti trivial))) (an (decide_eq_false h3363) trivial)) (an (ti (ti (ti (ti trivial)))) (an (an (ti (ti (ti trivial))) e3380) (an (an (ti (ti (ti trivial))) e3681) (an (ti (ti (ti trivial))) trivial)))))))) (ti (ti trivial)))
    have e3683 := (ti (ti (an e3682 (ti (ti (ti (ti (ti trivial))))))))
    have e3684 := (show (0:Int) <= 0 /\ (0:Int) < ((2 : Nat) : Int) from ⟨by decide, by decide⟩)
    obtain ⟨r3685, h3686, h⟩ := bs h
    have e3687 := (nblank_isWithin_ok k a2.e0 1 1000 _ h3686)
    rcases ifs h with ⟨h3688, h⟩ | ⟨h3688, h⟩
    ·have e3689 := (an (not_f h3688) (show (0:Int) <= 1 /\ (1:Int) < ((2 : Nat) : Int) from ⟨by decide, by decide⟩))
     obtain ⟨r3690, h3691, h⟩ := bs h
     have e3692 := (an (not_f h3688) (nblank_isWithin_ok k a2.e1 1 500 _ h3691))
     have e3693 := (an e3684 (ti (an e3687 (ti (ti (an e3689 (an (an (not_f h3688) trivial) (an e3692 (an (an (not_f h3688) trivial) (an (not_f h3688) trivial))))))))))
     rcases ifs h with ⟨h3694, h⟩ | ⟨h3694, h⟩
     ·obtain ⟨r3759, h3758, h⟩ := bs h
      have hph3758 := nblank_FirstBatch_l0_1_ok k a0 a2 r3654 _ _ _ _ _ h3758
      have e3760 := (an (ti trivial) (VRun.loop hph3758))
      rcases ifs h with ⟨h3761, h⟩ | ⟨h3761, h⟩
      ·injection h with h; subst h
       exact fun_ok pm pn Try.func9 (r0 := VV.tu [vs (⟨#[]⟩ : ByteArray), vi 12]) (ans := [.reg (nN 3 []), .reg (.n :: .n :: .inl (inlF Try.f22 [.reg (.n :: .n :: []), .reg (.n :: .call (vi r3359) :: .n :: []), .reg (.n :: .n :: []), .br false, .reg (nN 3 []), .br false, .reg (nN 4 []), .reg (nN 3 []), .sub ⟨[(1, none), (7, none), (8, none), (24, none), (25, none), (26, none)], [none, some (flatMap (mpE vi) ([] : List (ByteArray × Int))), none], []⟩ (.exit 0) (nblank_FirstBatch_i22_l0_0_e0 a0 a1 a2 r3379), .reg (nN 3 []), .sub ⟨[(7, none), (8, none), (36, none), (37, none), (38, none)], [none, none, some (flatMap (mpE vb) ([] : List (ByteArray × Bool)))], []⟩ (.exit 2) (nblank_FirstBatch_i22_l1_0_e1 a0 a1 a2 r3654), .reg (nN 3 [])]) :: nN 5 []), .reg (.n :: .n :: []), .br false, .reg (.n :: .n :: .call (vb r3685) :: nN 4 (.call (vb r3690) :: .n :: .b false :: [])), .br false, .reg (.n :: .n :: []), .reg (nN 3 []), .sub ⟨[(5, none), (8, none), (10, none), (11, none), (34, none), (35, none), (36, none)], [none, none], []⟩ (.exit 0) (nblank_FirstBatch_l0_1_e0 a0 a2 r3654 r3759), .reg (.n :: .n :: []), .br true, .reg (.n :: .n :: [])]) (fr := true) (by kernel_rfl) (an (an (ti (ti (ti trivial))) (an e3683 (an (an (ti (ti trivial)) (an (show (!(decide ((0 : Int) = 0))) = false from (not_f (decide_eq_true (by decide)))) trivial)) (an (an e3693 (an (not_f h3694) trivial)) (an (ti (ti trivial)) (an (an (ti (ti (ti trivial))) e3760) (an (ti (ti trivial)) (an (decide_eq_true h3761) (an (ti (ti trivial)) trivial))))))))) (ti (ti trivial))) (Wv.refl _)
      ·injection h with h; subst h
       exact fun_ok pm pn Try.func9 (r0 := VV.tu [vs r3759, vi 0]) (ans := [.reg (nN 3 []), .reg (.n :: .n :: .inl (inlF Try.f22 [.reg (.n :: .n :: []), .reg (.n :: .call (vi r3359) :: .n :: []), .reg (.n :: .n :: []), .br false, .reg (nN 3 []), .br false, .reg (nN 4 []), .reg (nN 3 []), .sub ⟨[(1, none), (7, none), (8, none), (24, none), (25, none), (26, none)], [none, some (flatMap (mpE vi) ([] : List (ByteArray × Int))), none], []⟩ (.exit 0) (nblank_FirstBatch_i22_l0_0_e0 a0 a1 a2 r3379), .reg (nN 3 []), .sub ⟨[(7, none), (8, none), (36, none), (37, none), (38, none)], [none, none, some (flatMap (mpE vb) ([] : List (ByteArray × Bool)))], []⟩ (.exit 2) (nblank_FirstBatch_i22_l1_0_e1 a0 a1 a2 r3654), .reg (nN 3 [])]) :: nN 5 []), .reg (.n :: .n :: []), .br false, .reg (.n :: .n :: .call (vb r3685) :: nN 4 (.call (vb r3690) :: .n :: .b false :: [])), .br false, .reg (.n :: .n :: []), .reg (nN 3 []), .sub ⟨[(5, none), (8, none), (10, none), (11, none), (34, none), (35, none), (36, none)], [none, none], []⟩ (.exit 0) (nblank_FirstBatch_l0_1_e0 a0 a2 r3654 r3759), .reg (.n :: .n :: []), .br false, .reg (nN 3 [])]) (fr := true) (by kernel_rfl) (an (an (ti (ti (ti trivial))) (an e3683 (an (an (ti (ti trivial)) (an (show (!(decide ((0 : Int) = 0))) = false from (not_f (decide_eq_true (by decide)))) trivial)) (an (an e3693 (an (not_f h3694) trivial)) (an (ti (ti trivial)) (an (an (ti (ti (ti trivial))) e3760) (an (an (ti (ti trivial)) (an (decide_eq_false h3761) trivial)) (an (ti (ti (ti trivial))) trivial)))))))) (ti (ti trivial))) (Wv.refl _)
     ·injection h with h; subst h
      exact fun_ok pm pn Try.func9 (r0 := VV.tu [vs (⟨#[]⟩ : ByteArray), vi 2]) (ans := [.reg (nN 3 []), .reg (.n :: .n :: .inl (inlF Try.f22 [.reg (.n :: .n :: []), .reg (.n :: .call (vi r3359) :: .n :: []), .reg (.n :: .n :: []), .br false, .reg (nN 3 []), .br false, .reg (nN 4 []), .reg (nN 3 []), .sub ⟨[(1, none), (7, none), (8, none), (24, none), (25, none), (26, none)], [none, some (flatMap (mpE vi) ([] : List (ByteArray × Int))), none], []⟩ (.exit 0) (nblank_FirstBatch_i22_l0_0_e0 a0 a1 a2 r3379), .reg (nN 3 []), .sub ⟨[(7, none), (8, none), (36, none), (37, none), (38, none)], [none, none, some (flatMap (mpE vb) ([] : List (ByteArray × Bool)))], []⟩ (.exit 2) (nblank_FirstBatch_i22_l1_0_e1 a0 a1 a2 r3654), .reg (nN 3 [])]) :: nN 5 []), .reg (.n :: .n :: []), .br false, .reg (.n :: .n :: .call (vb r3685) :: nN 4 (.call (vb r3690) :: .n :: .b false :: [])), .br true, .reg (.n :: .n :: [])]) (fr := true) (by kernel_rfl) (an (an (ti (ti (ti trivial))) (an e3683 (an (an (ti (ti trivial)) (an (show (!(decide ((0 : Int) = 0))) = false from (not_f (decide_eq_true (by decide)))) trivial)) (an e3693 (an (not_t (bool_f h3694)) (an (ti (ti trivial)) trivial)))))) (ti (ti trivial))) (Wv.refl _)
    ·have e3762 := (an e3684 (ti (an e3687 (ti (ti (an (not_t (bool_f h3688)) (an (not_t (bool_f h3688)) (an (not_t (bool_f h3688)) (an (not_t (bool_f h3688)) (an (not_t (bool_f h3688)) trivial))))))))))
     injection h with h; subst h
     exact fun_ok pm pn Try.func9 (r0 := VV.tu [vs (⟨#[]⟩ : ByteArray), vi 2]) (ans := [.reg (nN 3 []), .reg (.n :: .n :: .inl (inlF Try.f22 [.reg (.n :: .n :: []), .reg (.n :: .call (vi r3359) :: .n :: []), .reg (.n :: .n :: []), .br false, .reg (nN 3 []), .br false, .reg (nN 4 []), .reg (nN 3 []), .sub ⟨[(1, none), (7, none), (8, none), (24, none), (25, none), (26, none)], [none, some (flatMap (mpE vi) ([] : List (ByteArray × Int))), none], []⟩ (.exit 0) (nblank_FirstBatch_i22_l0_0_e0 a0 a1 a2 r3379), .reg (nN 3 []), .sub ⟨[(7, none), (8, none), (36, none), (37, none), (38, none)], [none, none, some (flatMap (mpE vb) ([] : List (ByteArray × Bool)))], []⟩ (.exit 2) (nblank_FirstBatch_i22_l1_0_e1 a0 a1 a2 r3654), .reg (nN 3 [])]) :: nN 5 []), .reg (.n :: .n :: []), .br false, .reg (.n :: .n :: .call (vb r3685) :: .n :: .n :: nS 4 (.b true :: [])), .br true, .reg (.n :: .n :: [])]) (fr := true) (by kernel_rfl) (an (an (ti (ti (ti trivial))) (an e3683 (an (an (ti (ti trivial)) (an (show (!(decide ((0 : Int) = 0))) = false from (not_f (decide_eq_true (by decide)))) trivial)) (an e3762 (an rt (an (ti (ti trivial)) trivial)))))) (ti (ti trivial))) (Wv.refl _)
 ·have e3763 := (an (an Try.func22 (an (ti (ti trivial)) (an e3361 (an (ti (ti trivial)) (an (not_t (decide_eq_false h3362)) (an (ti (ti (ti trivial))) trivial)))))) (ti (ti trivial)))
  have e3764 := (ti (ti (an e3763 (ti (ti (ti (ti (ti trivial))))))))
  injection h with h; subst h
  exact fun_ok pm pn Try.func9 (r0 := VV.tu [vs (⟨#[]⟩ : ByteArray), vi r3359]) (ans := [.reg (nN 3 []), .reg (arS3_15 r3359), .reg (.n :: .n :: []), .br true, .reg (nN 3 [])]) (fr := true) (by kernel_rfl) (an (an (ti (ti (ti trivial))) (an e3764 (an (ti (ti trivial)) (an (not_t (decide_eq_false h3362)) (an (ti (ti (ti trivial))) trivial))))) (ti (ti trivial))) (Wv.refl _)
def arS3_16 (z0 : (List SGlassPromise)) (z1 : Int) (z2 : (List SGlassBatch)) (z3 : Int) : List Ans := (nN 4 (.v (vs ((z0.getD z1.toNat default).Batch)) :: nN 4 (.v (vs ((z2.getD z3.toNat default).Name)) :: .n :: [])))
def nspeculumref03_left_l0_0_h (a0 : (List SGlassBatch)) (a1 : (List SGlassPromise)) (a2 : Int) (x7 : Int) (x8 : Int) : VS := ⟨mkA [(0, VV.tr (flatMap c_SGlassBatch a0) a0.length), (1, VV.tr (flatMap c_SGlassPromise a1) a1.length), (2, vi a2), (7, vi x7), (8, vi x8)], [], .nil⟩
def nspeculumref03_left_l0_0_e0 (a0 : (List SGlassBatch)) (a1 : (List SGlassPromise)) (a2 : Int) (r : Int) : VS := ⟨mkA [(7, vi r)], [], .nil⟩
def nspeculumref03_left_l0_0 (k : Nat) (a0 : (List SGlassBatch)) (a1 : (List SGlassPromise)) (a2 : Int) : Nat -> Int -> Int -> Option (Int)
 | 0, _, _ => none
 | fuel + 1, x7, x8 => if x8 < (a1.length : Int) then (if 0 <= x8 /\ x8 < (a1.length : Int) then (if 0 <= a2 /\ a2 < (a0.length : Int) then (if ((a1.getD x8.toNat default).Batch) = ((a0.getD a2.toNat default).Name) then (nspeculumref03_left_l0_0 k a0 a1 a2 fuel (w64 (x7 - 1)) (w64 (x8 + 1))) else (nspeculumref03_left_l0_0 k a0 a1 a2 fuel x7 (w64 (x8 + 1)))) else none) else none) else (some x7)
theorem nspeculumref03_left_l0_0_ok (k : Nat) (a0 : (List SGlassBatch)) (a1 : (List SGlassPromise)) (a2 : Int) : ∀ (fuel : Nat) (x7 : Int) (x8 : Int) (r : Int), nspeculumref03_left_l0_0 k a0 a1 a2 fuel x7 x8 = some r -> (VLoop none Try.prog (szF Try.f26) (bodyOf Try.f26 0) (nspeculumref03_left_l0_0_h a0 a1 a2 x7 x8) (.exit 0) (nspeculumref03_left_l0_0_e0 a0 a1 a2 r)) := by
 intro fuel
 induction fuel with
 | zero => intro x7 x8 r h; rw [nspeculumref03_left_l0_0.eq_1] at h; cases h
 | succ fuel ih =>
  intro x7 x8 r h
  rw [nspeculumref03_left_l0_0.eq_2] at h
  rcases ifs h with ⟨h3831, h⟩ | ⟨h3831, h⟩
  ·obtain ⟨h3832, h⟩ := ifn h
   have e3833 := (show loadL Try.prog 9 (x8.toNat * 2 + 1) (flatMap c_SGlassPromise a1) = some (vs ((a1.getD x8.toNat default).Batch)) from (ld_flat ag9 c_SGlassPromise 2 1 len_c_SGlassPromise (by omega) a1 default h3832 (by omega)).trans rfl)
   obtain ⟨h3834, h⟩ := ifn h
   have e3835 := (show loadL Try.prog 9 (a2.toNat * 4 + 0) (flatMap c_SGlassBatch a0) = some (vs ((a0.getD a2.toNat default).Name)) from (ld_flat ag9 c_SGlassBatch 4 0 len_c_SGlassBatch (by omega) a0 default h3834 (by omega)).trans rfl)
   have e3836 := (ti (ti (an h3832 (ti (an e3833 (ti (ti (an h3834 (ti (an e3835 (ti trivial)))))))))))
   rcases ifs h with ⟨h3837, h⟩ | ⟨h3837, h⟩
   ·have h2 := ih _ _ _ h
    obtain ⟨q, hv, hq⟩ := pkR (rd := none) (P := Try.prog) (fn := Try.f26) (k := 0) (s := (nspeculumref03_left_l0_0_h a0 a1 a2 x7 x8)) (ans := [.reg (nN 4 []), .br true, .reg (arS3_16 a1 x8 a0 a2), .br true, .reg (nN 3 []), .reg (nN 3 [])]) (c := ⟨[(0, none), (1, none), (2, none), (7, none), (8, none)], [], []⟩) (e := .normal) (s1 := (nspeculumref03_left_l0_0_h a0 a1 a2 (w64 (x7 - 1)) (w64 (x8 + 1)))) (an (an (an (ti (ti (ti (ti trivial)))) (an (decide_eq_true h3831) trivial)) (an (an e3836 (an (decide_eq_true h3837) (ti (ti (ti trivial))))) (ti (ti (ti trivial))))) (ti trivial)) (by kernel_rfl)
    exact round_next pm pn hv hq h2
   ·have h2 := ih _ _ _ h
    obtain ⟨q, hv, hq⟩ := pkR (rd := none) (P := Try.prog) (fn := Try.f26) (k := 0) (s := (nspeculumref03_left_l0_0_h a0 a1 a2 x7 x8)) (ans := [.reg (nN 4 []), .br true, .reg (arS3_16 a1 x8 a0 a2), .br false, .reg (nN 3 [])]) (c := ⟨[(0, none), (1, none), (2, none), (7, none), (8, none)], [], []⟩) (e := .normal) (s1 := (nspeculumref03_left_l0_0_h a0 a1 a2 x7 (w64 (x8 + 1)))) (an (an (an (ti (ti (ti (ti trivial)))) (an (decide_eq_true h3831) trivial)) (an (an e3836 (an (decide_eq_false h3837) trivial)) (ti (ti (ti trivial))))) (ti trivial)) (by kernel_rfl)
    exact round_next pm pn hv hq h2
  ·injection h with h; subst h
   exact round_stop (c := ⟨[(7, none)], [], []⟩) (s1 := (nspeculumref03_left_l0_0_e0 a0 a1 a2 x7)) pm pn (ans := [.reg (nN 4 []), .br false]) (by kernel_rfl) (by intro e; cases e) (an (an (ti (ti (ti (ti trivial)))) (an (decide_eq_false h3831) trivial)) (ti trivial))
def nspeculumref03_left (k : Nat) (a0 : (List SGlassBatch)) (a1 : (List SGlassPromise)) (a2 : Int) : Option Int :=
 if 0 <= a2 /\ a2 < (a0.length : Int) then ((nspeculumref03_left_l0_0 k a0 a1 a2 k ((a0.getD a2.toNat default).Count) 0).bind fun r3839 => (some r3839)) else none
theorem nspeculumref03_left_ok (k : Nat) (a0 : (List SGlassBatch)) (a1 : (List SGlassPromise)) (a2 : Int) (r : Int) (h : nspeculumref03_left k a0 a1 a2 = some r) : VC Try.prog 26 [VV.tr (flatMap c_SGlassBatch a0) a0.length, VV.tr (flatMap c_SGlassPromise a1) a1.length, vi a2] (vi r) := by
 unfold nspeculumref03_left at h
 obtain ⟨h3815, h⟩ := ifn h
 have e3816 := (show loadL Try.prog 3 (a2.toNat * 4 + 3) (flatMap c_SGlassBatch a0) = some (vi ((a0.getD a2.toNat default).Count)) from (ld_flat ag3 c_SGlassBatch 4 3 len_c_SGlassBatch (by omega) a0 default h3815 (by omega)).trans rfl)
 obtain ⟨r3839, h3838, h⟩ := bs h
 have hph3838 := nspeculumref03_left_l0_0_ok k a0 a1 a2 _ _ _ _ h3838
 have e3840 := (an (ti trivial) (VRun.loop hph3838))
 injection h with h; subst h
 exact fun_ok pm pn Try.func26 (r0 := vi r3839) (ans := [.reg (.n :: []), .reg (nN 4 (.v (vi ((a0.getD a2.toNat default).Count)) :: .n :: [])), .reg (.n :: []), .sub ⟨[(0, none), (1, none), (2, none), (7, none), (8, none)], [], []⟩ (.exit 0) (nspeculumref03_left_l0_0_e0 a0 a1 a2 r3839), .reg (.n :: .n :: [])]) (fr := true) (by kernel_rfl) (an (an (ti trivial) (an (ti (ti (an h3815 (ti (an e3816 (ti trivial)))))) (an (an (ti trivial) e3840) (an (ti (ti trivial)) trivial)))) (ti trivial)) (Wv.refl _)
def arS3_17 (z0 : (List SGlassPromise)) (z1 : Int) (z2 : Int) : List Ans := (nN 4 (.v (vs ((z0.getD z1.toNat default).Mirror)) :: nN 4 (.v (vs ((z0.getD z2.toNat default).Mirror)) :: .n :: [])))
def arS3_18 (z0 : (List SGlassPromise)) (z1 : Int) (z2 : Int) : List Ans := (nN 3 (.v (VV.tr (flatMap c_SGlassPromise (sl z0 0 ((z1).toNat))) ((sl z0 0 ((z1).toNat)).length)) :: .n :: .call (vi z2) :: .n :: []))
def nspeculumref03_CheckPromises_l1_0_h (a0 : (List SGlassBatch)) (a1 : (List SGlassPromise)) (x6 : Int) (x7 : Int) : VS := ⟨mkA [(0, VV.tr (flatMap c_SGlassBatch a0) a0.length), (1, VV.tr (flatMap c_SGlassPromise a1) a1.length), (6, vi x6), (7, vi x7)], [], .nil⟩
def nspeculumref03_CheckPromises_l1_0_e0 (a0 : (List SGlassBatch)) (a1 : (List SGlassPromise)) (x6 : Int) (r : Unit) : VS := ⟨mkA [(4, vi 5)], [], .nil⟩
def nspeculumref03_CheckPromises_l1_0_e1 (a0 : (List SGlassBatch)) (a1 : (List SGlassPromise)) (x6 : Int) (r : Unit) : VS := ⟨mkA [(0, VV.tr (flatMap c_SGlassBatch a0) a0.length), (1, VV.tr (flatMap c_SGlassPromise a1) a1.length), (6, vi x6)], [], .nil⟩
def nspeculumref03_CheckPromises_l1_0 (k : Nat) (a0 : (List SGlassBatch)) (a1 : (List SGlassPromise)) (x6 : Int) : Nat -> Int -> Option (Sum Unit Unit)
 | 0, _ => none
 | fuel + 1, x7 => if x7 < x6 then (if 0 <= x7 /\ x7 < (a1.length : Int) then (if 0 <= x6 /\ x6 < (a1.length : Int) then (if ((a1.getD x7.toNat default).Mirror) = ((a1.getD x6.toNat default).Mirror) then (some (.inl ())) else (nspeculumref03_CheckPromises_l1_0 k a0 a1 x6 fuel (w64 (x7 + 1)))) else none) else none) else (some (.inr ()))
theorem nspeculumref03_CheckPromises_l1_0_ok (k : Nat) (a0 : (List SGlassBatch)) (a1 : (List SGlassPromise)) (x6 : Int) : ∀ (fuel : Nat) (x7 : Int) (r : Sum Unit Unit), nspeculumref03_CheckPromises_l1_0 k a0 a1 x6 fuel x7 = some r -> (match r with | .inl r => VLoop none Try.prog (szF Try.f10) (bodyOf Try.f10 1) (nspeculumref03_CheckPromises_l1_0_h a0 a1 x6 x7) .ret (nspeculumref03_CheckPromises_l1_0_e0 a0 a1 x6 r) | .inr r => VLoop none Try.prog (szF Try.f10) (bodyOf Try.f10 1) (nspeculumref03_CheckPromises_l1_0_h a0 a1 x6 x7) (.exit 2) (nspeculumref03_CheckPromises_l1_0_e1 a0 a1 x6 r)) := by
 intro fuel
 induction fuel with
 | zero => intro x7 r h; rw [nspeculumref03_CheckPromises_l1_0.eq_1] at h; cases h
 | succ fuel ih =>
  intro x7 r h
  rw [nspeculumref03_CheckPromises_l1_0.eq_2] at h
  rcases ifs h with ⟨h4047, h⟩ | ⟨h4047, h⟩
  ·obtain ⟨h4048, h⟩ := ifn h
   have e4049 := (show loadL Try.prog 9 (x7.toNat * 2 + 0) (flatMap c_SGlassPromise a1) = some (vs ((a1.getD x7.toNat default).Mirror)) from (ld_flat ag9 c_SGlassPromise 2 0 len_c_SGlassPromise (by omega) a1 default h4048 (by omega)).trans rfl)
   obtain ⟨h4050, h⟩ := ifn h
   have e4051 := (show loadL Try.prog 9 (x6.toNat * 2 + 0) (flatMap c_SGlassPromise a1) = some (vs ((a1.getD x6.toNat default).Mirror)) from (ld_flat ag9 c_SGlassPromise 2 0 len_c_SGlassPromise (by omega) a1 default h4050 (by omega)).trans rfl)
   have e4052 := (ti (ti (an h4048 (ti (an e4049 (ti (ti (an h4050 (ti (an e4051 (ti trivial)))))))))))
   rcases ifs h with ⟨h4053, h⟩ | ⟨h4053, h⟩
   ·injection h with h; subst h
    exact round_stop (c := ⟨[(4, none)], [], []⟩) (s1 := (nspeculumref03_CheckPromises_l1_0_e0 a0 a1 x6 ())) pm pn (ans := [.reg (nN 3 []), .br true, .reg (arS3_17 a1 x7 x6), .br true, .reg (.n :: [])]) (by kernel_rfl) (by intro e; cases e) (an (an (an (ti (ti (ti trivial))) (an (decide_eq_true h4047) trivial)) (an e4052 (an (decide_eq_true h4053) (an (ti trivial) trivial)))) (ti trivial))
   ·have h2 := ih _ _ h
    obtain ⟨q, hv, hq⟩ := pkR (rd := none) (P := Try.prog) (fn := Try.f10) (k := 1) (s := (nspeculumref03_CheckPromises_l1_0_h a0 a1 x6 x7)) (ans := [.reg (nN 3 []), .br true, .reg (arS3_17 a1 x7 x6), .br false, .reg (nN 3 [])]) (c := ⟨[(0, none), (1, none), (6, none), (7, none)], [], []⟩) (e := .normal) (s1 := (nspeculumref03_CheckPromises_l1_0_h a0 a1 x6 (w64 (x7 + 1)))) (an (an (an (ti (ti (ti trivial))) (an (decide_eq_true h4047) trivial)) (an (an e4052 (an (decide_eq_false h4053) trivial)) (ti (ti (ti trivial))))) (ti trivial)) (by kernel_rfl)
    cases r with
    | inl r => exact round_next pm pn hv hq h2
    | inr r =>
     exact round_next pm pn hv hq h2
  ·injection h with h; subst h
   exact round_stop (c := ⟨[(0, none), (1, none), (6, none)], [], []⟩) (s1 := (nspeculumref03_CheckPromises_l1_0_e1 a0 a1 x6 ())) pm pn (ans := [.reg (nN 3 []), .br false]) (by kernel_rfl) (by intro e; cases e) (an (an (ti (ti (ti trivial))) (an (decide_eq_false h4047) trivial)) (ti trivial))
def nspeculumref03_CheckPromises_l0_0_h (a0 : (List SGlassBatch)) (a1 : (List SGlassPromise)) (x6 : Int) : VS := ⟨mkA [(0, VV.tr (flatMap c_SGlassBatch a0) a0.length), (1, VV.tr (flatMap c_SGlassPromise a1) a1.length), (6, vi x6)], [], .nil⟩
def nspeculumref03_CheckPromises_l0_0_e0 (a0 : (List SGlassBatch)) (a1 : (List SGlassPromise)) (r : Int) : VS := ⟨mkA [(4, vi r)], [], .nil⟩
def nspeculumref03_CheckPromises_l0_0_e1 (a0 : (List SGlassBatch)) (a1 : (List SGlassPromise)) (r : Unit) : VS := ⟨mkA [], [], .nil⟩
def nspeculumref03_CheckPromises_l0_0 (k : Nat) (a0 : (List SGlassBatch)) (a1 : (List SGlassPromise)) : Nat -> Int -> Option (Sum Int Unit)
 | 0, _ => none
 | fuel + 1, x6 => if x6 < (a1.length : Int) then (if 0 <= x6 /\ x6 < (a1.length : Int) then ((nspeculumbase_IsName k ((a1.getD x6.toNat default).Mirror)).bind fun r4028 => (if r4028 = true then ((nspeculumref03_CheckPromises_l1_0 k a0 a1 x6 k 0).bind fun r4055 => (match r4055 with | .inl r4056 => (some (.inl 5)) | .inr r4057 => ((nspeculumref03_BatchAt k a0 ((a1.getD x6.toNat default).Batch)).bind fun r4061 => (if r4061 < 0 then (some (.inl 6)) else (if 0 <= (0 : Int) /\ (0 : Int) <= x6 /\ x6 <= (a1.length : Int) then ((nspeculumref03_left k a0 (sl a1 0 ((x6).toNat)) r4061).bind fun r4068 => (if r4068 < 1 then (some (.inl 20)) else (nspeculumref03_CheckPromises_l0_0 k a0 a1 fuel (w64 (x6 + 1))))) else none))))) else (some (.inl 4)))) else none) else (some (.inr ()))
theorem nspeculumref03_CheckPromises_l0_0_ok (k : Nat) (a0 : (List SGlassBatch)) (a1 : (List SGlassPromise)) : ∀ (fuel : Nat) (x6 : Int) (r : Sum Int Unit), nspeculumref03_CheckPromises_l0_0 k a0 a1 fuel x6 = some r -> (match r with | .inl r => VLoop none Try.prog (szF Try.f10) (bodyOf Try.f10 0) (nspeculumref03_CheckPromises_l0_0_h a0 a1 x6) .ret (nspeculumref03_CheckPromises_l0_0_e0 a0 a1 r) | .inr r => VLoop none Try.prog (szF Try.f10) (bodyOf Try.f10 0) (nspeculumref03_CheckPromises_l0_0_h a0 a1 x6) (.exit 0) (nspeculumref03_CheckPromises_l0_0_e1 a0 a1 r)) := by
 intro fuel
 induction fuel with
 | zero => intro x6 r h; rw [nspeculumref03_CheckPromises_l0_0.eq_1] at h; cases h
 | succ fuel ih =>
  intro x6 r h
  rw [nspeculumref03_CheckPromises_l0_0.eq_2] at h
  rcases ifs h with ⟨h4025, h⟩ | ⟨h4025, h⟩
  ·obtain ⟨h4026, h⟩ := ifn h
   have e4027 := (show loadL Try.prog 9 (x6.toNat * 2 + 0) (flatMap c_SGlassPromise a1) = some (vs ((a1.getD x6.toNat default).Mirror)) from (ld_flat ag9 c_SGlassPromise 2 0 len_c_SGlassPromise (by omega) a1 default h4026 (by omega)).trans rfl)
   obtain ⟨r4028, h4029, h⟩ := bs h
   have e4030 := (nspeculumbase_IsName_ok k ((a1.getD x6.toNat default).Mirror) _ h4029)
   have e4031 := (ti (ti (an h4026 (ti (an e4027 (an e4030 (ti trivial)))))))
   rcases ifs h with ⟨h4032, h⟩ | ⟨h4032, h⟩
   ·obtain ⟨r4055, h4054, h⟩ := bs h
    have hph4054 := nspeculumref03_CheckPromises_l1_0_ok k a0 a1 x6 _ _ _ h4054
    cases r4055 with
    | inl r4056 =>
     dsimp only at h
     have e4058 := (an (ti trivial) (VRun.loop hph4054))
     injection h with h; subst h
     exact round_stop (c := ⟨[(4, none)], [], []⟩) (s1 := (nspeculumref03_CheckPromises_l0_0_e0 a0 a1 5)) pm pn (ans := [.reg (nN 4 []), .br true, .reg (nN 4 (.v (vs ((a1.getD x6.toNat default).Mirror)) :: .call (vb r4028) :: .n :: [])), .br false, .reg (.n :: []), .sub ⟨[(0, none), (1, none), (6, none), (7, none)], [], []⟩ .ret (nspeculumref03_CheckPromises_l1_0_e0 a0 a1 x6 r4056)]) (by kernel_rfl) (by intro e; cases e) (an (an (an (ti (ti (ti (ti trivial)))) (an (decide_eq_true h4025) trivial)) (an (an e4031 (an (not_f h4032) trivial)) (an (ti trivial) e4058))) (ti trivial))
    | inr r4057 =>
     dsimp only at h
     have e4059 := (an (ti trivial) (VRun.loop hph4054))
     have e4060 := (show loadL Try.prog 9 (x6.toNat * 2 + 1) (flatMap c_SGlassPromise a1) = some (vs ((a1.getD x6.toNat default).Batch)) from (ld_flat ag9 c_SGlassPromise 2 1 len_c_SGlassPromise (by omega) a1 default h4026 (by omega)).trans rfl)
     obtain ⟨r4061, h4062, h⟩ := bs h
     have e4063 := (nspeculumref03_BatchAt_ok k a0 ((a1.getD x6.toNat default).Batch) _ h4062)
     have e4064 := (ti (ti (ti (an h4026 (ti (an e4060 (an e4063 (ti trivial))))))))
     rcases ifs h with ⟨h4065, h⟩ | ⟨h4065, h⟩
     ·injection h with h; subst h
      exact round_stop (c := ⟨[(4, none)], [], []⟩) (s1 := (nspeculumref03_CheckPromises_l0_0_e0 a0 a1 6)) pm pn (ans := [.reg (nN 4 []), .br true, .reg (nN 4 (.v (vs ((a1.getD x6.toNat default).Mirror)) :: .call (vb r4028) :: .n :: [])), .br false, .reg (.n :: []), .sub ⟨[(0, none), (1, none), (6, none), (7, none)], [], []⟩ (.exit 2) (nspeculumref03_CheckPromises_l1_0_e1 a0 a1 x6 r4057), .reg (nN 5 (.v (vs ((a1.getD x6.toNat default).Batch)) :: .call (vi r4061) :: .n :: [])), .reg (.n :: .n :: []), .br true, .reg (.n :: [])]) (by kernel_rfl) (by intro e; cases e) (an (an (an (ti (ti (ti (ti trivial)))) (an (decide_eq_true h4025) trivial)) (an (an e4031 (an (not_f h4032) trivial)) (an (an (ti trivial) e4059) (an e4064 (an (ti (ti trivial)) (an (decide_eq_true h4065) (an (ti trivial) trivial))))))) (ti trivial))
     ·obtain ⟨h4066, h⟩ := ifn h
      have e4067 := (show (True /\ 0 <= x6 /\ 0 <= (x6).toNat /\ (x6).toNat <= a1.length /\ (x6).toNat * 2 <= List.length (flatMap c_SGlassPromise a1)) /\ VV.tr (List.take (((x6).toNat - 0) * 2) (List.drop (0 * 2) (flatMap c_SGlassPromise a1))) ((x6).toNat - 0) = VV.tr (flatMap c_SGlassPromise (sl a1 0 ((x6).toNat))) ((sl a1 0 ((x6).toNat)).length) from ⟨⟨trivial, (by have := h4066; omega), (by have := h4066; omega), (by have := h4066; omega), (by rw [flatMap_len len_c_SGlassPromise]; have := h4066; omega)⟩, (by exact sl_flat len_c_SGlassPromise a1 0 ((x6).toNat) (by have := h4066; omega) (by have := h4066; omega))⟩)
      obtain ⟨r4068, h4069, h⟩ := bs h
      have e4070 := (nspeculumref03_left_ok k a0 (sl a1 0 ((x6).toNat)) r4061 _ h4069)
      have e4071 := (ti (ti (ti (an e4067 (ti (an e4070 (ti trivial)))))))
      rcases ifs h with ⟨h4072, h⟩ | ⟨h4072, h⟩
      ·injection h with h; subst h
       exact round_stop (c := ⟨[(4, none)], [], []⟩) (s1 := (nspeculumref03_CheckPromises_l0_0_e0 a0 a1 20)) pm pn (ans := [.reg (nN 4 []), .br true, .reg (nN 4 (.v (vs ((a1.getD x6.toNat default).Mirror)) :: .call (vb r4028) :: .n :: [])), .br false, .reg (.n :: []), .sub ⟨[(0, none), (1, none), (6, none), (7, none)], [], []⟩ (.exit 2) (nspeculumref03_CheckPromises_l1_0_e1 a0 a1 x6 r4057), .reg (nN 5 (.v (vs ((a1.getD x6.toNat default).Batch)) :: .call (vi r4061) :: .n :: [])), .reg (.n :: .n :: []), .br false, .reg (arS3_18 a1 x6 r4068), .br true, .reg (.n :: [])]) (by kernel_rfl) (by intro e; cases e) (an (an (an (ti (ti (ti (ti trivial)))) (an (decide_eq_true h4025) trivial)) (an (an e4031 (an (not_f h4032) trivial)) (an (an (ti trivial) e4059) (an e4064 (an (an (ti (ti trivial)) (an (decide_eq_false h4065) trivial)) (an e4071 (an (decide_eq_true h4072) (an (ti trivial) trivial)))))))) (ti trivial))
      ·have h2 := ih _ _ h
       obtain ⟨q, hv, hq⟩ := pkR (rd := none) (P := Try.prog) (fn := Try.f10) (k := 0) (s := (nspeculumref03_CheckPromises_l0_0_h a0 a1 x6)) (ans := [.reg (nN 4 []), .br true, .reg (nN 4 (.v (vs ((a1.getD x6.toNat default).Mirror)) :: .call (vb r4028) :: .n :: [])), .br false, .reg (.n :: []), .sub ⟨[(0, none), (1, none), (6, none), (7, none)], [], []⟩ (.exit 2) (nspeculumref03_CheckPromises_l1_0_e1 a0 a1 x6 r4057), .reg (nN 5 (.v (vs ((a1.getD x6.toNat default).Batch)) :: .call (vi r4061) :: .n :: [])), .reg (.n :: .n :: []), .br false, .reg (arS3_18 a1 x6 r4068), .br false, .reg (nN 3 [])]) (c := ⟨[(0, none), (1, none), (6, none)], [], []⟩) (e := .normal) (s1 := (nspeculumref03_CheckPromises_l0_0_h a0 a1 (w64 (x6 + 1)))) (an (an (an (ti (ti (ti (ti trivial)))) (an (decide_eq_true h4025) trivial)) (an (an (an e4031 (an (not_f h4032) trivial)) (an (an (ti trivial) e4059) (an e4064 (an (an (ti (ti trivial)) (an (decide_eq_false h4065) trivial)) (an e4071 (an (decide_eq_false h4072) trivial)))))) (ti (ti (ti trivial))))) (ti trivial)) (by kernel_rfl)
       cases r with
       | inl r => exact round_next pm pn hv hq h2
       | inr r =>
        exact round_next pm pn hv hq h2
   ·injection h with h; subst h
    exact round_stop (c := ⟨[(4, none)], [], []⟩) (s1 := (nspeculumref03_CheckPromises_l0_0_e0 a0 a1 4)) pm pn (ans := [.reg (nN 4 []), .br true, .reg (nN 4 (.v (vs ((a1.getD x6.toNat default).Mirror)) :: .call (vb r4028) :: .n :: [])), .br true, .reg (.n :: [])]) (by kernel_rfl) (by intro e; cases e) (an (an (an (ti (ti (ti (ti trivial)))) (an (decide_eq_true h4025) trivial)) (an e4031 (an (not_t (bool_f h4032)) (an (ti trivial) trivial)))) (ti trivial))
  ·injection h with h; subst h
   exact round_stop (c := ⟨[], [], []⟩) (s1 := (nspeculumref03_CheckPromises_l0_0_e1 a0 a1 ())) pm pn (ans := [.reg (nN 4 []), .br false]) (by kernel_rfl) (by intro e; cases e) (an (an (ti (ti (ti (ti trivial)))) (an (decide_eq_false h4025) trivial)) (ti trivial))
def nspeculumref03_CheckPromises (k : Nat) (a0 : (List SGlassBatch)) (a1 : (List SGlassPromise)) : Option Int :=
 (nspeculumref03_CheckBatches k a0).bind fun r3948 => (if r3948 = 0 then (if 200 < (a1.length : Int) then (some 8) else ((nspeculumref03_CheckPromises_l0_0 k a0 a1 k 0).bind fun r4074 => (match r4074 with | .inl r4075 => (some r4075) | .inr r4076 => (some 0)))) else (some r3948))
theorem nspeculumref03_CheckPromises_ok (k : Nat) (a0 : (List SGlassBatch)) (a1 : (List SGlassPromise)) (r : Int) (h : nspeculumref03_CheckPromises k a0 a1 = some r) : VC Try.prog 10 [VV.tr (flatMap c_SGlassBatch a0) a0.length, VV.tr (flatMap c_SGlassPromise a1) a1.length] (vi r) := by
 unfold nspeculumref03_CheckPromises at h
 obtain ⟨r3948, h3949, h⟩ := bs h
 have e3950 := (nspeculumref03_CheckBatches_ok k a0 _ h3949)
 rcases ifs h with ⟨h3951, h⟩ | ⟨h3951, h⟩
 ·rcases ifs h with ⟨h3952, h⟩ | ⟨h3952, h⟩
  ·injection h with h; subst h
   exact fun_ok pm pn Try.func10 (r0 := vi 8) (ans := [.reg (.n :: []), .reg (.n :: .call (vi r3948) :: .n :: []), .reg (.n :: .n :: []), .br false, .reg (nN 3 []), .br true, .reg (.n :: [])]) (fr := true) (by kernel_rfl) (an (an (ti trivial) (an (an (ti (an e3950 (ti trivial))) (an (ti (ti trivial)) (an (not_f (decide_eq_true h3951)) trivial))) (an (ti (ti (ti trivial))) (an (decide_eq_true h3952) (an (ti trivial) trivial))))) (ti trivial)) (Wv.refl _)
  ·obtain ⟨r4074, h4073, h⟩ := bs h
   have hph4073 := nspeculumref03_CheckPromises_l0_0_ok k a0 a1 _ _ _ h4073
   cases r4074 with
   | inl r4075 =>
    dsimp only at h
    have e4077 := (an (ti trivial) (VRun.loop hph4073))
    injection h with h; subst h
    exact fun_ok pm pn Try.func10 (r0 := vi r4075) (ans := [.reg (.n :: []), .reg (.n :: .call (vi r3948) :: .n :: []), .reg (.n :: .n :: []), .br false, .reg (nN 3 []), .br false, .reg (.n :: []), .sub ⟨[(0, none), (1, none), (6, none)], [], []⟩ .ret (nspeculumref03_CheckPromises_l0_0_e0 a0 a1 r4075)]) (fr := true) (by kernel_rfl) (an (an (ti trivial) (an (an (ti (an e3950 (ti trivial))) (an (ti (ti trivial)) (an (not_f (decide_eq_true h3951)) trivial))) (an (an (ti (ti (ti trivial))) (an (decide_eq_false h3952) trivial)) (an (ti trivial) e4077)))) (ti trivial)) (Wv.refl _)
   | inr r4076 =>
    dsimp only at h
    have e4078 := (an (ti trivial) (VRun.loop hph4073))
    injection h with h; subst h
    exact fun_ok pm pn Try.func10 (r0 := vi 0) (ans := [.reg (.n :: []), .reg (.n :: .call (vi r3948) :: .n :: []), .reg (.n :: .n :: []), .br false, .reg (nN 3 []), .br false, .reg (.n :: []), .sub ⟨[(0, none), (1, none), (6, none)], [], []⟩ (.exit 0) (nspeculumref03_CheckPromises_l0_0_e1 a0 a1 r4076), .reg (.n :: [])]) (fr := true) (by kernel_rfl) (an (an (ti trivial) (an (an (ti (an e3950 (ti trivial))) (an (ti (ti trivial)) (an (not_f (decide_eq_true h3951)) trivial))) (an (an (ti (ti (ti trivial))) (an (decide_eq_false h3952) trivial)) (an (an (ti trivial) e4078) (an (ti trivial) trivial))))) (ti trivial)) (Wv.refl _)
 ·injection h with h; subst h
  exact fun_ok pm pn Try.func10 (r0 := vi r3948) (ans := [.reg (.n :: []), .reg (.n :: .call (vi r3948) :: .n :: []), .reg (.n :: .n :: []), .br true, .reg (.n :: .n :: [])]) (fr := true) (by kernel_rfl) (an (an (ti trivial) (an (ti (an e3950 (ti trivial))) (an (ti (ti trivial)) (an (not_t (decide_eq_false h3951)) (an (ti (ti trivial)) trivial))))) (ti trivial)) (Wv.refl _)
def arS3_19 (z0 : Int) (z1 : (List SGlassBatch)) (z2 : Int) : List Ans := (nN 3 (.call (vi z0) :: nN 6 (.v (vi ((z1.getD z2.toNat default).Diameter)) :: nN 3 (.b false :: .n :: nS 8 (.b true :: [])))))
def arS3_20 (z0 : Int) (z1 : (List SGlassBatch)) (z2 : Int) : List Ans := (nN 3 (.call (vi z0) :: nN 6 (.v (vi ((z1.getD z2.toNat default).Diameter)) :: nN 3 (.b false :: nN 5 (.v (vi ((z1.getD z2.toNat default).Thick)) :: nN 3 (.b false :: []))))))
def arS3_21 (z0 : (List SGlassBatch)) (z1 : Int) (z2 : Int) : List Ans := (nN 7 (.v (vi ((z0.getD z1.toNat default).Diameter)) :: nN 4 (.v (vi ((z0.getD z1.toNat default).Diameter)) :: nN 5 (.v (vi ((z0.getD z1.toNat default).Thick)) :: nN 5 (.v (vi ((z0.getD z2.toNat default).Diameter)) :: nN 4 (.v (vi ((z0.getD z2.toNat default).Diameter)) :: nN 5 (.v (vi ((z0.getD z2.toNat default).Thick)) :: .n :: .n :: .b false :: [])))))))
def nspeculumref03_FirstBatch_l0_0_h (a0 : (List SGlassBatch)) (a1 : (List SGlassPromise)) (a2 : A24) (x8 : Int) (x9 : Int) : VS := ⟨mkA [(0, VV.tr (flatMap c_SGlassBatch a0) a0.length), (1, VV.tr (flatMap c_SGlassPromise a1) a1.length), (5, VV.pt 0 0), (8, vi x8), (9, vi x9)], [some ⟨true, 1, c_A24 a2⟩], .nil⟩
def nspeculumref03_FirstBatch_l0_0_e0 (a0 : (List SGlassBatch)) (a1 : (List SGlassPromise)) (a2 : A24) (r : Int) : VS := ⟨mkA [(0, VV.tr (flatMap c_SGlassBatch a0) a0.length), (8, vi r)], [], .nil⟩
def nspeculumref03_FirstBatch_l0_0 (k : Nat) (a0 : (List SGlassBatch)) (a1 : (List SGlassPromise)) (a2 : A24) : Nat -> Int -> Int -> Option (Int)
 | 0, _, _ => none
 | fuel + 1, x8, x9 => if x9 < (a0.length : Int) then ((nspeculumref03_left k a0 a1 x9).bind fun r4222 => (if r4222 < 1 then (nspeculumref03_FirstBatch_l0_0 k a0 a1 a2 fuel x8 (w64 (x9 + 1))) else (if 0 <= x9 /\ x9 < (a0.length : Int) then (if ((a0.getD x9.toNat default).Diameter) < a2.e0 then (nspeculumref03_FirstBatch_l0_0 k a0 a1 a2 fuel x8 (w64 (x9 + 1))) else (if ((a0.getD x9.toNat default).Thick) < a2.e1 then (nspeculumref03_FirstBatch_l0_0 k a0 a1 a2 fuel x8 (w64 (x9 + 1))) else (if x8 < 0 then (nspeculumref03_FirstBatch_l0_0 k a0 a1 a2 fuel x9 (w64 (x9 + 1))) else (if 0 <= x8 /\ x8 < (a0.length : Int) then (if (w64 ((w64 (((a0.getD x9.toNat default).Diameter) * ((a0.getD x9.toNat default).Diameter))) * ((a0.getD x9.toNat default).Thick))) < (w64 ((w64 (((a0.getD x8.toNat default).Diameter) * ((a0.getD x8.toNat default).Diameter))) * ((a0.getD x8.toNat default).Thick))) then (nspeculumref03_FirstBatch_l0_0 k a0 a1 a2 fuel x9 (w64 (x9 + 1))) else (nspeculumref03_FirstBatch_l0_0 k a0 a1 a2 fuel x8 (w64 (x9 + 1)))) else none)))) else none))) else (some x8)
theorem nspeculumref03_FirstBatch_l0_0_ok (k : Nat) (a0 : (List SGlassBatch)) (a1 : (List SGlassPromise)) (a2 : A24) : ∀ (fuel : Nat) (x8 : Int) (x9 : Int) (r : Int), nspeculumref03_FirstBatch_l0_0 k a0 a1 a2 fuel x8 x9 = some r -> (VLoop none Try.prog (szF Try.f14) (bodyOf Try.f14 0) (nspeculumref03_FirstBatch_l0_0_h a0 a1 a2 x8 x9) (.exit 0) (nspeculumref03_FirstBatch_l0_0_e0 a0 a1 a2 r)) := by
 intro fuel
 induction fuel with
 | zero => intro x8 x9 r h; rw [nspeculumref03_FirstBatch_l0_0.eq_1] at h; cases h
 | succ fuel ih =>
  intro x8 x9 r h
  rw [nspeculumref03_FirstBatch_l0_0.eq_2] at h
  rcases ifs h with ⟨h4221, h⟩ | ⟨h4221, h⟩
  ·obtain ⟨r4222, h4223, h⟩ := bs h
   have e4224 := (nspeculumref03_left_ok k a0 a1 x9 _ h4223)
   rcases ifs h with ⟨h4225, h⟩ | ⟨h4225, h⟩
   ·have e4226 := (ti (ti (ti (an e4224 (ti (ti (an (decide_eq_true h4225) (an (decide_eq_true h4225) (an (decide_eq_true h4225) (an (decide_eq_true h4225) (an (decide_eq_true h4225) (an (decide_eq_true h4225) (an (decide_eq_true h4225) (an (decide_eq_true h4225) (an (decide_eq_true h4225) (ti (an rt (an rt (an rt (an rt (an rt (an rt (an rt (an rt (an rt trivial)))))))))))))))))))))))))
    have h2 := ih _ _ _ h
    obtain ⟨q, hv, hq⟩ := pkR (rd := none) (P := Try.prog) (fn := Try.f14) (k := 0) (s := (nspeculumref03_FirstBatch_l0_0_h a0 a1 a2 x8 x9)) (ans := [.reg (nN 4 []), .br true, .reg (nN 3 (.call (vi r4222) :: .n :: .n :: nS 8 (.b true :: .n :: nS 8 (.b true :: [])))), .br true, .reg (nN 3 [])]) (c := ⟨[(0, none), (1, none), (5, none), (8, none), (9, none)], [none], []⟩) (e := .normal) (s1 := (nspeculumref03_FirstBatch_l0_0_h a0 a1 a2 x8 (w64 (x9 + 1)))) (an (an (an (ti (ti (ti (ti trivial)))) (an (decide_eq_true h4221) trivial)) (an (an e4226 (an rt trivial)) (ti (ti (ti trivial))))) (ti trivial)) (by kernel_rfl)
    exact round_next pm pn hv hq h2
   ·obtain ⟨h4227, h⟩ := ifn h
    have e4228 := (an (decide_eq_false h4225) (show loadL Try.prog 3 (x9.toNat * 4 + 1) (flatMap c_SGlassBatch a0) = some (vi ((a0.getD x9.toNat default).Diameter)) from (ld_flat ag3 c_SGlassBatch 4 1 len_c_SGlassBatch (by omega) a0 default h4227 (by omega)).trans rfl))
    have e4229 := (an (decide_eq_false h4225) (show (0:Int) <= 0 /\ (0:Int) < ((2 : Nat) : Int) from ⟨by decide, by decide⟩))
    rcases ifs h with ⟨h4230, h⟩ | ⟨h4230, h⟩
    ·have e4231 := (ti (ti (ti (an e4224 (ti (ti (an (an (decide_eq_false h4225) trivial) (an (an (decide_eq_false h4225) trivial) (an (an (decide_eq_false h4225) h4227) (an (an (decide_eq_false h4225) trivial) (an e4228 (an e4229 (an (an (decide_eq_false h4225) trivial) (an (an (decide_eq_false h4225) trivial) (an (decide_eq_false h4225) (ti (an (decide_eq_true h4230) (an (decide_eq_true h4230) (an (decide_eq_true h4230) (an (decide_eq_true h4230) (an (decide_eq_true h4230) (an (decide_eq_true h4230) (an (decide_eq_true h4230) (an (decide_eq_true h4230) (an (decide_eq_true h4230) trivial)))))))))))))))))))))))))
     have h2 := ih _ _ _ h
     obtain ⟨q, hv, hq⟩ := pkR (rd := none) (P := Try.prog) (fn := Try.f14) (k := 0) (s := (nspeculumref03_FirstBatch_l0_0_h a0 a1 a2 x8 x9)) (ans := [.reg (nN 4 []), .br true, .reg (arS3_19 r4222 a0 x9), .br true, .reg (nN 3 [])]) (c := ⟨[(0, none), (1, none), (5, none), (8, none), (9, none)], [none], []⟩) (e := .normal) (s1 := (nspeculumref03_FirstBatch_l0_0_h a0 a1 a2 x8 (w64 (x9 + 1)))) (an (an (an (ti (ti (ti (ti trivial)))) (an (decide_eq_true h4221) trivial)) (an (an e4231 (an rt trivial)) (ti (ti (ti trivial))))) (ti trivial)) (by kernel_rfl)
     exact round_next pm pn hv hq h2
    ·have e4232 := (an (decide_eq_false h4230) (show loadL Try.prog 3 (x9.toNat * 4 + 2) (flatMap c_SGlassBatch a0) = some (vi ((a0.getD x9.toNat default).Thick)) from (ld_flat ag3 c_SGlassBatch 4 2 len_c_SGlassBatch (by omega) a0 default h4227 (by omega)).trans rfl))
     have e4233 := (an (decide_eq_false h4230) (show (0:Int) <= 1 /\ (1:Int) < ((2 : Nat) : Int) from ⟨by decide, by decide⟩))
     have e4234 := (ti (ti (ti (an e4224 (ti (ti (an (an (decide_eq_false h4225) trivial) (an (an (decide_eq_false h4225) trivial) (an (an (decide_eq_false h4225) h4227) (an (an (decide_eq_false h4225) trivial) (an e4228 (an e4229 (an (an (decide_eq_false h4225) trivial) (an (an (decide_eq_false h4225) trivial) (an (decide_eq_false h4225) (ti (an (an (decide_eq_false h4230) trivial) (an (an (decide_eq_false h4230) trivial) (an (an (decide_eq_false h4230) h4227) (an (an (decide_eq_false h4230) trivial) (an e4232 (an e4233 (an (an (decide_eq_false h4230) trivial) (an (an (decide_eq_false h4230) trivial) (an (decide_eq_false h4230) trivial)))))))))))))))))))))))))
     rcases ifs h with ⟨h4235, h⟩ | ⟨h4235, h⟩
     ·have h2 := ih _ _ _ h
      obtain ⟨q, hv, hq⟩ := pkR (rd := none) (P := Try.prog) (fn := Try.f14) (k := 0) (s := (nspeculumref03_FirstBatch_l0_0_h a0 a1 a2 x8 x9)) (ans := [.reg (nN 4 []), .br true, .reg (arS3_20 r4222 a0 x9), .br true, .reg (nN 3 [])]) (c := ⟨[(0, none), (1, none), (5, none), (8, none), (9, none)], [none], []⟩) (e := .normal) (s1 := (nspeculumref03_FirstBatch_l0_0_h a0 a1 a2 x8 (w64 (x9 + 1)))) (an (an (an (ti (ti (ti (ti trivial)))) (an (decide_eq_true h4221) trivial)) (an (an e4234 (an (decide_eq_true h4235) trivial)) (ti (ti (ti trivial))))) (ti trivial)) (by kernel_rfl)
      exact round_next pm pn hv hq h2
     ·rcases ifs h with ⟨h4236, h⟩ | ⟨h4236, h⟩
      ·have e4237 := (ti (ti (ti (an (decide_eq_true h4236) (an (decide_eq_true h4236) (an (decide_eq_true h4236) (an (decide_eq_true h4236) (an (decide_eq_true h4236) (an (decide_eq_true h4236) (an (decide_eq_true h4236) (an (decide_eq_true h4236) (an (decide_eq_true h4236) (an (decide_eq_true h4236) (an (decide_eq_true h4236) (an (decide_eq_true h4236) (an (decide_eq_true h4236) (an (decide_eq_true h4236) (an (decide_eq_true h4236) (an (decide_eq_true h4236) (an (decide_eq_true h4236) (an (decide_eq_true h4236) (an (decide_eq_true h4236) (an (decide_eq_true h4236) (an (decide_eq_true h4236) (an (decide_eq_true h4236) (an (decide_eq_true h4236) (an (decide_eq_true h4236) (an (decide_eq_true h4236) (an (decide_eq_true h4236) (an (decide_eq_true h4236) (an (decide_eq_true h4236) (an (decide_eq_true h4236) (an (decide_eq_true h4236) (an (decide_eq_true h4236) (an (decide_eq_true h4236) (an (decide_eq_true h4236) (an (decide_eq_true h4236) (an (decide_eq_true h4236) (an (decide_eq_true h4236) trivial)))))))))))))))))))))))))))))))))))))))
       have h2 := ih _ _ _ h
       obtain ⟨q, hv, hq⟩ := pkR (rd := none) (P := Try.prog) (fn := Try.f14) (k := 0) (s := (nspeculumref03_FirstBatch_l0_0_h a0 a1 a2 x8 x9)) (ans := [.reg (nN 4 []), .br true, .reg (arS3_20 r4222 a0 x9), .br false, .reg (nN 3 (nS 35 (.b true :: []))), .br true, .reg (.n :: .n :: []), .reg (nN 3 [])]) (c := ⟨[(0, none), (1, none), (5, none), (8, none), (9, none)], [none], []⟩) (e := .normal) (s1 := (nspeculumref03_FirstBatch_l0_0_h a0 a1 a2 x9 (w64 (x9 + 1)))) (an (an (an (ti (ti (ti (ti trivial)))) (an (decide_eq_true h4221) trivial)) (an (an (an e4234 (an (decide_eq_false h4235) trivial)) (an e4237 (an rt (ti (ti trivial))))) (ti (ti (ti trivial))))) (ti trivial)) (by kernel_rfl)
       exact round_next pm pn hv hq h2
      ·have e4238 := (an (decide_eq_false h4236) (show loadL Try.prog 3 (x9.toNat * 4 + 1) (flatMap c_SGlassBatch a0) = some (vi ((a0.getD x9.toNat default).Diameter)) from (ld_flat ag3 c_SGlassBatch 4 1 len_c_SGlassBatch (by omega) a0 default h4227 (by omega)).trans rfl))
       have e4239 := (an (decide_eq_false h4236) (show loadL Try.prog 3 (x9.toNat * 4 + 1) (flatMap c_SGlassBatch a0) = some (vi ((a0.getD x9.toNat default).Diameter)) from (ld_flat ag3 c_SGlassBatch 4 1 len_c_SGlassBatch (by omega) a0 default h4227 (by omega)).trans rfl))
       have e4240 := (an (decide_eq_false h4236) (show loadL Try.prog 3 (x9.toNat * 4 + 2) (flatMap c_SGlassBatch a0) = some (vi ((a0.getD x9.toNat default).Thick)) from (ld_flat ag3 c_SGlassBatch 4 2 len_c_SGlassBatch (by omega) a0 default h4227 (by omega)).trans rfl))
       obtain ⟨h4241, h⟩ := ifn h
       have e4242 := (an (decide_eq_false h4236) (show loadL Try.prog 3 (x8.toNat * 4 + 1) (flatMap c_SGlassBatch a0) = some (vi ((a0.getD x8.toNat default).Diameter)) from (ld_flat ag3 c_SGlassBatch 4 1 len_c_SGlassBatch (by omega) a0 default h4241 (by omega)).trans rfl))
       have e4243 := (an (decide_eq_false h4236) (show loadL Try.prog 3 (x8.toNat * 4 + 1) (flatMap c_SGlassBatch a0) = some (vi ((a0.getD x8.toNat default).Diameter)) from (ld_flat ag3 c_SGlassBatch 4 1 len_c_SGlassBatch (by omega) a0 default h4241 (by omega)).trans rfl))
       have e4244 := (an (decide_eq_false h4236) (show loadL Try.prog 3 (x8.toNat * 4 + 2) (flatMap c_SGlassBatch a0) = some (vi ((a0.getD x8.toNat default).Thick)) from (ld_flat ag3 c_SGlassBatch 4 2 len_c_SGlassBatch (by omega) a0 default h4241 (by omega)).trans rfl))
       have e4245 := (ti (ti (ti (an (an (decide_eq_false h4236) trivial) (an (an (decide_eq_false h4236) trivial) (an (an (decide_eq_false h4236) h4227) (an (an (decide_eq_false h4236) trivial) (an e4238 (an (an (decide_eq_false h4236) trivial) (an (an (decide_eq_false h4236) trivial) (an (an (decide_eq_false h4236) h4227) (an (an (decide_eq_false h4236) trivial) (an e4239 (an (an (decide_eq_false h4236) trivial) (an (an (decide_eq_false h4236) trivial) (an (an (decide_eq_false h4236) trivial) (an (an (decide_eq_false h4236) h4227) (an (an (decide_eq_false h4236) trivial) (an e4240 (an (an (decide_eq_false h4236) trivial) (an (an (decide_eq_false h4236) trivial) (an (an (decide_eq_false h4236) trivial) (an (an (decide_eq_false h4236) h4241) (an (an (decide_eq_false h4236) trivial) (an e4242 (an (an (decide_eq_false h4236) trivial) (an (an (decide_eq_false h4236) trivial) (an (an (decide_eq_false h4236) h4241) (an (an (decide_eq_false h4236) trivial) (an e4243 (an (an (decide_eq_false h4236) trivial) (an (an (decide_eq_false h4236) trivial) (an (an (decide_eq_false h4236) trivial) (an (an (decide_eq_false h4236) h4241) (an (an (decide_eq_false h4236) trivial) (an e4244 (an (an (decide_eq_false h4236) trivial) (an (an (decide_eq_false h4236) trivial) (an (decide_eq_false h4236) trivial)))))))))))))))))))))))))))))))))))))))
       rcases ifs h with ⟨h4246, h⟩ | ⟨h4246, h⟩
       ·have h2 := ih _ _ _ h
        obtain ⟨q, hv, hq⟩ := pkR (rd := none) (P := Try.prog) (fn := Try.f14) (k := 0) (s := (nspeculumref03_FirstBatch_l0_0_h a0 a1 a2 x8 x9)) (ans := [.reg (nN 4 []), .br true, .reg (arS3_20 r4222 a0 x9), .br false, .reg (arS3_21 a0 x9 x8), .br true, .reg (.n :: .n :: []), .reg (nN 3 [])]) (c := ⟨[(0, none), (1, none), (5, none), (8, none), (9, none)], [none], []⟩) (e := .normal) (s1 := (nspeculumref03_FirstBatch_l0_0_h a0 a1 a2 x9 (w64 (x9 + 1)))) (an (an (an (ti (ti (ti (ti trivial)))) (an (decide_eq_true h4221) trivial)) (an (an (an e4234 (an (decide_eq_false h4235) trivial)) (an e4245 (an (decide_eq_true h4246) (ti (ti trivial))))) (ti (ti (ti trivial))))) (ti trivial)) (by kernel_rfl)
        exact round_next pm pn hv hq h2
       ·have h2 := ih _ _ _ h
        obtain ⟨q, hv, hq⟩ := pkR (rd := none) (P := Try.prog) (fn := Try.f14) (k := 0) (s := (nspeculumref03_FirstBatch_l0_0_h a0 a1 a2 x8 x9)) (ans := [.reg (nN 4 []), .br true, .reg (arS3_20 r4222 a0 x9), .br false, .reg (arS3_21 a0 x9 x8), .br false, .reg (nN 3 [])]) (c := ⟨[(0, none), (1, none), (5, none), (8, none), (9, none)], [none], []⟩) (e := .normal) (s1 := (nspeculumref03_FirstBatch_l0_0_h a0 a1 a2 x8 (w64 (x9 + 1)))) (an (an (an (ti (ti (ti (ti trivial)))) (an (decide_eq_true h4221) trivial)) (an (an (an e4234 (an (decide_eq_false h4235) trivial)) (an e4245 (an (decide_eq_false h4246) trivial))) (ti (ti (ti trivial))))) (ti trivial)) (by kernel_rfl)
        exact round_next pm pn hv hq h2
  ·injection h with h; subst h
   exact round_stop (c := ⟨[(0, none), (8, none)], [], []⟩) (s1 := (nspeculumref03_FirstBatch_l0_0_e0 a0 a1 a2 x8)) pm pn (ans := [.reg (nN 4 []), .br false]) (by kernel_rfl) (by intro e; cases e) (an (an (ti (ti (ti (ti trivial)))) (an (decide_eq_false h4221) trivial)) (ti trivial))
def nspeculumref03_FirstBatch (k : Nat) (a0 : (List SGlassBatch)) (a1 : (List SGlassPromise)) (a2 : A24) : Option (ByteArray × Int) :=
 (nspeculumbase_Within k a2.e0 1 1000).bind fun r4168 => (if r4168 = true then ((nspeculumbase_Within k a2.e1 1 500).bind fun r4173 => (if r4173 = true then ((nspeculumref03_FirstBatch_l0_0 k a0 a1 a2 k (-1) 0).bind fun r4248 => (if r4248 < 0 then (some ((⟨#[]⟩ : ByteArray), 12)) else (if 0 <= r4248 /\ r4248 < (a0.length : Int) then (some ((a0.getD r4248.toNat default).Name, 0)) else none))) else (some ((⟨#[]⟩ : ByteArray), 2)))) else (some ((⟨#[]⟩ : ByteArray), 2)))
theorem nspeculumref03_FirstBatch_ok (k : Nat) (a0 : (List SGlassBatch)) (a1 : (List SGlassPromise)) (a2 : A24) (r : (ByteArray × Int)) (h : nspeculumref03_FirstBatch k a0 a1 a2 = some r) : VC Try.prog 14 [VV.tr (flatMap c_SGlassBatch a0) a0.length, VV.tr (flatMap c_SGlassPromise a1) a1.length, VV.ag (c_A24 a2)] (VV.tu [vs r.1, vi r.2]) := by
 unfold nspeculumref03_FirstBatch at h
 have e4167 := (show (0:Int) <= 0 /\ (0:Int) < ((2 : Nat) : Int) from ⟨by decide, by decide⟩)
 obtain ⟨r4168, h4169, h⟩ := bs h
 have e4170 := (nspeculumbase_Within_ok k a2.e0 1 1000 _ h4169)
 rcases ifs h with ⟨h4171, h⟩ | ⟨h4171, h⟩
 ·have e4172 := (an (not_f h4171) (show (0:Int) <= 1 /\ (1:Int) < ((2 : Nat) : Int) from ⟨by decide, by decide⟩))
  obtain ⟨r4173, h4174, h⟩ := bs h
  have e4175 := (an (not_f h4171) (nspeculumbase_Within_ok k a2.e1 1 500 _ h4174))
  have e4176 := (an e4167 (ti (an e4170 (ti (ti (an e4172 (an (an (not_f h4171) trivial) (an e4175 (an (an (not_f h4171) trivial) (an (not_f h4171) trivial))))))))))
  rcases ifs h with ⟨h4177, h⟩ | ⟨h4177, h⟩
  ·obtain ⟨r4248, h4247, h⟩ := bs h
   have hph4247 := nspeculumref03_FirstBatch_l0_0_ok k a0 a1 a2 _ _ _ _ h4247
   have e4249 := (an (ti trivial) (VRun.loop hph4247))
   rcases ifs h with ⟨h4250, h⟩ | ⟨h4250, h⟩
   ·injection h with h; subst h
    exact fun_ok pm pn Try.func14 (r0 := VV.tu [vs (⟨#[]⟩ : ByteArray), vi 12]) (ans := [.reg (nN 3 []), .reg (.n :: .n :: .call (vb r4168) :: nN 4 (.call (vb r4173) :: .n :: .b false :: [])), .br false, .reg (.n :: []), .reg (.n :: []), .sub ⟨[(0, none), (1, none), (5, none), (8, none), (9, none)], [none], []⟩ (.exit 0) (nspeculumref03_FirstBatch_l0_0_e0 a0 a1 a2 r4248), .reg (.n :: .n :: []), .br true, .reg (.n :: .n :: [])]) (fr := true) (by kernel_rfl) (an (an (ti (ti (ti trivial))) (an (an e4176 (an (not_f h4177) trivial)) (an (ti trivial) (an (an (ti trivial) e4249) (an (ti (ti trivial)) (an (decide_eq_true h4250) (an (ti (ti trivial)) trivial))))))) (ti (ti trivial))) (Wv.refl _)
   ·obtain ⟨h4251, h⟩ := ifn h
    have e4252 := (show loadL Try.prog 9 (r4248.toNat * 4 + 0) (flatMap c_SGlassBatch a0) = some (vs ((a0.getD r4248.toNat default).Name)) from (ld_flat ag9 c_SGlassBatch 4 0 len_c_SGlassBatch (by omega) a0 default h4251 (by omega)).trans rfl)
    have e4253 := (ti (ti (an h4251 (ti (an e4252 (ti (ti trivial)))))))
    injection h with h; subst h
    exact fun_ok pm pn Try.func14 (r0 := VV.tu [vs ((a0.getD r4248.toNat default).Name), vi 0]) (ans := [.reg (nN 3 []), .reg (.n :: .n :: .call (vb r4168) :: nN 4 (.call (vb r4173) :: .n :: .b false :: [])), .br false, .reg (.n :: []), .reg (.n :: []), .sub ⟨[(0, none), (1, none), (5, none), (8, none), (9, none)], [none], []⟩ (.exit 0) (nspeculumref03_FirstBatch_l0_0_e0 a0 a1 a2 r4248), .reg (.n :: .n :: []), .br false, .reg (nN 4 (.v (vs ((a0.getD r4248.toNat default).Name)) :: .n :: .n :: []))]) (fr := true) (by kernel_rfl) (an (an (ti (ti (ti trivial))) (an (an e4176 (an (not_f h4177) trivial)) (an (ti trivial) (an (an (ti trivial) e4249) (an (an (ti (ti trivial)) (an (decide_eq_false h4250) trivial)) (an e4253 trivial)))))) (ti (ti trivial))) (Wv.refl _)
  ·injection h with h; subst h
   exact fun_ok pm pn Try.func14 (r0 := VV.tu [vs (⟨#[]⟩ : ByteArray), vi 2]) (ans := [.reg (nN 3 []), .reg (.n :: .n :: .call (vb r4168) :: nN 4 (.call (vb r4173) :: .n :: .b false :: [])), .br true, .reg (.n :: .n :: [])]) (fr := true) (by kernel_rfl) (an (an (ti (ti (ti trivial))) (an e4176 (an (not_t (bool_f h4177)) (an (ti (ti trivial)) trivial)))) (ti (ti trivial))) (Wv.refl _)
 ·have e4254 := (an e4167 (ti (an e4170 (ti (ti (an (not_t (bool_f h4171)) (an (not_t (bool_f h4171)) (an (not_t (bool_f h4171)) (an (not_t (bool_f h4171)) (an (not_t (bool_f h4171)) trivial))))))))))
  injection h with h; subst h
  exact fun_ok pm pn Try.func14 (r0 := VV.tu [vs (⟨#[]⟩ : ByteArray), vi 2]) (ans := [.reg (nN 3 []), .reg (.n :: .n :: .call (vb r4168) :: .n :: .n :: nS 4 (.b true :: [])), .br true, .reg (.n :: .n :: [])]) (fr := true) (by kernel_rfl) (an (an (ti (ti (ti trivial))) (an e4254 (an rt (an (ti (ti trivial)) trivial)))) (ti (ti trivial))) (Wv.refl _)
def nspeculumref03_LeftOf_l0_0_h (a0 : (List SGlassBatch)) (a1 : (List SGlassPromise)) (y0 : List Int) (x6 : Int) : VS := ⟨mkA [(0, VV.tr (flatMap c_SGlassBatch a0) a0.length), (1, VV.tr (flatMap c_SGlassPromise a1) a1.length), (5, VV.rf 0 0 y0.length), (6, vi x6)], [some ⟨false, 1, List.map vi y0⟩], .nil⟩
def nspeculumref03_LeftOf_l0_0_e0 (a0 : (List SGlassBatch)) (a1 : (List SGlassPromise)) (r : (List Int)) : VS := ⟨mkA [(5, VV.rf 0 0 r.length)], [some ⟨false, 1, List.map vi r⟩], .nil⟩
def nspeculumref03_LeftOf_l0_0 (k : Nat) (a0 : (List SGlassBatch)) (a1 : (List SGlassPromise)) : Nat -> (List Int) -> Int -> Option ((List Int))
 | 0, _, _ => none
 | fuel + 1, y0, x6 => if x6 < (a0.length : Int) then ((nspeculumref03_left k a0 a1 x6).bind fun r4308 => (if y0.length + ([r4308] : List Int).length <= 1000000000 then (nspeculumref03_LeftOf_l0_0 k a0 a1 fuel (y0 ++ ([r4308] : List Int)) (w64 (x6 + 1))) else none)) else (some y0)
theorem nspeculumref03_LeftOf_l0_0_ok (k : Nat) (a0 : (List SGlassBatch)) (a1 : (List SGlassPromise)) : ∀ (fuel : Nat) (y0 : List Int) (x6 : Int) (r : (List Int)), nspeculumref03_LeftOf_l0_0 k a0 a1 fuel y0 x6 = some r -> (VLoop none Try.prog (szF Try.f16) (bodyOf Try.f16 0) (nspeculumref03_LeftOf_l0_0_h a0 a1 y0 x6) (.exit 0) (nspeculumref03_LeftOf_l0_0_e0 a0 a1 r)) := by
 intro fuel
 induction fuel with
 | zero => intro y0 x6 r h; rw [nspeculumref03_LeftOf_l0_0.eq_1] at h; cases h
 | succ fuel ih =>
  intro y0 x6 r h
  rw [nspeculumref03_LeftOf_l0_0.eq_2] at h
  rcases ifs h with ⟨h4307, h⟩ | ⟨h4307, h⟩
  ·obtain ⟨r4308, h4309, h⟩ := bs h
   have e4310 := (nspeculumref03_left_ok k a0 a1 x6 _ h4309)
   obtain ⟨h4311, h⟩ := ifn h
   have e4312 := (show List.length (List.map vi y0) = y0.length * 1 /\ List.length [vi r4308] = 1 * 1 /\ (y0.length + 1) * 8 <= 140737488355328 /\ y0.length + 1 < 1099511627776 /\ List.all [vi r4308] VV.still = true from ⟨(by simp), (by rw [show [vi r4308] = List.map vi ([r4308] : List Int) from rfl]; simp), (by first | omega | (simp at h4311 ⊢; omega)), (by first | omega | (simp at h4311 ⊢; omega)), (by rw [show [vi r4308] = List.map vi ([r4308] : List Int) from rfl]; exact still_vi _)⟩)
   have e4313 := (ti (ti (ti (ti (an e4310 (ti (an e4312 (ti trivial))))))))
   have h2 := ih _ _ _ h
   obtain ⟨q, hv, hq⟩ := pkR (rd := none) (P := Try.prog) (fn := Try.f16) (k := 0) (s := (nspeculumref03_LeftOf_l0_0_h a0 a1 y0 x6)) (ans := [.reg (nN 4 []), .br true, .reg (nN 4 (.call (vi r4308) :: nN 3 [])), .reg (nN 3 [])]) (c := ⟨[(0, none), (1, none), (5, some (VV.rf 0 0 ((y0 ++ ([r4308] : List Int)).length))), (6, none)], [some (List.map vi (y0 ++ ([r4308] : List Int)))], []⟩) (e := .normal) (s1 := (nspeculumref03_LeftOf_l0_0_h a0 a1 (y0 ++ ([r4308] : List Int)) (w64 (x6 + 1)))) (an (an (an (ti (ti (ti (ti trivial)))) (an (decide_eq_true h4307) trivial)) (an e4313 (ti (ti (ti trivial))))) (an (an (show Wv (VV.rf 0 0 (y0.length + 1)) (VV.rf 0 0 ((y0 ++ ([r4308] : List Int)).length)) from (Wv.of_eq (by simp))) trivial) (an (show (List.map vi y0) ++ [vi r4308] = List.map vi (y0 ++ ([r4308] : List Int)) from (by rw [show [vi r4308] = List.map vi ([r4308] : List Int) from rfl]; exact List.map_append.symm)) trivial))) (by kernel_rfl)
   exact round_next pm pn hv hq h2
  ·injection h with h; subst h
   exact round_stop (c := ⟨[(5, none)], [none], []⟩) (s1 := (nspeculumref03_LeftOf_l0_0_e0 a0 a1 y0)) pm pn (ans := [.reg (nN 4 []), .br false]) (by kernel_rfl) (by intro e; cases e) (an (an (ti (ti (ti (ti trivial)))) (an (decide_eq_false h4307) trivial)) (ti trivial))
theorem eqS3_1 (z0 : (List Int)) : VV.fw 1 (List.drop 0 (List.map unfr (List.map vi z0))) z0.length = VV.fw 1 (List.map vi z0) z0.length := by first | rfl | (simp only [drop0, unfr_vi, map_cons, map_nil, un_i, length_map]; done) | (simp only [drop0, unfr_vi, map_cons, map_nil, un_i, length_map]; rfl) | (simp only [drop0, unfr_vi, map_cons, map_nil, un_i, length_map, length_cons, length_nil, length_append]; done)
def nspeculumref03_LeftOf (k : Nat) (a0 : (List SGlassBatch)) (a1 : (List SGlassPromise)) : Option (List Int) :=
 (nspeculumref03_LeftOf_l0_0 k a0 a1 k ([] : List Int) 0).bind fun r4315 => (some r4315)
theorem nspeculumref03_LeftOf_ok (k : Nat) (a0 : (List SGlassBatch)) (a1 : (List SGlassPromise)) (r : (List Int)) (h : nspeculumref03_LeftOf k a0 a1 = some r) : VC Try.prog 16 [VV.tr (flatMap c_SGlassBatch a0) a0.length, VV.tr (flatMap c_SGlassPromise a1) a1.length] (VV.fw 1 (List.map vi r) r.length) := by
 unfold nspeculumref03_LeftOf at h
 obtain ⟨r4315, h4314, h⟩ := bs h
 have hph4314 := nspeculumref03_LeftOf_l0_0_ok k a0 a1 _ _ _ _ h4314
 have e4316 := (an (ti trivial) (VRun.loop hph4314))
 injection h with h; subst h
 exact fun_ok pm pn Try.func16 (r0 := VV.fw 1 (List.drop 0 (List.map unfr (List.map vi r4315))) r4315.length) (ans := [.reg (.n :: []), .reg (.n :: []), .reg (.n :: []), .sub ⟨[(0, none), (1, none), (5, none), (6, none)], [], [.t 5 1]⟩ (.exit 0) (nspeculumref03_LeftOf_l0_0_e0 a0 a1 r4315), .reg (.n :: .n :: [])]) (fr := true) (by kernel_rfl) (an (an (ti trivial) (an (ti trivial) (an (an (ti trivial) e4316) (an (ti (ti trivial)) trivial)))) (an (show List.all (List.map vi r4315) new0 = true from (by exact new0_vi _)) trivial)) (Wv.of_eq (eqS3_1 r4315))
end Go.Proofs.Ytodiglefoobjkaa.Vg

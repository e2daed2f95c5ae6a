/- Walks: the law of roots. -/
import Derived.Test.YtdlddfmodbcnmaaR7
import Derived.Test.YtdlddfmodbcnmaaFL
import Derived.Test.YtdlddfmodbcnmaaAw
import Derived.Deep.RegionHeld3
set_option linter.unusedVariables false
set_option linter.unusedSimpArgs false
namespace Go.Proofs.Ytdlddfmodbcnmaa
open Go.RowKit


set_option maxRecDepth 100000 in
set_option maxHeartbeats 4000000 in
theorem roots_GA (HAW : Awake) (a b t x y s1 s2 D : Int) (w : World) (ha : I64 a) (hb : I64 b) (ht : I64 t) (hx : I64 x) (hy : I64 y)
    (RS : Bx (sqrtN a b t = (s1, s2, 0))) (RU : Bx (rootN x y = (0, 0, D))) (RF : Bx (ckFs [(a, b)] = 0)) (RD : Bx (ckRg x y = D)) (h2 : 0 ≤ a) (h3 : 1 ≤ t) (h4 : t ≤ 10000) (HW : Bx (wtB t 1 10000 = true)) (H1 : Bx (ckF a b = 0)) (TS : Bx (sqN (t * t * a) b = (s1, s2))) (hD : (D == 0) = false) (hD2 : (D != 0) = true) :
    Calls Try.prog 5 #[.agg #[.int .i64 a, .int .i64 b], .int .i64 t, .agg #[.int .i64 x, .int .i64 y]] w fun e w' => e = .returned (.bool true) ∧ Below w.heap.size w w' := by
  go_enter Try.func5, Try.ntmps5
  go_wp2_with (go_at_call 20; refine (HAW _).mono ?_; rintro e w0 ⟨rfl, B0⟩; have BA0 := Bx.mk ((((HF.new w 23 a b).alloc (.cells #[.int .i64 x, .int .i64 y] 38)).below B0)); have BC0 : Bx (HF w0 (w.heap.size + 1) x y) := Bx.mk (((HF.new (w.alloc (.cells #[.int .i64 a, .int .i64 b] 23)) 38 x y).below B0).at (by simp)); have M0 : Below w.heap.size w w0 := (((Below.refl w.heap.size w).alloc (Nat.le_refl _) _).alloc (by simp) _).trans (B0.mono (by simp <;> omega)); have L0 := Bx.mk (KP.nil w0); obtain ⟨zA0, pA0a, pA0b⟩ := BA0.out; obtain ⟨zC0, pC0a, pC0b⟩ := BC0.out)
  go_wp2_with (go_at_call 37; (with_reducible refine (sqrt_any a b t _ ha hb ht).mono ?_); rw [RS.out]; rintro e w1 ⟨rfl, B1⟩; have BA1 := Bx.mk (BA0.out.below B1); have BC1 := Bx.mk (BC0.out.below B1); have L1 := Bx.mk (KP.below B1 L0.out); have M1 := below_call0 M0 B1; clear pA0a pA0b pC0a pC0b; obtain ⟨zA1, pA1a, pA1b⟩ := BA1.out; obtain ⟨zC1, pC1a, pC1b⟩ := BC1.out)
  go_wp2_with (go_at_call 38; (with_reducible refine (rootOf_any x y _ hx hy).mono ?_); rw [RU.out]; rintro e w2 ⟨rfl, B2⟩; have BA2 := Bx.mk ((BA1.out.alloc _).below B2); have BC2 := Bx.mk ((BC1.out.alloc _).below B2); have L2 := Bx.mk (KP.below B2 (KP.push L1.out 38 (s1) (s2))); have M2 := below_call M1 B2; clear pA1a pA1b pC1a pC1b; obtain ⟨zA2, pA2a, pA2b⟩ := BA2.out; obtain ⟨zC2, pC2a, pC2b⟩ := BC2.out)
  go_wp2_with (first
    | (go_at_call 28; refine (fracsL1 a b _ _ (by simp) ha hb (by simp [go_sem, World.cell?_alloc_past]) (by simp [go_sem, World.cell?_alloc_past])).mono ?_; rw [RF.out]; rintro e w3 ⟨rfl, B3⟩; replace B3 : Below (w2.alloc (.cells #[.int .i64 (0), .int .i64 (0)] 38)).heap.size (w2.alloc (.cells #[.int .i64 (0), .int .i64 (0)] 38)) w3 := (by first | exact (below_alloc1 _ _).trans (B3.mono (by simp)) | exact B3 | exact (Below.refl _ _).drew.trans B3 | exact (below_drewN (Below.refl _ _) _).trans B3); have BA3 := Bx.mk ((BA2.out.alloc _).below B3); have BC3 := Bx.mk ((BC2.out.alloc _).below B3); have L3 := Bx.mk (KP.below B3 (KP.push L2.out 38 (0) (0))); have M3 := below_call M2 B3; clear pA2a pA2b pC2a pC2b; obtain ⟨zA3, pA3a, pA3b⟩ := BA3.out; obtain ⟨zC3, pC3a, pC3b⟩ := BC3.out; obtain ⟨⟨x3_2, s3_2, t3_2⟩, ⟨x3_1, s3_1, t3_1⟩, _⟩ := L3.out)
    | (go_at_call 35; refine (within_any t 1 10000 _).mono ?_; rw [HW.out]; rintro e wx ⟨rfl, rfl⟩))
  have hz0 : ((0 : Int) != 0) = false := rfl
  have hz1 : ((0 : Int) == 0) = true := rfl
  refine wp_region_held_drew (S := fun w' => w'.cell? ⟨w1.heap.size, 0, none⟩ = some (.int .i64 (s1)) ∧ w'.cell? ⟨w1.heap.size, 1, none⟩ = some (.int .i64 (s2)) ∧ w'.cell? ⟨w.heap.size, 0, none⟩ = some (.int .i64 a) ∧ w'.cell? ⟨w.heap.size, 1, none⟩ = some (.int .i64 b)) (by kernel_rfl) (by exact ⟨s3_1, t3_1, pA3a, pA3b⟩) (fun hHeld => ?_)
  refine wpAnyH_take (i := 0) (v := ?v0) rfl (by kernel_rfl) (by kernel_rfl) (by kernel_rfl) (fun _ _ _ h => h) (Or.inl ⟨by rfl, ?hy0⟩) (by assumption) ?_
  case hy0 => (intro w hSw; (try dsimp only at hSw); go_simp; first | done | (with_reducible rfl))
  try simp only [Act.put, List.setIfInBounds_toArray, List.set_cons_zero, List.set_cons_succ, List.getElem_toArray, List.getElem_cons_zero, List.getElem_cons_succ]
  refine wpAnyH_take (i := 1) (v := ?v1) rfl (by kernel_rfl) (by kernel_rfl) (by kernel_rfl) (fun _ _ _ h => h) (Or.inl ⟨by rfl, ?hy1⟩) (by assumption) ?_
  case hy1 => (intro w hSw; (try dsimp only at hSw); go_simp; first | done | (with_reducible rfl))
  try simp only [Act.put, List.setIfInBounds_toArray, List.set_cons_zero, List.set_cons_succ, List.getElem_toArray, List.getElem_cons_zero, List.getElem_cons_succ]
  refine wpAnyH_take (i := 2) (v := ?v2) rfl (by kernel_rfl) (by kernel_rfl) (by kernel_rfl) (fun _ _ _ h => h) (Or.inl ⟨by rfl, ?hy2⟩) (by assumption) ?_
  case hy2 => (intro w hSw; (try dsimp only at hSw); go_simp; first | done | (with_reducible rfl))
  try simp only [Act.put, List.setIfInBounds_toArray, List.set_cons_zero, List.set_cons_succ, List.getElem_toArray, List.getElem_cons_zero, List.getElem_cons_succ]
  refine wpAnyH_take (i := 3) (v := undef) rfl (by kernel_rfl) (by kernel_rfl) (by kernel_rfl) (fun _ _ _ h => h) (Or.inr ⟨by rfl, rfl⟩) (by assumption) ?_
  try simp only [Act.put, List.setIfInBounds_toArray, List.set_cons_zero, List.set_cons_succ, List.getElem_toArray, List.getElem_cons_zero, List.getElem_cons_succ]
  refine wpAnyH_take (i := 4) (v := undef) rfl (by kernel_rfl) (by kernel_rfl) (by kernel_rfl) (fun _ _ _ h => h) (Or.inr ⟨by rfl, rfl⟩) (by assumption) ?_
  try simp only [Act.put, List.setIfInBounds_toArray, List.set_cons_zero, List.set_cons_succ, List.getElem_toArray, List.getElem_cons_zero, List.getElem_cons_succ]
  refine wpAnyH_take (i := 5) (v := undef) rfl (by kernel_rfl) (by kernel_rfl) (by kernel_rfl) (fun _ _ _ h => h) (Or.inr ⟨by rfl, rfl⟩) (by assumption) ?_
  try simp only [Act.put, List.setIfInBounds_toArray, List.set_cons_zero, List.set_cons_succ, List.getElem_toArray, List.getElem_cons_zero, List.getElem_cons_succ]
  refine wpAnyH_take (i := 6) (v := undef) rfl (by kernel_rfl) (by kernel_rfl) (by kernel_rfl) (fun _ _ _ h => h) (Or.inr ⟨by rfl, rfl⟩) (by assumption) ?_
  try simp only [Act.put, List.setIfInBounds_toArray, List.set_cons_zero, List.set_cons_succ, List.getElem_toArray, List.getElem_cons_zero, List.getElem_cons_succ]
  refine wpAnyH_take (i := 7) (v := undef) rfl (by kernel_rfl) (by kernel_rfl) (by kernel_rfl) (fun _ _ _ h => h) (Or.inr ⟨by rfl, rfl⟩) (by assumption) ?_
  try simp only [Act.put, List.setIfInBounds_toArray, List.set_cons_zero, List.set_cons_succ, List.getElem_toArray, List.getElem_cons_zero, List.getElem_cons_succ]
  refine wpAnyH_take (i := 8) (v := undef) rfl (by kernel_rfl) (by kernel_rfl) (by kernel_rfl) (fun _ _ _ h => h) (Or.inr ⟨by rfl, rfl⟩) (by assumption) ?_
  try simp only [Act.put, List.setIfInBounds_toArray, List.set_cons_zero, List.set_cons_succ, List.getElem_toArray, List.getElem_cons_zero, List.getElem_cons_succ]
  refine wpAnyH_take (i := 9) (v := undef) rfl (by kernel_rfl) (by kernel_rfl) (by kernel_rfl) (fun _ _ _ h => h) (Or.inr ⟨by rfl, rfl⟩) (by assumption) ?_
  try simp only [Act.put, List.setIfInBounds_toArray, List.set_cons_zero, List.set_cons_succ, List.getElem_toArray, List.getElem_cons_zero, List.getElem_cons_succ]
  refine wpAnyH_take (i := 10) (v := undef) rfl (by kernel_rfl) (by kernel_rfl) (by kernel_rfl) (fun _ _ _ h => h) (Or.inr ⟨by rfl, rfl⟩) (by assumption) ?_
  try simp only [Act.put, List.setIfInBounds_toArray, List.set_cons_zero, List.set_cons_succ, List.getElem_toArray, List.getElem_cons_zero, List.getElem_cons_succ]
  refine wpAnyH_take (i := 11) (v := ?v11) rfl (by kernel_rfl) (by kernel_rfl) (by kernel_rfl) (fun _ _ _ h => h) (Or.inl ⟨by rfl, ?hy11⟩) (by assumption) ?_
  case hy11 => (intro w hSw; (try dsimp only at hSw); go_simp; first | done | (with_reducible rfl))
  try simp only [Act.put, List.setIfInBounds_toArray, List.set_cons_zero, List.set_cons_succ, List.getElem_toArray, List.getElem_cons_zero, List.getElem_cons_succ]
  refine wpAnyH_take (i := 12) (v := ?v12) rfl (by kernel_rfl) (by kernel_rfl) (by kernel_rfl) (fun _ _ _ h => h) (Or.inl ⟨by rfl, ?hy12⟩) (by assumption) ?_
  case hy12 => (intro w hSw; (try dsimp only at hSw); go_simp; first | done | (with_reducible rfl))
  try simp only [Act.put, List.setIfInBounds_toArray, List.set_cons_zero, List.set_cons_succ, List.getElem_toArray, List.getElem_cons_zero, List.getElem_cons_succ]
  refine wpAnyH_take (i := 13) (v := ?v13) rfl (by kernel_rfl) (by kernel_rfl) (by kernel_rfl) (fun _ _ _ h => h) (Or.inl ⟨by rfl, ?hy13⟩) (by assumption) ?_
  case hy13 => (intro w hSw; (try dsimp only at hSw); go_simp; first | done | (with_reducible rfl))
  try simp only [Act.put, List.setIfInBounds_toArray, List.set_cons_zero, List.set_cons_succ, List.getElem_toArray, List.getElem_cons_zero, List.getElem_cons_succ]
  refine wpAnyH_take (i := 14) (v := ?v14) rfl (by kernel_rfl) (by kernel_rfl) (by kernel_rfl) (fun _ _ _ h => h) (Or.inl ⟨by rfl, ?hy14⟩) (by assumption) ?_
  case hy14 => (intro w hSw; (try dsimp only at hSw); go_simp; first | done | (with_reducible rfl))
  try simp only [Act.put, List.setIfInBounds_toArray, List.set_cons_zero, List.set_cons_succ, List.getElem_toArray, List.getElem_cons_zero, List.getElem_cons_succ]
  refine wpAnyH_take (i := 15) (v := ?v15) rfl (by kernel_rfl) (by kernel_rfl) (by kernel_rfl) (fun _ _ _ h => h) (Or.inl ⟨by rfl, ?hy15⟩) (by assumption) ?_
  case hy15 => (intro w hSw; (try dsimp only at hSw); go_simp; first | done | (with_reducible rfl))
  try simp only [Act.put, List.setIfInBounds_toArray, List.set_cons_zero, List.set_cons_succ, List.getElem_toArray, List.getElem_cons_zero, List.getElem_cons_succ]
  refine wpAnyH_take (i := 16) (v := ?v16) rfl (by kernel_rfl) (by kernel_rfl) (by kernel_rfl) (fun _ _ _ h => h) (Or.inl ⟨by rfl, ?hy16⟩) (by assumption) ?_
  case hy16 => (intro w hSw; (try dsimp only at hSw); go_simp; first | done | (with_reducible rfl))
  try simp only [Act.put, List.setIfInBounds_toArray, List.set_cons_zero, List.set_cons_succ, List.getElem_toArray, List.getElem_cons_zero, List.getElem_cons_succ]
  refine wpAnyH_take (i := 17) (v := ?v17) rfl (by kernel_rfl) (by kernel_rfl) (by kernel_rfl) (fun _ _ _ h => h) (Or.inl ⟨by rfl, ?hy17⟩) (by assumption) ?_
  case hy17 => (intro w hSw; (try dsimp only at hSw); go_simp; first | done | (with_reducible rfl))
  try simp only [Act.put, List.setIfInBounds_toArray, List.set_cons_zero, List.set_cons_succ, List.getElem_toArray, List.getElem_cons_zero, List.getElem_cons_succ]
  refine wpAnyH_take (i := 18) (v := ?v18) rfl (by kernel_rfl) (by kernel_rfl) (by kernel_rfl) (fun _ _ _ h => h) (Or.inl ⟨by rfl, ?hy18⟩) (by assumption) ?_
  case hy18 => (intro w hSw; (try dsimp only at hSw); go_simp; first | done | (with_reducible rfl))
  try simp only [Act.put, List.setIfInBounds_toArray, List.set_cons_zero, List.set_cons_succ, List.getElem_toArray, List.getElem_cons_zero, List.getElem_cons_succ]
  refine wpAnyH_take (i := 19) (v := ?v19) rfl (by kernel_rfl) (by kernel_rfl) (by kernel_rfl) (fun _ _ _ h => h) (Or.inl ⟨by rfl, ?hy19⟩) (by assumption) ?_
  case hy19 => (intro w hSw; (try dsimp only at hSw); go_simp; first | done | (with_reducible rfl))
  try simp only [Act.put, List.setIfInBounds_toArray, List.set_cons_zero, List.set_cons_succ, List.getElem_toArray, List.getElem_cons_zero, List.getElem_cons_succ]
  refine wpAnyH_take (i := 20) (v := ?v20) rfl (by kernel_rfl) (by kernel_rfl) (by kernel_rfl) (fun _ _ _ h => h) (Or.inl ⟨by rfl, ?hy20⟩) (by assumption) ?_
  case hy20 => (intro w hSw; (try dsimp only at hSw); go_simp; first | done | (with_reducible rfl))
  try simp only [Act.put, List.setIfInBounds_toArray, List.set_cons_zero, List.set_cons_succ, List.getElem_toArray, List.getElem_cons_zero, List.getElem_cons_succ]
  refine wpAnyH_take (i := 21) (v := ?v21) rfl (by kernel_rfl) (by kernel_rfl) (by kernel_rfl) (fun _ _ _ h => h) (Or.inl ⟨by rfl, ?hy21⟩) (by assumption) ?_
  case hy21 => (intro w hSw; (try dsimp only at hSw); go_simp; first | done | (with_reducible rfl))
  try simp only [Act.put, List.setIfInBounds_toArray, List.set_cons_zero, List.set_cons_succ, List.getElem_toArray, List.getElem_cons_zero, List.getElem_cons_succ]
  refine wpAnyH_ready (rs := [22]) (by kernel_rfl) (by simp) ?_
  refine AllReadyH.cons rfl (fun K hK => ?_) AllReadyH.nil
  rw [if_pos (by rfl)]
  simp only [List.getElem_toArray, List.getElem_cons_zero, List.getElem_cons_succ]
  go_simp
  go_at_call 39; refine (sqrtR_any a b t _ H1.out h2 h3 h4).mono ?_; rw [TS.out]; rintro e w4 ⟨rfl, B4⟩; replace B4 : Below w3.heap.size w3 w4 := (by first | exact B4 | exact (Below.refl _ _).drew.trans B4 | exact (below_drewN (Below.refl _ _) _).trans B4); have BA4 := Bx.mk (BA3.out.below B4); have BC4 := Bx.mk (BC3.out.below B4); have L4 := Bx.mk (KP.below B4 L3.out); have M4 := below_call0 M3 B4; clear pA3a pA3b pC3a pC3b; obtain ⟨zA4, pA4a, pA4b⟩ := BA4.out; obtain ⟨zC4, pC4a, pC4b⟩ := BC4.out; obtain ⟨⟨x4_2, s4_2, t4_2⟩, ⟨x4_1, s4_1, t4_1⟩, _⟩ := L4.out
  try dsimp only
  refine hK.out _ _ (by exact ⟨s4_1, t4_1, pA4a, pA4b⟩) (fun hHeld => ?_)
  clear hK K
  try simp only [Act.put, List.setIfInBounds_toArray, List.set_cons_zero, List.set_cons_succ, List.getElem_toArray, List.getElem_cons_zero, List.getElem_cons_succ]
  refine wpAnyH_take (i := 23) (v := ?v23) rfl (by kernel_rfl) (by kernel_rfl) (by kernel_rfl) (fun _ _ _ h => h) (Or.inl ⟨by rfl, ?hy23⟩) (by assumption) ?_
  case hy23 => (intro w hSw; (try dsimp only at hSw); go_simp; first | done | (with_reducible rfl))
  try simp only [Act.put, List.setIfInBounds_toArray, List.set_cons_zero, List.set_cons_succ, List.getElem_toArray, List.getElem_cons_zero, List.getElem_cons_succ]
  refine wpAnyH_take (i := 24) (v := ?v24) rfl (by kernel_rfl) (by kernel_rfl) (by kernel_rfl) (fun _ _ _ h => h) (Or.inl ⟨by rfl, ?hy24⟩) (by assumption) ?_
  case hy24 => (intro w hSw; (try dsimp only at hSw); go_simp; first | done | (with_reducible rfl))
  try simp only [Act.put, List.setIfInBounds_toArray, List.set_cons_zero, List.set_cons_succ, List.getElem_toArray, List.getElem_cons_zero, List.getElem_cons_succ]
  refine wpAnyH_take (i := 25) (v := ?v25) rfl (by kernel_rfl) (by kernel_rfl) (by kernel_rfl) (fun _ _ _ h => h) (Or.inl ⟨by rfl, ?hy25⟩) (by assumption) ?_
  case hy25 => (intro w hSw; (try dsimp only at hSw); go_simp; first | done | (with_reducible rfl))
  try simp only [Act.put, List.setIfInBounds_toArray, List.set_cons_zero, List.set_cons_succ, List.getElem_toArray, List.getElem_cons_zero, List.getElem_cons_succ]
  refine wpAnyH_take (i := 26) (v := ?v26) rfl (by kernel_rfl) (by kernel_rfl) (by kernel_rfl) (fun _ _ _ h => h) (Or.inl ⟨by rfl, ?hy26⟩) (by assumption) ?_
  case hy26 => (intro w hSw; (try dsimp only at hSw); go_simp; first | done | (with_reducible rfl))
  try simp only [Act.put, List.setIfInBounds_toArray, List.set_cons_zero, List.set_cons_succ, List.getElem_toArray, List.getElem_cons_zero, List.getElem_cons_succ]
  refine wpAnyH_done (by kernel_rfl) ?_ _
  go_wp2_with (go_at_call 40; refine (checkRangeR_any x y _ hx hy).mono ?_; rw [RD.out]; rintro e w5 ⟨rfl, B5⟩; replace B5 : Below w4.heap.size w4 w5 := (by first | exact B5 | exact (Below.refl _ _).drew.trans B5 | exact (below_drewN (Below.refl _ _) _).trans B5); have BA5 := Bx.mk (BA4.out.below B5); have BC5 := Bx.mk (BC4.out.below B5); have L5 := Bx.mk (KP.below B5 L4.out); have M5 := below_call0 M4 B5; clear pA4a pA4b pC4a pC4b; obtain ⟨zA5, pA5a, pA5b⟩ := BA5.out; obtain ⟨zC5, pC5a, pC5b⟩ := BC5.out; obtain ⟨⟨x5_2, s5_2, t5_2⟩, ⟨x5_1, s5_1, t5_1⟩, _⟩ := L5.out)
  go_ret
  exact ⟨rfl, by first | exact M5 | exact M5.drew | exact below_drewN M5 _⟩

set_option maxRecDepth 100000 in
set_option maxHeartbeats 4000000 in
theorem roots_GN (HAW : Awake) (a b t x y s1 s2 : Int) (w : World) (ha : I64 a) (hb : I64 b) (ht : I64 t) (hx : I64 x) (hy : I64 y)
    (RS : Bx (sqrtN a b t = (s1, s2, 0))) (RU : Bx (rootN x y = (0, 0, 2))) (RF : Bx (ckFs [(a, b)] = 0)) (RD : Bx (ckRg x y = 0)) (h2 : 0 ≤ a) (h3 : 1 ≤ t) (h4 : t ≤ 10000) (HW : Bx (wtB t 1 10000 = true)) (H1 : Bx (ckF a b = 0)) (TS : Bx (sqN (t * t * a) b = (s1, s2))) (k2 : x < 0) :
    Calls Try.prog 5 #[.agg #[.int .i64 a, .int .i64 b], .int .i64 t, .agg #[.int .i64 x, .int .i64 y]] w fun e w' => e = .returned (.bool true) ∧ Below w.heap.size w w' := by
  go_enter Try.func5, Try.ntmps5
  go_wp2_with (go_at_call 20; refine (HAW _).mono ?_; rintro e w0 ⟨rfl, B0⟩; have BA0 := Bx.mk ((((HF.new w 23 a b).alloc (.cells #[.int .i64 x, .int .i64 y] 38)).below B0)); have BC0 : Bx (HF w0 (w.heap.size + 1) x y) := Bx.mk (((HF.new (w.alloc (.cells #[.int .i64 a, .int .i64 b] 23)) 38 x y).below B0).at (by simp)); have M0 : Below w.heap.size w w0 := (((Below.refl w.heap.size w).alloc (Nat.le_refl _) _).alloc (by simp) _).trans (B0.mono (by simp <;> omega)); have L0 := Bx.mk (KP.nil w0); obtain ⟨zA0, pA0a, pA0b⟩ := BA0.out; obtain ⟨zC0, pC0a, pC0b⟩ := BC0.out)
  go_wp2_with (go_at_call 37; (with_reducible refine (sqrt_any a b t _ ha hb ht).mono ?_); rw [RS.out]; rintro e w1 ⟨rfl, B1⟩; have BA1 := Bx.mk (BA0.out.below B1); have BC1 := Bx.mk (BC0.out.below B1); have L1 := Bx.mk (KP.below B1 L0.out); have M1 := below_call0 M0 B1; clear pA0a pA0b pC0a pC0b; obtain ⟨zA1, pA1a, pA1b⟩ := BA1.out; obtain ⟨zC1, pC1a, pC1b⟩ := BC1.out)
  go_wp2_with (go_at_call 38; (with_reducible refine (rootOf_any x y _ hx hy).mono ?_); rw [RU.out]; rintro e w2 ⟨rfl, B2⟩; have BA2 := Bx.mk ((BA1.out.alloc _).below B2); have BC2 := Bx.mk ((BC1.out.alloc _).below B2); have L2 := Bx.mk (KP.below B2 (KP.push L1.out 38 (s1) (s2))); have M2 := below_call M1 B2; clear pA1a pA1b pC1a pC1b; obtain ⟨zA2, pA2a, pA2b⟩ := BA2.out; obtain ⟨zC2, pC2a, pC2b⟩ := BC2.out)
  go_wp2_with (first
    | (go_at_call 28; refine (fracsL1 a b _ _ (by simp) ha hb (by simp [go_sem, World.cell?_alloc_past]) (by simp [go_sem, World.cell?_alloc_past])).mono ?_; rw [RF.out]; rintro e w3 ⟨rfl, B3⟩; replace B3 : Below (w2.alloc (.cells #[.int .i64 (0), .int .i64 (0)] 38)).heap.size (w2.alloc (.cells #[.int .i64 (0), .int .i64 (0)] 38)) w3 := (by first | exact (below_alloc1 _ _).trans (B3.mono (by simp)) | exact B3 | exact (Below.refl _ _).drew.trans B3 | exact (below_drewN (Below.refl _ _) _).trans B3); have BA3 := Bx.mk ((BA2.out.alloc _).below B3); have BC3 := Bx.mk ((BC2.out.alloc _).below B3); have L3 := Bx.mk (KP.below B3 (KP.push L2.out 38 (0) (0))); have M3 := below_call M2 B3; clear pA2a pA2b pC2a pC2b; obtain ⟨zA3, pA3a, pA3b⟩ := BA3.out; obtain ⟨zC3, pC3a, pC3b⟩ := BC3.out; obtain ⟨⟨x3_2, s3_2, t3_2⟩, ⟨x3_1, s3_1, t3_1⟩, _⟩ := L3.out)
    | (go_at_call 35; refine (within_any t 1 10000 _).mono ?_; rw [HW.out]; rintro e wx ⟨rfl, rfl⟩))
  have hz0 : ((0 : Int) != 0) = false := rfl
  have hz1 : ((0 : Int) == 0) = true := rfl
  refine wp_region_held_drew (S := fun w' => w'.cell? ⟨w1.heap.size, 0, none⟩ = some (.int .i64 (s1)) ∧ w'.cell? ⟨w1.heap.size, 1, none⟩ = some (.int .i64 (s2)) ∧ w'.cell? ⟨w.heap.size, 0, none⟩ = some (.int .i64 a) ∧ w'.cell? ⟨w.heap.size, 1, none⟩ = some (.int .i64 b)) (by kernel_rfl) (by exact ⟨s3_1, t3_1, pA3a, pA3b⟩) (fun hHeld => ?_)
  refine wpAnyH_take (i := 0) (v := ?v0) rfl (by kernel_rfl) (by kernel_rfl) (by kernel_rfl) (fun _ _ _ h => h) (Or.inl ⟨by rfl, ?hy0⟩) (by assumption) ?_
  case hy0 => (intro w hSw; (try dsimp only at hSw); go_simp; first | done | (with_reducible rfl))
  try simp only [Act.put, List.setIfInBounds_toArray, List.set_cons_zero, List.set_cons_succ, List.getElem_toArray, List.getElem_cons_zero, List.getElem_cons_succ]
  refine wpAnyH_take (i := 1) (v := ?v1) rfl (by kernel_rfl) (by kernel_rfl) (by kernel_rfl) (fun _ _ _ h => h) (Or.inl ⟨by rfl, ?hy1⟩) (by assumption) ?_
  case hy1 => (intro w hSw; (try dsimp only at hSw); go_simp; first | done | (with_reducible rfl))
  try simp only [Act.put, List.setIfInBounds_toArray, List.set_cons_zero, List.set_cons_succ, List.getElem_toArray, List.getElem_cons_zero, List.getElem_cons_succ]
  refine wpAnyH_take (i := 2) (v := ?v2) rfl (by kernel_rfl) (by kernel_rfl) (by kernel_rfl) (fun _ _ _ h => h) (Or.inl ⟨by rfl, ?hy2⟩) (by assumption) ?_
  case hy2 => (intro w hSw; (try dsimp only at hSw); go_simp; first | done | (with_reducible rfl))
  try simp only [Act.put, List.setIfInBounds_toArray, List.set_cons_zero, List.set_cons_succ, List.getElem_toArray, List.getElem_cons_zero, List.getElem_cons_succ]
  refine wpAnyH_take (i := 3) (v := undef) rfl (by kernel_rfl) (by kernel_rfl) (by kernel_rfl) (fun _ _ _ h => h) (Or.inr ⟨by rfl, rfl⟩) (by assumption) ?_
  try simp only [Act.put, List.setIfInBounds_toArray, List.set_cons_zero, List.set_cons_succ, List.getElem_toArray, List.getElem_cons_zero, List.getElem_cons_succ]
  refine wpAnyH_take (i := 4) (v := undef) rfl (by kernel_rfl) (by kernel_rfl) (by kernel_rfl) (fun _ _ _ h => h) (Or.inr ⟨by rfl, rfl⟩) (by assumption) ?_
  try simp only [Act.put, List.setIfInBounds_toArray, List.set_cons_zero, List.set_cons_succ, List.getElem_toArray, List.getElem_cons_zero, List.getElem_cons_succ]
  refine wpAnyH_take (i := 5) (v := undef) rfl (by kernel_rfl) (by kernel_rfl) (by kernel_rfl) (fun _ _ _ h => h) (Or.inr ⟨by rfl, rfl⟩) (by assumption) ?_
  try simp only [Act.put, List.setIfInBounds_toArray, List.set_cons_zero, List.set_cons_succ, List.getElem_toArray, List.getElem_cons_zero, List.getElem_cons_succ]
  refine wpAnyH_take (i := 6) (v := undef) rfl (by kernel_rfl) (by kernel_rfl) (by kernel_rfl) (fun _ _ _ h => h) (Or.inr ⟨by rfl, rfl⟩) (by assumption) ?_
  try simp only [Act.put, List.setIfInBounds_toArray, List.set_cons_zero, List.set_cons_succ, List.getElem_toArray, List.getElem_cons_zero, List.getElem_cons_succ]
  refine wpAnyH_take (i := 7) (v := undef) rfl (by kernel_rfl) (by kernel_rfl) (by kernel_rfl) (fun _ _ _ h => h) (Or.inr ⟨by rfl, rfl⟩) (by assumption) ?_
  try simp only [Act.put, List.setIfInBounds_toArray, List.set_cons_zero, List.set_cons_succ, List.getElem_toArray, List.getElem_cons_zero, List.getElem_cons_succ]
  refine wpAnyH_take (i := 8) (v := undef) rfl (by kernel_rfl) (by kernel_rfl) (by kernel_rfl) (fun _ _ _ h => h) (Or.inr ⟨by rfl, rfl⟩) (by assumption) ?_
  try simp only [Act.put, List.setIfInBounds_toArray, List.set_cons_zero, List.set_cons_succ, List.getElem_toArray, List.getElem_cons_zero, List.getElem_cons_succ]
  refine wpAnyH_take (i := 9) (v := undef) rfl (by kernel_rfl) (by kernel_rfl) (by kernel_rfl) (fun _ _ _ h => h) (Or.inr ⟨by rfl, rfl⟩) (by assumption) ?_
  try simp only [Act.put, List.setIfInBounds_toArray, List.set_cons_zero, List.set_cons_succ, List.getElem_toArray, List.getElem_cons_zero, List.getElem_cons_succ]
  refine wpAnyH_take (i := 10) (v := undef) rfl (by kernel_rfl) (by kernel_rfl) (by kernel_rfl) (fun _ _ _ h => h) (Or.inr ⟨by rfl, rfl⟩) (by assumption) ?_
  try simp only [Act.put, List.setIfInBounds_toArray, List.set_cons_zero, List.set_cons_succ, List.getElem_toArray, List.getElem_cons_zero, List.getElem_cons_succ]
  refine wpAnyH_take (i := 11) (v := ?v11) rfl (by kernel_rfl) (by kernel_rfl) (by kernel_rfl) (fun _ _ _ h => h) (Or.inl ⟨by rfl, ?hy11⟩) (by assumption) ?_
  case hy11 => (intro w hSw; (try dsimp only at hSw); go_simp; first | done | (with_reducible rfl))
  try simp only [Act.put, List.setIfInBounds_toArray, List.set_cons_zero, List.set_cons_succ, List.getElem_toArray, List.getElem_cons_zero, List.getElem_cons_succ]
  refine wpAnyH_take (i := 12) (v := ?v12) rfl (by kernel_rfl) (by kernel_rfl) (by kernel_rfl) (fun _ _ _ h => h) (Or.inl ⟨by rfl, ?hy12⟩) (by assumption) ?_
  case hy12 => (intro w hSw; (try dsimp only at hSw); go_simp; first | done | (with_reducible rfl))
  try simp only [Act.put, List.setIfInBounds_toArray, List.set_cons_zero, List.set_cons_succ, List.getElem_toArray, List.getElem_cons_zero, List.getElem_cons_succ]
  refine wpAnyH_take (i := 13) (v := ?v13) rfl (by kernel_rfl) (by kernel_rfl) (by kernel_rfl) (fun _ _ _ h => h) (Or.inl ⟨by rfl, ?hy13⟩) (by assumption) ?_
  case hy13 => (intro w hSw; (try dsimp only at hSw); go_simp; first | done | (with_reducible rfl))
  try simp only [Act.put, List.setIfInBounds_toArray, List.set_cons_zero, List.set_cons_succ, List.getElem_toArray, List.getElem_cons_zero, List.getElem_cons_succ]
  refine wpAnyH_take (i := 14) (v := ?v14) rfl (by kernel_rfl) (by kernel_rfl) (by kernel_rfl) (fun _ _ _ h => h) (Or.inl ⟨by rfl, ?hy14⟩) (by assumption) ?_
  case hy14 => (intro w hSw; (try dsimp only at hSw); go_simp; first | done | (with_reducible rfl))
  try simp only [Act.put, List.setIfInBounds_toArray, List.set_cons_zero, List.set_cons_succ, List.getElem_toArray, List.getElem_cons_zero, List.getElem_cons_succ]
  refine wpAnyH_take (i := 15) (v := ?v15) rfl (by kernel_rfl) (by kernel_rfl) (by kernel_rfl) (fun _ _ _ h => h) (Or.inl ⟨by rfl, ?hy15⟩) (by assumption) ?_
  case hy15 => (intro w hSw; (try dsimp only at hSw); go_simp; first | done | (with_reducible rfl))
  try simp only [Act.put, List.setIfInBounds_toArray, List.set_cons_zero, List.set_cons_succ, List.getElem_toArray, List.getElem_cons_zero, List.getElem_cons_succ]
  refine wpAnyH_take (i := 16) (v := ?v16) rfl (by kernel_rfl) (by kernel_rfl) (by kernel_rfl) (fun _ _ _ h => h) (Or.inl ⟨by rfl, ?hy16⟩) (by assumption) ?_
  case hy16 => (intro w hSw; (try dsimp only at hSw); go_simp; first | done | (with_reducible rfl))
  try simp only [Act.put, List.setIfInBounds_toArray, List.set_cons_zero, List.set_cons_succ, List.getElem_toArray, List.getElem_cons_zero, List.getElem_cons_succ]
  refine wpAnyH_take (i := 17) (v := ?v17) rfl (by kernel_rfl) (by kernel_rfl) (by kernel_rfl) (fun _ _ _ h => h) (Or.inl ⟨by rfl, ?hy17⟩) (by assumption) ?_
  case hy17 => (intro w hSw; (try dsimp only at hSw); go_simp; first | done | (with_reducible rfl))
  try simp only [Act.put, List.setIfInBounds_toArray, List.set_cons_zero, List.set_cons_succ, List.getElem_toArray, List.getElem_cons_zero, List.getElem_cons_succ]
  refine wpAnyH_take (i := 18) (v := ?v18) rfl (by kernel_rfl) (by kernel_rfl) (by kernel_rfl) (fun _ _ _ h => h) (Or.inl ⟨by rfl, ?hy18⟩) (by assumption) ?_
  case hy18 => (intro w hSw; (try dsimp only at hSw); go_simp; first | done | (with_reducible rfl))
  try simp only [Act.put, List.setIfInBounds_toArray, List.set_cons_zero, List.set_cons_succ, List.getElem_toArray, List.getElem_cons_zero, List.getElem_cons_succ]
  refine wpAnyH_take (i := 19) (v := ?v19) rfl (by kernel_rfl) (by kernel_rfl) (by kernel_rfl) (fun _ _ _ h => h) (Or.inl ⟨by rfl, ?hy19⟩) (by assumption) ?_
  case hy19 => (intro w hSw; (try dsimp only at hSw); go_simp; first | done | (with_reducible rfl))
  try simp only [Act.put, List.setIfInBounds_toArray, List.set_cons_zero, List.set_cons_succ, List.getElem_toArray, List.getElem_cons_zero, List.getElem_cons_succ]
  refine wpAnyH_take (i := 20) (v := ?v20) rfl (by kernel_rfl) (by kernel_rfl) (by kernel_rfl) (fun _ _ _ h => h) (Or.inl ⟨by rfl, ?hy20⟩) (by assumption) ?_
  case hy20 => (intro w hSw; (try dsimp only at hSw); go_simp; first | done | (with_reducible rfl))
  try simp only [Act.put, List.setIfInBounds_toArray, List.set_cons_zero, List.set_cons_succ, List.getElem_toArray, List.getElem_cons_zero, List.getElem_cons_succ]
  refine wpAnyH_take (i := 21) (v := ?v21) rfl (by kernel_rfl) (by kernel_rfl) (by kernel_rfl) (fun _ _ _ h => h) (Or.inl ⟨by rfl, ?hy21⟩) (by assumption) ?_
  case hy21 => (intro w hSw; (try dsimp only at hSw); go_simp; first | done | (with_reducible rfl))
  try simp only [Act.put, List.setIfInBounds_toArray, List.set_cons_zero, List.set_cons_succ, List.getElem_toArray, List.getElem_cons_zero, List.getElem_cons_succ]
  refine wpAnyH_ready (rs := [22]) (by kernel_rfl) (by simp) ?_
  refine AllReadyH.cons rfl (fun K hK => ?_) AllReadyH.nil
  rw [if_pos (by rfl)]
  simp only [List.getElem_toArray, List.getElem_cons_zero, List.getElem_cons_succ]
  go_simp
  go_at_call 39; refine (sqrtR_any a b t _ H1.out h2 h3 h4).mono ?_; rw [TS.out]; rintro e w4 ⟨rfl, B4⟩; replace B4 : Below w3.heap.size w3 w4 := (by first | exact B4 | exact (Below.refl _ _).drew.trans B4 | exact (below_drewN (Below.refl _ _) _).trans B4); have BA4 := Bx.mk (BA3.out.below B4); have BC4 := Bx.mk (BC3.out.below B4); have L4 := Bx.mk (KP.below B4 L3.out); have M4 := below_call0 M3 B4; clear pA3a pA3b pC3a pC3b; obtain ⟨zA4, pA4a, pA4b⟩ := BA4.out; obtain ⟨zC4, pC4a, pC4b⟩ := BC4.out; obtain ⟨⟨x4_2, s4_2, t4_2⟩, ⟨x4_1, s4_1, t4_1⟩, _⟩ := L4.out
  try dsimp only
  refine hK.out _ _ (by exact ⟨s4_1, t4_1, pA4a, pA4b⟩) (fun hHeld => ?_)
  clear hK K
  try simp only [Act.put, List.setIfInBounds_toArray, List.set_cons_zero, List.set_cons_succ, List.getElem_toArray, List.getElem_cons_zero, List.getElem_cons_succ]
  refine wpAnyH_take (i := 23) (v := ?v23) rfl (by kernel_rfl) (by kernel_rfl) (by kernel_rfl) (fun _ _ _ h => h) (Or.inl ⟨by rfl, ?hy23⟩) (by assumption) ?_
  case hy23 => (intro w hSw; (try dsimp only at hSw); go_simp; first | done | (with_reducible rfl))
  try simp only [Act.put, List.setIfInBounds_toArray, List.set_cons_zero, List.set_cons_succ, List.getElem_toArray, List.getElem_cons_zero, List.getElem_cons_succ]
  refine wpAnyH_take (i := 24) (v := ?v24) rfl (by kernel_rfl) (by kernel_rfl) (by kernel_rfl) (fun _ _ _ h => h) (Or.inl ⟨by rfl, ?hy24⟩) (by assumption) ?_
  case hy24 => (intro w hSw; (try dsimp only at hSw); go_simp; first | done | (with_reducible rfl))
  try simp only [Act.put, List.setIfInBounds_toArray, List.set_cons_zero, List.set_cons_succ, List.getElem_toArray, List.getElem_cons_zero, List.getElem_cons_succ]
  refine wpAnyH_take (i := 25) (v := ?v25) rfl (by kernel_rfl) (by kernel_rfl) (by kernel_rfl) (fun _ _ _ h => h) (Or.inl ⟨by rfl, ?hy25⟩) (by assumption) ?_
  case hy25 => (intro w hSw; (try dsimp only at hSw); go_simp; first | done | (with_reducible rfl))
  try simp only [Act.put, List.setIfInBounds_toArray, List.set_cons_zero, List.set_cons_succ, List.getElem_toArray, List.getElem_cons_zero, List.getElem_cons_succ]
  refine wpAnyH_take (i := 26) (v := ?v26) rfl (by kernel_rfl) (by kernel_rfl) (by kernel_rfl) (fun _ _ _ h => h) (Or.inl ⟨by rfl, ?hy26⟩) (by assumption) ?_
  case hy26 => (intro w hSw; (try dsimp only at hSw); go_simp; first | done | (with_reducible rfl))
  try simp only [Act.put, List.setIfInBounds_toArray, List.set_cons_zero, List.set_cons_succ, List.getElem_toArray, List.getElem_cons_zero, List.getElem_cons_succ]
  refine wpAnyH_done (by kernel_rfl) ?_ _
  go_wp2_with (go_at_call 40; refine (checkRangeR_any x y _ hx hy).mono ?_; rw [RD.out]; rintro e w5 ⟨rfl, B5⟩; replace B5 : Below w4.heap.size w4 w5 := (by first | exact B5 | exact (Below.refl _ _).drew.trans B5 | exact (below_drewN (Below.refl _ _) _).trans B5); have BA5 := Bx.mk (BA4.out.below B5); have BC5 := Bx.mk (BC4.out.below B5); have L5 := Bx.mk (KP.below B5 L4.out); have M5 := below_call0 M4 B5; clear pA4a pA4b pC4a pC4b; obtain ⟨zA5, pA5a, pA5b⟩ := BA5.out; obtain ⟨zC5, pC5a, pC5b⟩ := BC5.out; obtain ⟨⟨x5_2, s5_2, t5_2⟩, ⟨x5_1, s5_1, t5_1⟩, _⟩ := L5.out)
  go_ret
  exact ⟨rfl, by first | exact M5 | exact M5.drew | exact below_drewN M5 _⟩

set_option maxRecDepth 100000 in
set_option maxHeartbeats 4000000 in
theorem roots_GG (HAW : Awake) (a b t x y s1 s2 u1 u2 : Int) (w : World) (ha : I64 a) (hb : I64 b) (ht : I64 t) (hx : I64 x) (hy : I64 y)
    (RS : Bx (sqrtN a b t = (s1, s2, 0))) (RU : Bx (rootN x y = (u1, u2, 0))) (RF : Bx (ckFs [(a, b)] = 0)) (RD : Bx (ckRg x y = 0)) (h2 : 0 ≤ a) (h3 : 1 ≤ t) (h4 : t ≤ 10000) (HW : Bx (wtB t 1 10000 = true)) (H1 : Bx (ckF a b = 0)) (TS : Bx (sqN (t * t * a) b = (s1, s2))) (g1 : 0 ≤ x) (g2 : x ≤ 1000000000000000) (g3 : 0 ≤ y) (g4 : y ≤ 1000000000000000) (TU1 : Bx (rt x = u1)) (TU2 : Bx (rtUp y = u2)) (v1 : 0 ≤ u1) (v2 : u1 ≤ 1000000000) (v3 : 0 ≤ u2) (v4 : u2 ≤ 1000000001) (v5 : 0 ≤ u1 * u1) (v6 : u1 * u1 ≤ x) (v7 : y ≤ u2 * u2) (v8 : u2 * u2 ≤ 2000000000000000000) :
    Calls Try.prog 5 #[.agg #[.int .i64 a, .int .i64 b], .int .i64 t, .agg #[.int .i64 x, .int .i64 y]] w fun e w' => e = .returned (.bool true) ∧ Below w.heap.size w w' := by
  go_enter Try.func5, Try.ntmps5
  go_wp2_with (go_at_call 20; refine (HAW _).mono ?_; rintro e w0 ⟨rfl, B0⟩; have BA0 := Bx.mk ((((HF.new w 23 a b).alloc (.cells #[.int .i64 x, .int .i64 y] 38)).below B0)); have BC0 : Bx (HF w0 (w.heap.size + 1) x y) := Bx.mk (((HF.new (w.alloc (.cells #[.int .i64 a, .int .i64 b] 23)) 38 x y).below B0).at (by simp)); have M0 : Below w.heap.size w w0 := (((Below.refl w.heap.size w).alloc (Nat.le_refl _) _).alloc (by simp) _).trans (B0.mono (by simp <;> omega)); have L0 := Bx.mk (KP.nil w0); obtain ⟨zA0, pA0a, pA0b⟩ := BA0.out; obtain ⟨zC0, pC0a, pC0b⟩ := BC0.out)
  go_wp2_with (go_at_call 37; (with_reducible refine (sqrt_any a b t _ ha hb ht).mono ?_); rw [RS.out]; rintro e w1 ⟨rfl, B1⟩; have BA1 := Bx.mk (BA0.out.below B1); have BC1 := Bx.mk (BC0.out.below B1); have L1 := Bx.mk (KP.below B1 L0.out); have M1 := below_call0 M0 B1; clear pA0a pA0b pC0a pC0b; obtain ⟨zA1, pA1a, pA1b⟩ := BA1.out; obtain ⟨zC1, pC1a, pC1b⟩ := BC1.out)
  go_wp2_with (go_at_call 38; (with_reducible refine (rootOf_any x y _ hx hy).mono ?_); rw [RU.out]; rintro e w2 ⟨rfl, B2⟩; have BA2 := Bx.mk ((BA1.out.alloc _).below B2); have BC2 := Bx.mk ((BC1.out.alloc _).below B2); have L2 := Bx.mk (KP.below B2 (KP.push L1.out 38 (s1) (s2))); have M2 := below_call M1 B2; clear pA1a pA1b pC1a pC1b; obtain ⟨zA2, pA2a, pA2b⟩ := BA2.out; obtain ⟨zC2, pC2a, pC2b⟩ := BC2.out)
  go_wp2_with (first
    | (go_at_call 28; refine (fracsL1 a b _ _ (by simp) ha hb (by simp [go_sem, World.cell?_alloc_past]) (by simp [go_sem, World.cell?_alloc_past])).mono ?_; rw [RF.out]; rintro e w3 ⟨rfl, B3⟩; replace B3 : Below (w2.alloc (.cells #[.int .i64 (u1), .int .i64 (u2)] 38)).heap.size (w2.alloc (.cells #[.int .i64 (u1), .int .i64 (u2)] 38)) w3 := (by first | exact (below_alloc1 _ _).trans (B3.mono (by simp)) | exact B3 | exact (Below.refl _ _).drew.trans B3 | exact (below_drewN (Below.refl _ _) _).trans B3); have BA3 := Bx.mk ((BA2.out.alloc _).below B3); have BC3 := Bx.mk ((BC2.out.alloc _).below B3); have L3 := Bx.mk (KP.below B3 (KP.push L2.out 38 (u1) (u2))); have M3 := below_call M2 B3; clear pA2a pA2b pC2a pC2b; obtain ⟨zA3, pA3a, pA3b⟩ := BA3.out; obtain ⟨zC3, pC3a, pC3b⟩ := BC3.out; obtain ⟨⟨x3_2, s3_2, t3_2⟩, ⟨x3_1, s3_1, t3_1⟩, _⟩ := L3.out)
    | (go_at_call 35; refine (within_any t 1 10000 _).mono ?_; rw [HW.out]; rintro e wx ⟨rfl, rfl⟩))
  have hz0 : ((0 : Int) != 0) = false := rfl
  have hz1 : ((0 : Int) == 0) = true := rfl
  refine wp_region_held_drew (S := fun w' => w'.cell? ⟨w1.heap.size, 0, none⟩ = some (.int .i64 (s1)) ∧ w'.cell? ⟨w1.heap.size, 1, none⟩ = some (.int .i64 (s2)) ∧ w'.cell? ⟨w.heap.size, 0, none⟩ = some (.int .i64 a) ∧ w'.cell? ⟨w.heap.size, 1, none⟩ = some (.int .i64 b)) (by kernel_rfl) (by exact ⟨s3_1, t3_1, pA3a, pA3b⟩) (fun hHeld => ?_)
  refine wpAnyH_take (i := 0) (v := ?v0) rfl (by kernel_rfl) (by kernel_rfl) (by kernel_rfl) (fun _ _ _ h => h) (Or.inl ⟨by rfl, ?hy0⟩) (by assumption) ?_
  case hy0 => (intro w hSw; (try dsimp only at hSw); go_simp; first | done | (with_reducible rfl))
  try simp only [Act.put, List.setIfInBounds_toArray, List.set_cons_zero, List.set_cons_succ, List.getElem_toArray, List.getElem_cons_zero, List.getElem_cons_succ]
  refine wpAnyH_take (i := 1) (v := ?v1) rfl (by kernel_rfl) (by kernel_rfl) (by kernel_rfl) (fun _ _ _ h => h) (Or.inl ⟨by rfl, ?hy1⟩) (by assumption) ?_
  case hy1 => (intro w hSw; (try dsimp only at hSw); go_simp; first | done | (with_reducible rfl))
  try simp only [Act.put, List.setIfInBounds_toArray, List.set_cons_zero, List.set_cons_succ, List.getElem_toArray, List.getElem_cons_zero, List.getElem_cons_succ]
  refine wpAnyH_take (i := 2) (v := ?v2) rfl (by kernel_rfl) (by kernel_rfl) (by kernel_rfl) (fun _ _ _ h => h) (Or.inl ⟨by rfl, ?hy2⟩) (by assumption) ?_
  case hy2 => (intro w hSw; (try dsimp only at hSw); go_simp; first | done | (with_reducible rfl))
  try simp only [Act.put, List.setIfInBounds_toArray, List.set_cons_zero, List.set_cons_succ, List.getElem_toArray, List.getElem_cons_zero, List.getElem_cons_succ]
  refine wpAnyH_take (i := 3) (v := undef) rfl (by kernel_rfl) (by kernel_rfl) (by kernel_rfl) (fun _ _ _ h => h) (Or.inr ⟨by rfl, rfl⟩) (by assumption) ?_
  try simp only [Act.put, List.setIfInBounds_toArray, List.set_cons_zero, List.set_cons_succ, List.getElem_toArray, List.getElem_cons_zero, List.getElem_cons_succ]
  refine wpAnyH_take (i := 4) (v := undef) rfl (by kernel_rfl) (by kernel_rfl) (by kernel_rfl) (fun _ _ _ h => h) (Or.inr ⟨by rfl, rfl⟩) (by assumption) ?_
  try simp only [Act.put, List.setIfInBounds_toArray, List.set_cons_zero, List.set_cons_succ, List.getElem_toArray, List.getElem_cons_zero, List.getElem_cons_succ]
  refine wpAnyH_take (i := 5) (v := undef) rfl (by kernel_rfl) (by kernel_rfl) (by kernel_rfl) (fun _ _ _ h => h) (Or.inr ⟨by rfl, rfl⟩) (by assumption) ?_
  try simp only [Act.put, List.setIfInBounds_toArray, List.set_cons_zero, List.set_cons_succ, List.getElem_toArray, List.getElem_cons_zero, List.getElem_cons_succ]
  refine wpAnyH_take (i := 6) (v := undef) rfl (by kernel_rfl) (by kernel_rfl) (by kernel_rfl) (fun _ _ _ h => h) (Or.inr ⟨by rfl, rfl⟩) (by assumption) ?_
  try simp only [Act.put, List.setIfInBounds_toArray, List.set_cons_zero, List.set_cons_succ, List.getElem_toArray, List.getElem_cons_zero, List.getElem_cons_succ]
  refine wpAnyH_take (i := 7) (v := undef) rfl (by kernel_rfl) (by kernel_rfl) (by kernel_rfl) (fun _ _ _ h => h) (Or.inr ⟨by rfl, rfl⟩) (by assumption) ?_
  try simp only [Act.put, List.setIfInBounds_toArray, List.set_cons_zero, List.set_cons_succ, List.getElem_toArray, List.getElem_cons_zero, List.getElem_cons_succ]
  refine wpAnyH_take (i := 8) (v := undef) rfl (by kernel_rfl) (by kernel_rfl) (by kernel_rfl) (fun _ _ _ h => h) (Or.inr ⟨by rfl, rfl⟩) (by assumption) ?_
  try simp only [Act.put, List.setIfInBounds_toArray, List.set_cons_zero, List.set_cons_succ, List.getElem_toArray, List.getElem_cons_zero, List.getElem_cons_succ]
  refine wpAnyH_take (i := 9) (v := undef) rfl (by kernel_rfl) (by kernel_rfl) (by kernel_rfl) (fun _ _ _ h => h) (Or.inr ⟨by rfl, rfl⟩) (by assumption) ?_
  try simp only [Act.put, List.setIfInBounds_toArray, List.set_cons_zero, List.set_cons_succ, List.getElem_toArray, List.getElem_cons_zero, List.getElem_cons_succ]
  refine wpAnyH_take (i := 10) (v := undef) rfl (by kernel_rfl) (by kernel_rfl) (by kernel_rfl) (fun _ _ _ h => h) (Or.inr ⟨by rfl, rfl⟩) (by assumption) ?_
  try simp only [Act.put, List.setIfInBounds_toArray, List.set_cons_zero, List.set_cons_succ, List.getElem_toArray, List.getElem_cons_zero, List.getElem_cons_succ]
  refine wpAnyH_take (i := 11) (v := ?v11) rfl (by kernel_rfl) (by kernel_rfl) (by kernel_rfl) (fun _ _ _ h => h) (Or.inl ⟨by rfl, ?hy11⟩) (by assumption) ?_
  case hy11 => (intro w hSw; (try dsimp only at hSw); go_simp; first | done | (with_reducible rfl))
  try simp only [Act.put, List.setIfInBounds_toArray, List.set_cons_zero, List.set_cons_succ, List.getElem_toArray, List.getElem_cons_zero, List.getElem_cons_succ]
  refine wpAnyH_take (i := 12) (v := ?v12) rfl (by kernel_rfl) (by kernel_rfl) (by kernel_rfl) (fun _ _ _ h => h) (Or.inl ⟨by rfl, ?hy12⟩) (by assumption) ?_
  case hy12 => (intro w hSw; (try dsimp only at hSw); go_simp; first | done | (with_reducible rfl))
  try simp only [Act.put, List.setIfInBounds_toArray, List.set_cons_zero, List.set_cons_succ, List.getElem_toArray, List.getElem_cons_zero, List.getElem_cons_succ]
  refine wpAnyH_take (i := 13) (v := ?v13) rfl (by kernel_rfl) (by kernel_rfl) (by kernel_rfl) (fun _ _ _ h => h) (Or.inl ⟨by rfl, ?hy13⟩) (by assumption) ?_
  case hy13 => (intro w hSw; (try dsimp only at hSw); go_simp; first | done | (with_reducible rfl))
  try simp only [Act.put, List.setIfInBounds_toArray, List.set_cons_zero, List.set_cons_succ, List.getElem_toArray, List.getElem_cons_zero, List.getElem_cons_succ]
  refine wpAnyH_take (i := 14) (v := ?v14) rfl (by kernel_rfl) (by kernel_rfl) (by kernel_rfl) (fun _ _ _ h => h) (Or.inl ⟨by rfl, ?hy14⟩) (by assumption) ?_
  case hy14 => (intro w hSw; (try dsimp only at hSw); go_simp; first | done | (with_reducible rfl))
  try simp only [Act.put, List.setIfInBounds_toArray, List.set_cons_zero, List.set_cons_succ, List.getElem_toArray, List.getElem_cons_zero, List.getElem_cons_succ]
  refine wpAnyH_take (i := 15) (v := ?v15) rfl (by kernel_rfl) (by kernel_rfl) (by kernel_rfl) (fun _ _ _ h => h) (Or.inl ⟨by rfl, ?hy15⟩) (by assumption) ?_
  case hy15 => (intro w hSw; (try dsimp only at hSw); go_simp; first | done | (with_reducible rfl))
  try simp only [Act.put, List.setIfInBounds_toArray, List.set_cons_zero, List.set_cons_succ, List.getElem_toArray, List.getElem_cons_zero, List.getElem_cons_succ]
  refine wpAnyH_take (i := 16) (v := ?v16) rfl (by kernel_rfl) (by kernel_rfl) (by kernel_rfl) (fun _ _ _ h => h) (Or.inl ⟨by rfl, ?hy16⟩) (by assumption) ?_
  case hy16 => (intro w hSw; (try dsimp only at hSw); go_simp; first | done | (with_reducible rfl))
  try simp only [Act.put, List.setIfInBounds_toArray, List.set_cons_zero, List.set_cons_succ, List.getElem_toArray, List.getElem_cons_zero, List.getElem_cons_succ]
  refine wpAnyH_take (i := 17) (v := ?v17) rfl (by kernel_rfl) (by kernel_rfl) (by kernel_rfl) (fun _ _ _ h => h) (Or.inl ⟨by rfl, ?hy17⟩) (by assumption) ?_
  case hy17 => (intro w hSw; (try dsimp only at hSw); go_simp; first | done | (with_reducible rfl))
  try simp only [Act.put, List.setIfInBounds_toArray, List.set_cons_zero, List.set_cons_succ, List.getElem_toArray, List.getElem_cons_zero, List.getElem_cons_succ]
  refine wpAnyH_take (i := 18) (v := ?v18) rfl (by kernel_rfl) (by kernel_rfl) (by kernel_rfl) (fun _ _ _ h => h) (Or.inl ⟨by rfl, ?hy18⟩) (by assumption) ?_
  case hy18 => (intro w hSw; (try dsimp only at hSw); go_simp; first | done | (with_reducible rfl))
  try simp only [Act.put, List.setIfInBounds_toArray, List.set_cons_zero, List.set_cons_succ, List.getElem_toArray, List.getElem_cons_zero, List.getElem_cons_succ]
  refine wpAnyH_take (i := 19) (v := ?v19) rfl (by kernel_rfl) (by kernel_rfl) (by kernel_rfl) (fun _ _ _ h => h) (Or.inl ⟨by rfl, ?hy19⟩) (by assumption) ?_
  case hy19 => (intro w hSw; (try dsimp only at hSw); go_simp; first | done | (with_reducible rfl))
  try simp only [Act.put, List.setIfInBounds_toArray, List.set_cons_zero, List.set_cons_succ, List.getElem_toArray, List.getElem_cons_zero, List.getElem_cons_succ]
  refine wpAnyH_take (i := 20) (v := ?v20) rfl (by kernel_rfl) (by kernel_rfl) (by kernel_rfl) (fun _ _ _ h => h) (Or.inl ⟨by rfl, ?hy20⟩) (by assumption) ?_
  case hy20 => (intro w hSw; (try dsimp only at hSw); go_simp; first | done | (with_reducible rfl))
  try simp only [Act.put, List.setIfInBounds_toArray, List.set_cons_zero, List.set_cons_succ, List.getElem_toArray, List.getElem_cons_zero, List.getElem_cons_succ]
  refine wpAnyH_take (i := 21) (v := ?v21) rfl (by kernel_rfl) (by kernel_rfl) (by kernel_rfl) (fun _ _ _ h => h) (Or.inl ⟨by rfl, ?hy21⟩) (by assumption) ?_
  case hy21 => (intro w hSw; (try dsimp only at hSw); go_simp; first | done | (with_reducible rfl))
  try simp only [Act.put, List.setIfInBounds_toArray, List.set_cons_zero, List.set_cons_succ, List.getElem_toArray, List.getElem_cons_zero, List.getElem_cons_succ]
  refine wpAnyH_ready (rs := [22]) (by kernel_rfl) (by simp) ?_
  refine AllReadyH.cons rfl (fun K hK => ?_) AllReadyH.nil
  rw [if_pos (by rfl)]
  simp only [List.getElem_toArray, List.getElem_cons_zero, List.getElem_cons_succ]
  go_simp
  go_at_call 39; refine (sqrtR_any a b t _ H1.out h2 h3 h4).mono ?_; rw [TS.out]; rintro e w4 ⟨rfl, B4⟩; replace B4 : Below w3.heap.size w3 w4 := (by first | exact B4 | exact (Below.refl _ _).drew.trans B4 | exact (below_drewN (Below.refl _ _) _).trans B4); have BA4 := Bx.mk (BA3.out.below B4); have BC4 := Bx.mk (BC3.out.below B4); have L4 := Bx.mk (KP.below B4 L3.out); have M4 := below_call0 M3 B4; clear pA3a pA3b pC3a pC3b; obtain ⟨zA4, pA4a, pA4b⟩ := BA4.out; obtain ⟨zC4, pC4a, pC4b⟩ := BC4.out; obtain ⟨⟨x4_2, s4_2, t4_2⟩, ⟨x4_1, s4_1, t4_1⟩, _⟩ := L4.out
  try dsimp only
  refine hK.out _ _ (by exact ⟨s4_1, t4_1, pA4a, pA4b⟩) (fun hHeld => ?_)
  clear hK K
  try simp only [Act.put, List.setIfInBounds_toArray, List.set_cons_zero, List.set_cons_succ, List.getElem_toArray, List.getElem_cons_zero, List.getElem_cons_succ]
  refine wpAnyH_take (i := 23) (v := ?v23) rfl (by kernel_rfl) (by kernel_rfl) (by kernel_rfl) (fun _ _ _ h => h) (Or.inl ⟨by rfl, ?hy23⟩) (by assumption) ?_
  case hy23 => (intro w hSw; (try dsimp only at hSw); go_simp; first | done | (with_reducible rfl))
  try simp only [Act.put, List.setIfInBounds_toArray, List.set_cons_zero, List.set_cons_succ, List.getElem_toArray, List.getElem_cons_zero, List.getElem_cons_succ]
  refine wpAnyH_take (i := 24) (v := ?v24) rfl (by kernel_rfl) (by kernel_rfl) (by kernel_rfl) (fun _ _ _ h => h) (Or.inl ⟨by rfl, ?hy24⟩) (by assumption) ?_
  case hy24 => (intro w hSw; (try dsimp only at hSw); go_simp; first | done | (with_reducible rfl))
  try simp only [Act.put, List.setIfInBounds_toArray, List.set_cons_zero, List.set_cons_succ, List.getElem_toArray, List.getElem_cons_zero, List.getElem_cons_succ]
  refine wpAnyH_take (i := 25) (v := ?v25) rfl (by kernel_rfl) (by kernel_rfl) (by kernel_rfl) (fun _ _ _ h => h) (Or.inl ⟨by rfl, ?hy25⟩) (by assumption) ?_
  case hy25 => (intro w hSw; (try dsimp only at hSw); go_simp; first | done | (with_reducible rfl))
  try simp only [Act.put, List.setIfInBounds_toArray, List.set_cons_zero, List.set_cons_succ, List.getElem_toArray, List.getElem_cons_zero, List.getElem_cons_succ]
  refine wpAnyH_take (i := 26) (v := ?v26) rfl (by kernel_rfl) (by kernel_rfl) (by kernel_rfl) (fun _ _ _ h => h) (Or.inl ⟨by rfl, ?hy26⟩) (by assumption) ?_
  case hy26 => (intro w hSw; (try dsimp only at hSw); go_simp; first | done | (with_reducible rfl))
  try simp only [Act.put, List.setIfInBounds_toArray, List.set_cons_zero, List.set_cons_succ, List.getElem_toArray, List.getElem_cons_zero, List.getElem_cons_succ]
  refine wpAnyH_done (by kernel_rfl) ?_ _
  go_wp2_with (go_at_call 40; refine (checkRangeR_any x y _ hx hy).mono ?_; rw [RD.out]; rintro e w5 ⟨rfl, B5⟩; replace B5 : Below w4.heap.size w4 w5 := (by first | exact B5 | exact (Below.refl _ _).drew.trans B5 | exact (below_drewN (Below.refl _ _) _).trans B5); have BA5 := Bx.mk (BA4.out.below B5); have BC5 := Bx.mk (BC4.out.below B5); have L5 := Bx.mk (KP.below B5 L4.out); have M5 := below_call0 M4 B5; clear pA4a pA4b pC4a pC4b; obtain ⟨zA5, pA5a, pA5b⟩ := BA5.out; obtain ⟨zC5, pC5a, pC5b⟩ := BC5.out; obtain ⟨⟨x5_2, s5_2, t5_2⟩, ⟨x5_1, s5_1, t5_1⟩, _⟩ := L5.out)
  have hm1 : IntKind.i64.wrap (u1 * u1) = u1 * u1 := IntWalk.i64_in _ (by omega)
  have hm2 : IntKind.i64.wrap (u2 * u2) = u2 * u2 := IntWalk.i64_in _ (by omega)
  have hd1 : decide (u1 * u1 ≤ x) = true := by simpa using v6
  have hd2 : decide (y ≤ u2 * u2) = true := by simpa using v7
  first
  | go_region_held3 (fun w' => w'.cell? ⟨w2.heap.size, 0, none⟩ = some (.int .i64 (u1)) ∧ w'.cell? ⟨w2.heap.size, 1, none⟩ = some (.int .i64 (u2)) ∧ w'.cell? ⟨w.heap.size + 1, 0, none⟩ = some (.int .i64 x) ∧ w'.cell? ⟨w.heap.size + 1, 1, none⟩ = some (.int .i64 y))
      (first | (exact ⟨s5_2, t5_2, pC5a, pC5b⟩) | (exact ⟨s6_2, t6_2, pC6a, pC6b⟩))
      ((go_at_call 41; refine (rootOfR_any x y _ g1 g2 g3 g4).mono ?_; rw [TU1.out, TU2.out]; rintro e w6 ⟨rfl, B6⟩; replace B6 : Below w5.heap.size w5 w6 := (by first | exact B6 | exact (Below.refl _ _).drew.trans B6 | exact (below_drewN (Below.refl _ _) _).trans B6); have BA6 := Bx.mk (BA5.out.below B6); have BC6 := Bx.mk (BC5.out.below B6); have L6 := Bx.mk (KP.below B6 L5.out); have M6 := below_call0 M5 B6; clear pA5a pA5b pC5a pC5b; obtain ⟨zA6, pA6a, pA6b⟩ := BA6.out; obtain ⟨zC6, pC6a, pC6b⟩ := BC6.out; obtain ⟨⟨x6_2, s6_2, t6_2⟩, ⟨x6_1, s6_1, t6_1⟩, _⟩ := L6.out))
  | fail
  go_wp2
  go_ret
  exact ⟨rfl, by first | exact M6 | exact M6.drew | exact below_drewN M6 _⟩

end Go.Proofs.Ytdlddfmodbcnmaa
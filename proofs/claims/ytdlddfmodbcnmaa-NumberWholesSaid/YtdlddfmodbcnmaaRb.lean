/- Walks: the law of multiples. -/
import Derived.Test.YtdlddfmodbcnmaaRa
import Derived.Test.YtdlddfmodbcnmaaFL
import Derived.Test.YtdlddfmodbcnmaaAw
set_option linter.unusedVariables false
set_option linter.unusedSimpArgs false
namespace Go.Proofs.Ytdlddfmodbcnmaa
open Go.RowKit

set_option maxRecDepth 100000 in
set_option maxHeartbeats 2000000 in
theorem wholeR_any (a b t : Int) (w : World) (a1 : -1000000000 ≤ a) (a2 : a ≤ 1000000000) (b1 : 1 ≤ b) (b2 : b ≤ 1000000000) (t1 : 1 ≤ t) (t2 : t ≤ 1000000) :
    Calls Try.prog 36 #[.agg #[.int .i64 a, .int .i64 b], .int .i64 t] w fun e w' => e = .returned (.agg #[.int .i64 (a * t / b), .int .i64 (-(-(a * t) / b))]) ∧ Below w.heap.size w w' := by
  have m := mul_b9 (x := a) (y := t) a1 a2 (by omega) (by omega)
  have hm : IntKind.i64.wrap (a * t) = a * t := IntWalk.i64_in _ (by omega)
  go_enter Try.func36, Try.ntmps36
  go_wp2
  go_region_held3 (fun w' => w'.cell? ⟨w.heap.size, 0, none⟩ = some (.int .i64 a) ∧ w'.cell? ⟨w.heap.size, 1, none⟩ = some (.int .i64 b))
    (first | (simp [go_sem, World.cell?_alloc_past]; done) | (refine ⟨?_, ?_⟩ <;> simp [go_sem, *]; done))
    (first
      | (go_at_call 91; refine (floorB_any _ _ _ (by omega) (by omega) (by omega) (by omega)).mono ?_; rintro e w' ⟨rfl, rfl⟩)
      | (go_at_call 92; refine (ceilB_any _ _ _ (by omega) (by omega) (by omega) (by omega)).mono ?_; rintro e w' ⟨rfl, rfl⟩))
  go_wp2
  refine bodyPost_ret (ret_range1 rfl _ _ _ _ _ rfl (by simp [go_sem]; first | done | rfl) (by simp [go_sem]; first | done | rfl)) rfl ⟨rfl, (by repeat (first | exact Below.refl _ _ | refine Below.drew ?_ | refine Below.drewN' ?_ _ | refine Below.alloc ?_ (by first | exact Nat.le_refl _ | (simp; done) | (simp; omega)) _))⟩

set_option maxRecDepth 100000 in
set_option maxHeartbeats 4000000 in
theorem wholes_A (HAW : Awake) (a b t E : Int) (w : World) (ha : I64 a) (hb : I64 b) (ht : I64 t)
    (RU : Bx (wholeN a b t = (0, 0, E))) (RF : Bx (ckFs [(a, b)] = E)) (hE : (E == 0) = false) (hE2 : (E != 0) = true) :
    Calls Try.prog 4 #[.agg #[.int .i64 a, .int .i64 b], .int .i64 t] w fun e w' => e = .returned (.bool true) ∧ Below w.heap.size w w' := by
  go_enter Try.func4, Try.ntmps4
  go_wp2_with (go_at_call 20; refine (HAW _).mono ?_; rintro e w0 ⟨rfl, B0⟩; have BA0 := Bx.mk (((HF.new w 23 a b).below B0)); have M0 : Below w.heap.size w w0 := ((Below.refl w.heap.size w).alloc (Nat.le_refl _) _).trans (B0.mono (by simp <;> omega)); have L0 := Bx.mk (KP.nil w0); obtain ⟨zA0, pA0a, pA0b⟩ := BA0.out)
  go_wp2_with (go_at_call 34; (with_reducible refine (whole_any a b t _ ha hb ht).mono ?_); rw [RU.out]; rintro e w1 ⟨rfl, B1⟩; have BA1 := Bx.mk (BA0.out.below B1); have L1 := Bx.mk (KP.below B1 L0.out); have M1 := below_call0 M0 B1; clear pA0a pA0b; obtain ⟨zA1, pA1a, pA1b⟩ := BA1.out)
  go_wp2_with (go_at_call 28; refine (fracsL1 a b _ _ (by simp) ha hb (by simp [go_sem, World.cell?_alloc_past]) (by simp [go_sem, World.cell?_alloc_past])).mono ?_; rw [RF.out]; rintro e w2 ⟨rfl, B2⟩; replace B2 : Below (w1.alloc (.cells #[.int .i64 (0), .int .i64 (0)] 38)).heap.size (w1.alloc (.cells #[.int .i64 (0), .int .i64 (0)] 38)) w2 := (by first | exact (below_alloc1 _ _).trans (B2.mono (by simp)) | exact B2 | exact (Below.refl _ _).drew.trans B2 | exact (below_drewN (Below.refl _ _) _).trans B2); have BA2 := Bx.mk ((BA1.out.alloc _).below B2); have L2 := Bx.mk (KP.below B2 (KP.push L1.out 38 (0) (0))); have M2 := below_call M1 B2; clear pA1a pA1b; obtain ⟨zA2, pA2a, pA2b⟩ := BA2.out; obtain ⟨⟨x2_1, s2_1, t2_1⟩, _⟩ := L2.out)
  go_ret
  exact ⟨rfl, by first | exact M2 | exact M2.drew | exact below_drewN M2 _⟩

set_option maxRecDepth 100000 in
set_option maxHeartbeats 4000000 in
theorem wholes_T (HAW : Awake) (a b t : Int) (w : World) (ha : I64 a) (hb : I64 b) (ht : I64 t)
    (RU : Bx (wholeN a b t = (0, 0, 2))) (RF : Bx (ckFs [(a, b)] = 0)) (HW : Bx (wtB t 1 1000000 = false)) :
    Calls Try.prog 4 #[.agg #[.int .i64 a, .int .i64 b], .int .i64 t] w fun e w' => e = .returned (.bool true) ∧ Below w.heap.size w w' := by
  go_enter Try.func4, Try.ntmps4
  go_wp2_with (go_at_call 20; refine (HAW _).mono ?_; rintro e w0 ⟨rfl, B0⟩; have BA0 := Bx.mk (((HF.new w 23 a b).below B0)); have M0 : Below w.heap.size w w0 := ((Below.refl w.heap.size w).alloc (Nat.le_refl _) _).trans (B0.mono (by simp <;> omega)); have L0 := Bx.mk (KP.nil w0); obtain ⟨zA0, pA0a, pA0b⟩ := BA0.out)
  go_wp2_with (go_at_call 34; (with_reducible refine (whole_any a b t _ ha hb ht).mono ?_); rw [RU.out]; rintro e w1 ⟨rfl, B1⟩; have BA1 := Bx.mk (BA0.out.below B1); have L1 := Bx.mk (KP.below B1 L0.out); have M1 := below_call0 M0 B1; clear pA0a pA0b; obtain ⟨zA1, pA1a, pA1b⟩ := BA1.out)
  go_wp2_with (first
    | (go_at_call 28; refine (fracsL1 a b _ _ (by simp) ha hb (by simp [go_sem, World.cell?_alloc_past]) (by simp [go_sem, World.cell?_alloc_past])).mono ?_; rw [RF.out]; rintro e w2 ⟨rfl, B2⟩; replace B2 : Below (w1.alloc (.cells #[.int .i64 (0), .int .i64 (0)] 38)).heap.size (w1.alloc (.cells #[.int .i64 (0), .int .i64 (0)] 38)) w2 := (by first | exact (below_alloc1 _ _).trans (B2.mono (by simp)) | exact B2 | exact (Below.refl _ _).drew.trans B2 | exact (below_drewN (Below.refl _ _) _).trans B2); have BA2 := Bx.mk ((BA1.out.alloc _).below B2); have L2 := Bx.mk (KP.below B2 (KP.push L1.out 38 (0) (0))); have M2 := below_call M1 B2; clear pA1a pA1b; obtain ⟨zA2, pA2a, pA2b⟩ := BA2.out; obtain ⟨⟨x2_1, s2_1, t2_1⟩, _⟩ := L2.out)
    | (go_at_call 35; (with_reducible refine (within_any t 1 1000000 _).mono ?_); rw [HW.out]; rintro e wx ⟨rfl, rfl⟩))
  go_ret
  exact ⟨rfl, by first | exact M2 | exact M2.drew | exact below_drewN M2 _⟩

set_option maxRecDepth 100000 in
set_option maxHeartbeats 4000000 in
theorem wholes_G (HAW : Awake) (a b t u1 u2 : Int) (w : World) (ha : I64 a) (hb : I64 b) (ht : I64 t)
    (RU : Bx (wholeN a b t = (u1, u2, 0))) (RF : Bx (ckFs [(a, b)] = 0)) (HW : Bx (wtB t 1 1000000 = true)) (a1 : -1000000000 ≤ a) (a2 : a ≤ 1000000000) (b1 : 1 ≤ b) (b2 : b ≤ 1000000000) (t1 : 1 ≤ t) (t2 : t ≤ 1000000) (TU1 : Bx (a * t / b = u1)) (TU2 : Bx (-(-(a * t) / b) = u2)) (HV : Bx (wtB (u2 - u1) 0 1 = true)) (v1 : 0 ≤ u2 - u1) (v2 : u2 - u1 ≤ 1) :
    Calls Try.prog 4 #[.agg #[.int .i64 a, .int .i64 b], .int .i64 t] w fun e w' => e = .returned (.bool true) ∧ Below w.heap.size w w' := by
  go_enter Try.func4, Try.ntmps4
  go_wp2_with (go_at_call 20; refine (HAW _).mono ?_; rintro e w0 ⟨rfl, B0⟩; have BA0 := Bx.mk (((HF.new w 23 a b).below B0)); have M0 : Below w.heap.size w w0 := ((Below.refl w.heap.size w).alloc (Nat.le_refl _) _).trans (B0.mono (by simp <;> omega)); have L0 := Bx.mk (KP.nil w0); obtain ⟨zA0, pA0a, pA0b⟩ := BA0.out)
  go_wp2_with (go_at_call 34; (with_reducible refine (whole_any a b t _ ha hb ht).mono ?_); rw [RU.out]; rintro e w1 ⟨rfl, B1⟩; have BA1 := Bx.mk (BA0.out.below B1); have L1 := Bx.mk (KP.below B1 L0.out); have M1 := below_call0 M0 B1; clear pA0a pA0b; obtain ⟨zA1, pA1a, pA1b⟩ := BA1.out)
  go_wp2_with (first
    | (go_at_call 28; refine (fracsL1 a b _ _ (by simp) ha hb (by simp [go_sem, World.cell?_alloc_past]) (by simp [go_sem, World.cell?_alloc_past])).mono ?_; rw [RF.out]; rintro e w2 ⟨rfl, B2⟩; replace B2 : Below (w1.alloc (.cells #[.int .i64 (u1), .int .i64 (u2)] 38)).heap.size (w1.alloc (.cells #[.int .i64 (u1), .int .i64 (u2)] 38)) w2 := (by first | exact (below_alloc1 _ _).trans (B2.mono (by simp)) | exact B2 | exact (Below.refl _ _).drew.trans B2 | exact (below_drewN (Below.refl _ _) _).trans B2); have BA2 := Bx.mk ((BA1.out.alloc _).below B2); have L2 := Bx.mk (KP.below B2 (KP.push L1.out 38 (u1) (u2))); have M2 := below_call M1 B2; clear pA1a pA1b; obtain ⟨zA2, pA2a, pA2b⟩ := BA2.out; obtain ⟨⟨x2_1, s2_1, t2_1⟩, _⟩ := L2.out)
    | (go_at_call 35; (with_reducible refine (within_any t 1 1000000 _).mono ?_); rw [HW.out]; rintro e wx ⟨rfl, rfl⟩))
  have hz1 : ((0 : Int) == 0) = true := rfl
  have hsub : IntKind.i64.wrap (u2 - u1) = u2 - u1 := IntWalk.i64_in _ (by omega)
  first
  | go_region_held3 (fun w' => w'.cell? ⟨w1.heap.size, 0, none⟩ = some (.int .i64 u1) ∧ w'.cell? ⟨w1.heap.size, 1, none⟩ = some (.int .i64 u2) ∧ w'.cell? ⟨w.heap.size, 0, none⟩ = some (.int .i64 a) ∧ w'.cell? ⟨w.heap.size, 1, none⟩ = some (.int .i64 b))
      (first | (exact ⟨s2_1, t2_1, pA2a, pA2b⟩) | (exact ⟨s3_1, t3_1, pA3a, pA3b⟩))
      (first
        | (go_at_call 36; refine (wholeR_any a b t _ a1 a2 b1 b2 t1 t2).mono ?_; rw [TU1.out, TU2.out]; rintro e w3 ⟨rfl, B3⟩; replace B3 : Below w2.heap.size w2 w3 := (by first | exact B3 | exact (Below.refl _ _).drew.trans B3 | exact (below_drewN (Below.refl _ _) _).trans B3); have BA3 := Bx.mk (BA2.out.below B3); have L3 := Bx.mk (KP.below B3 L2.out); have M3 := below_call0 M2 B3; clear pA2a pA2b; obtain ⟨zA3, pA3a, pA3b⟩ := BA3.out; obtain ⟨⟨x3_1, s3_1, t3_1⟩, _⟩ := L3.out)
        | (go_at_call 35; (with_reducible refine (within_any _ 0 1 _).mono ?_); rw [HV.out]; rintro e wx ⟨rfl, rfl⟩))
  | fail
  go_wp2
  go_ret
  exact ⟨rfl, by first | exact M3 | exact M3.drew | exact below_drewN M3 _⟩

end Go.Proofs.Ytdlddfmodbcnmaa
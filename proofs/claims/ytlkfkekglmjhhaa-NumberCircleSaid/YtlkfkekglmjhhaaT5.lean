/- Walks: the law of the circle. -/
import Derived.Test.YtlkfkekglmjhhaaT2
import Derived.Test.YtlkfkekglmjhhaaBg
import Derived.Deep.RegionHeld3
set_option linter.unusedVariables false
set_option linter.unusedSimpArgs false
namespace Go.Proofs.Ytlkfkekglmjhhaa
open Go.RowKit


/-- The sums behind k of both ranges. -/
structure SumC (n1 f1 n2 f2 k L H : Int) : Prop where
  s0 : k = 0 → L = 0 ∧ H = 0
  s1 : k = 1 → L = n1 * n1 ∧ H = f1 * f1
  s2 : k = 2 → L = n1 * n1 + n2 * n2 ∧ H = f1 * f1 + f2 * f2
theorem SumC.zero (n1 f1 n2 f2 : Int) : SumC n1 f1 n2 f2 0 0 0 := ⟨fun _ => ⟨rfl, rfl⟩, fun h => by omega, fun h => by omega⟩
theorem SumC.one {n1 f1 n2 f2 L H L' H' : Int} (h : SumC n1 f1 n2 f2 0 L H) (e1 : L' = L + n1 * n1) (e2 : H' = H + f1 * f1) : SumC n1 f1 n2 f2 1 L' H' := by
  obtain ⟨a, b⟩ := h.s0 rfl
  exact ⟨fun h => by omega, fun _ => ⟨by omega, by omega⟩, fun h => by omega⟩
theorem SumC.two {n1 f1 n2 f2 L H L' H' : Int} (h : SumC n1 f1 n2 f2 1 L H) (e1 : L' = L + n2 * n2) (e2 : H' = H + f2 * f2) : SumC n1 f1 n2 f2 2 L' H' := by
  obtain ⟨a, b⟩ := h.s1 rfl
  exact ⟨fun h => by omega, fun h => by omega, fun _ => ⟨by omega, by omega⟩⟩
/-- What is known of a range of which the squares are taken. -/
structure Rng (p q : Int) : Prop where
  b1 : -2000000 ≤ p
  b2 : p ≤ q
  b3 : q ≤ 2000000
theorem szsq {p : Int} (h : -2000000 ≤ p) (h' : p ≤ 2000000) : 0 ≤ sz p * sz p ∧ sz p * sz p ≤ 4000000000000 := by
  have s1 := sz_nonneg p
  have s2 := sz_le h h'
  have m := mul_bd (x := sz p) (y := sz p) (A := 2000000) (B := 2000000) (by omega) (by omega) (by omega) (by omega)
  exact ⟨Int.mul_nonneg s1 s1, m.2⟩
theorem slN_meet {v v' t : Int} (ht : 1 ≤ t) (h : v ≤ v' + 10) : (slN v t).1 ≤ (slN v' t).2 := by
  have k := Int.mul_le_mul_of_nonneg_right (show v - 20 ≤ v' + 20 by omega) (show 0 ≤ t by omega)
  unfold slN
  generalize (v - 20) * t = p at *
  generalize (v' + 20) * t = q at *
  dsimp only; omega
theorem sz_natAbs (p : Int) : (p.natAbs : Int) = sz p := rfl

set_option maxRecDepth 100000 in
set_option maxHeartbeats 8000000 in
theorem circle_A (HAW : Awake) (a t : Int) (w : World) (HA : Bx (wtB a (-1000000000) 998704000 = false)) (HT : Bx (wtB t 1 1000000 = wtB t 1 1000000)) :
    Calls Try.prog 10 #[.int .i64 a, .int .i64 t] w fun e w' => e = .returned (.bool true) ∧ Below w.heap.size w w' := by
  go_enter Try.func10, Try.ntmps10
  go_wp2_with (go_at_call 20; refine (HAW _).mono ?_; rintro e w0 ⟨rfl, B0⟩; have M0 : Below w.heap.size w w0 := B0; have L0 := Bx.mk (KP.nil w0))
  go_wp2_with (first
    | (go_at_call 35; (with_reducible refine (within_any a (-1000000000) 998704000 _).mono ?_); rw [HA.out]; rintro e wx ⟨rfl, rfl⟩)
    | (go_at_call 35; (with_reducible refine (within_any t 1 1000000 _).mono ?_); rw [HT.out]; rintro e wx ⟨rfl, rfl⟩))
  go_ret
  exact ⟨rfl, M0⟩

set_option maxRecDepth 100000 in
set_option maxHeartbeats 8000000 in
theorem circle_B (HAW : Awake) (a t : Int) (w : World) (HA : Bx (wtB a (-1000000000) 998704000 = true)) (HT : Bx (wtB t 1 1000000 = false)) :
    Calls Try.prog 10 #[.int .i64 a, .int .i64 t] w fun e w' => e = .returned (.bool true) ∧ Below w.heap.size w w' := by
  go_enter Try.func10, Try.ntmps10
  go_wp2_with (go_at_call 20; refine (HAW _).mono ?_; rintro e w0 ⟨rfl, B0⟩; have M0 : Below w.heap.size w w0 := B0; have L0 := Bx.mk (KP.nil w0))
  go_wp2_with (first
    | (go_at_call 35; (with_reducible refine (within_any a (-1000000000) 998704000 _).mono ?_); rw [HA.out]; rintro e wx ⟨rfl, rfl⟩)
    | (go_at_call 35; (with_reducible refine (within_any t 1 1000000 _).mono ?_); rw [HT.out]; rintro e wx ⟨rfl, rfl⟩))
  go_ret
  exact ⟨rfl, M0⟩

set_option maxRecDepth 100000 in
set_option maxHeartbeats 8000000 in
theorem circle_E (HAW : Awake) (a t u1 u2 v1 v2 : Int) (w : World) (ha : I64 a) (ha2 : I64 (324000 - a)) (ht : I64 t) (a1 : -1000000000 ≤ a) (a2 : a ≤ 998704000) (HA : Bx (wtB a (-1000000000) 998704000 = true)) (HT : Bx (wtB t 1 1000000 = true)) (RS : Bx (sinN a t = (u1, u2, 0))) (RC : Bx (cosN a t = (v1, v2, 0))) (RT : Bx (sinN (324000 - a) t = (0, 0, 2))) (HE : Bx (wtB (324000 - a) 1000000001 2000000000 = true)) :
    Calls Try.prog 10 #[.int .i64 a, .int .i64 t] w fun e w' => e = .returned (.bool true) ∧ Below w.heap.size w w' := by
  go_enter Try.func10, Try.ntmps10
  go_wp2_with (go_at_call 20; refine (HAW _).mono ?_; rintro e w0 ⟨rfl, B0⟩; have M0 : Below w.heap.size w w0 := B0; have L0 := Bx.mk (KP.nil w0))
  have hsub : IntKind.i64.wrap (324000 - a) = 324000 - a := IntWalk.i64_in _ (by omega)
  go_wp2_with (first
    | (go_at_call 35; (with_reducible refine (within_any a (-1000000000) 998704000 _).mono ?_); rw [HA.out]; rintro e wx ⟨rfl, rfl⟩)
    | (go_at_call 35; (with_reducible refine (within_any t 1 1000000 _).mono ?_); rw [HT.out]; rintro e wx ⟨rfl, rfl⟩)
    | (go_at_call 56; (with_reducible refine (sine_any a t _ ha ht).mono ?_); rw [RS.out]; rintro e w1 ⟨rfl, B1⟩; have L1 := Bx.mk (KP.below B1 L0.out); have M1 := below_call0 M0 B1))
  go_wp2_with (go_at_call 57; (with_reducible refine (cosine_any a t _ ha ht).mono ?_); rw [RC.out]; rintro e w2 ⟨rfl, B2⟩; have L2 := Bx.mk (KP.below B2 (KP.push L1.out 38 (u1) (u2))); have M2 := below_call M1 B2)
  go_wp2_with (go_at_call 56; (with_reducible refine (sine_any (324000 - a) t _ ha2 ht).mono ?_); rw [RT.out]; rintro e w3 ⟨rfl, B3⟩; have L3 := Bx.mk (KP.below B3 (KP.push L2.out 38 (v1) (v2))); have M3 := below_call M2 B3)
  go_wp2_with (go_at_call 35; (with_reducible refine (within_any (324000 - a) 1000000001 2000000000 _).mono ?_); rw [HE.out]; rintro e wx ⟨rfl, rfl⟩)
  go_ret
  exact ⟨rfl, by first | exact M3.alloc M3.size _ | exact (M3.alloc M3.size _).drew⟩

set_option maxRecDepth 100000 in
set_option maxHeartbeats 8000000 in
theorem circle_G (HAW : Awake) (a t u1 u2 v1 v2 x1 x2 : Int) (w : World) (ha : I64 a) (ha2 : I64 (324000 - a)) (ht : I64 t) (a1 : -1000000000 ≤ a) (a2 : a ≤ 998704000) (HA : Bx (wtB a (-1000000000) 998704000 = true)) (HT : Bx (wtB t 1 1000000 = true)) (RS : Bx (sinN a t = (u1, u2, 0))) (RC : Bx (cosN a t = (v1, v2, 0))) (RT : Bx (sinN (324000 - a) t = (x1, x2, 0))) (t1 : 1 ≤ t) (t2 : t ≤ 1000000) (U : Bx (Rng u1 u2)) (V : Bx (Rng v1 v2)) (HU : Bx (wtB u1 (-2000000) u2 = true)) (HV : Bx (wtB v1 (-2000000) v2 = true)) (Q1 : Bx (nearI u1 u2 * nearI u1 u2 + nearI v1 v2 * nearI v1 v2 ≤ t * t)) (Q2 : Bx (t * t ≤ farI u1 u2 * farI u1 u2 + farI v1 v2 * farI v1 v2)) (C1 : x1 ≤ v2) (C2 : v1 ≤ x2) :
    Calls Try.prog 10 #[.int .i64 a, .int .i64 t] w fun e w' => e = .returned (.bool true) ∧ Below w.heap.size w w' := by
  go_enter Try.func10, Try.ntmps10
  go_wp2_with (go_at_call 20; refine (HAW _).mono ?_; rintro e w0 ⟨rfl, B0⟩; have M0 : Below w.heap.size w w0 := B0; have L0 := Bx.mk (KP.nil w0))
  have hsub : IntKind.i64.wrap (324000 - a) = 324000 - a := IntWalk.i64_in _ (by omega)
  go_wp2_with (first
    | (go_at_call 35; (with_reducible refine (within_any a (-1000000000) 998704000 _).mono ?_); rw [HA.out]; rintro e wx ⟨rfl, rfl⟩)
    | (go_at_call 35; (with_reducible refine (within_any t 1 1000000 _).mono ?_); rw [HT.out]; rintro e wx ⟨rfl, rfl⟩)
    | (go_at_call 56; (with_reducible refine (sine_any a t _ ha ht).mono ?_); rw [RS.out]; rintro e w1 ⟨rfl, B1⟩; have L1 := Bx.mk (KP.below B1 L0.out); have M1 := below_call0 M0 B1))
  go_wp2_with (go_at_call 57; (with_reducible refine (cosine_any a t _ ha ht).mono ?_); rw [RC.out]; rintro e w2 ⟨rfl, B2⟩; have L2 := Bx.mk (KP.below B2 (KP.push L1.out 38 (u1) (u2))); have M2 := below_call M1 B2)
  go_wp2_with (go_at_call 56; (with_reducible refine (sine_any (324000 - a) t _ ha2 ht).mono ?_); rw [RT.out]; rintro e w3 ⟨rfl, B3⟩; have L3 := Bx.mk (KP.below B3 (KP.push L2.out 38 (v1) (v2))); have M3 := below_call M2 B3; have N3 := Bx.mk (KP.push L3.out 38 x1 x2); obtain ⟨⟨y3, s3_3, t3_3⟩, ⟨y2, s3_2, t3_2⟩, ⟨y1, s3_1, t3_1⟩, _⟩ := N3.out)
  have HK := N3
  clear N3
  have HM := Bx.mk (M3.alloc (o := .cells #[.int .i64 x1, .int .i64 x2] 38) M3.size)
  clear M0 M1 M2 M3 L0 L1 L2 L3 B0 B1 B2 B3
  obtain ⟨p1, p2, p3⟩ := U.out
  obtain ⟨q1, q2, q3⟩ := V.out
  have i0 : ∀ W, (Instr.index 62 (.agg #[.int .i64 u1, .int .i64 u2, .int .i64 v1, .int .i64 v2]) (.int .i64 0)).run Try.prog W = .ok (.agg #[.int .i64 u1, .int .i64 u2]) W := fun _ => by kernel_rfl
  have i1 : ∀ W, (Instr.index 62 (.agg #[.int .i64 u1, .int .i64 u2, .int .i64 v1, .int .i64 v2]) (.int .i64 1)).run Try.prog W = .ok (.agg #[.int .i64 v1, .int .i64 v2]) W := fun _ => by kernel_rfl
  go_wp2
  clear s3_3 t3_3 s3_2 t3_2 s3_1 t3_1 y3 y2 y1
  generalize w3.heap.size = g3 at *
  generalize w2.heap.size = g2 at *
  generalize w1.heap.size = g1 at *
  go_loopw [11, 12, 70] (fun l h i wr => ∃ k L H : Int, 0 ≤ k ∧ k ≤ 2 ∧ i = .int .i64 k ∧ l = .int .i64 L ∧ h = .int .i64 H ∧ Bx (SumC (nearI u1 u2) (farI u1 u2) (nearI v1 v2) (farI v1 v2) k L H) ∧ 0 ≤ L ∧ L ≤ 4000000000000 * k ∧ 0 ≤ H ∧ H ≤ 4000000000000 * k ∧ Bx (KP wr [(g3, x1, x2), (g2, v1, v2), (g1, u1, u2)]) ∧ Bx (Below w.heap.size w wr)) (fun _ _ i _ => (2 - intOf i).toNat)
  case atStart => exact ⟨0, 0, 0, by omega, by omega, rfl, rfl, rfl, ⟨SumC.zero _ _ _ _⟩, by omega, by omega, by omega, by omega, HK, HM⟩
  case round =>
    obtain ⟨k, L, H, k0, k2, rfl, rfl, rfl, ES, l0, l1, h0, h1, KK, MM⟩ := hrel
    rcases (by omega : k = 0 ∨ k = 1 ∨ k = 2) with rfl | rfl | rfl

    · obtain ⟨m1, m2⟩ := szsq (p := u1) (by omega) (by omega)
      obtain ⟨m3, m4⟩ := szsq (p := u2) (by omega) (by omega)
      have s1 := sz_nonneg u1
      have s2 := sz_nonneg u2
      have s3 := sz_le (n := u1) (b := 2000000) (by omega) (by omega)
      have s4 := sz_le (n := u2) (b := 2000000) (by omega) (by omega)
      obtain ⟨-, e1, e2⟩ := HF.new wr 38 u1 u2
      rcases (by omega : (sz u1 < sz u2 ∧ ¬ sz u2 < sz u1) ∨ (¬ sz u1 < sz u2 ∧ sz u2 < sz u1) ∨ (¬ sz u1 < sz u2 ∧ ¬ sz u2 < sz u1)) with ⟨c1, c2⟩ | ⟨c1, c2⟩ | ⟨c1, c2⟩
      all_goals
        obtain ⟨F, HF⟩ : ∃ F, Bx (farI u1 u2 = F) := ⟨_, ⟨rfl⟩⟩
        rcases (by omega : (u1 ≤ 0 ∧ 0 ≤ u2) ∨ (¬ u1 ≤ 0) ∨ (u1 ≤ 0 ∧ ¬ 0 ≤ u2)) with ⟨d1, d2⟩ | d1 | ⟨d1, d2⟩
      all_goals
        go_wp2_with (go_at_call 35; (with_reducible refine (within_any u1 (-2000000) u2 _).mono ?_); rw [HU.out]; rintro e wx ⟨rfl, rfl⟩)
        go_region_held3 (fun w' => w'.cell? ⟨wr.heap.size, 0, none⟩ = some (.int .i64 u1) ∧ w'.cell? ⟨wr.heap.size, 1, none⟩ = some (.int .i64 u2)) (first | (exact ⟨e1, e2⟩) | (refine ⟨?_, ?_⟩ <;> simp [go_sem, *]; done))
          (first
            | (go_at_call 63; (with_reducible refine (absB_any u1 _ (by omega) (by omega)).mono ?_); rintro e wx ⟨rfl, rfl⟩)
            | (go_at_call 63; (with_reducible refine (absB_any u2 _ (by omega) (by omega)).mono ?_); rintro e wx ⟨rfl, rfl⟩))
        go_wp2
        go_region_held3 (fun w' => w'.cell? ⟨wr.heap.size, 0, none⟩ = some (.int .i64 u1) ∧ w'.cell? ⟨wr.heap.size, 1, none⟩ = some (.int .i64 u2)) (first | (exact ⟨e1, e2⟩) | (refine ⟨?_, ?_⟩ <;> simp [go_sem, *]; done))
          (first
            | (go_at_call 63; (with_reducible refine (absB_any u1 _ (by omega) (by omega)).mono ?_); rintro e wx ⟨rfl, rfl⟩)
            | (go_at_call 63; (with_reducible refine (absB_any u2 _ (by omega) (by omega)).mono ?_); rintro e wx ⟨rfl, rfl⟩))
        go_wp2
        go_roundw
        case rel => exact ⟨1, _, _, by omega, by omega, rfl, rfl, rfl, ⟨ES.out.one (by unfold nearI; rw [sz_natAbs, sz_natAbs]; first | (rw [if_pos ⟨d1, d2⟩]; omega) | (rw [if_neg (by omega)]; congr 2 <;> omega)) (by unfold farI; rw [sz_natAbs, sz_natAbs]; congr 2 <;> omega)⟩, by omega, by omega, by omega, by omega, ⟨KP.alloc KK.out _⟩, ⟨by repeat (first | exact MM.out | refine Below.drew ?_ | refine Below.drewN' ?_ _ | refine Below.alloc ?_ MM.out.size _)⟩⟩
        case measure => simp [intOf]
    · obtain ⟨m1, m2⟩ := szsq (p := v1) (by omega) (by omega)
      obtain ⟨m3, m4⟩ := szsq (p := v2) (by omega) (by omega)
      have s1 := sz_nonneg v1
      have s2 := sz_nonneg v2
      have s3 := sz_le (n := v1) (b := 2000000) (by omega) (by omega)
      have s4 := sz_le (n := v2) (b := 2000000) (by omega) (by omega)
      obtain ⟨-, e1, e2⟩ := HF.new wr 38 v1 v2
      rcases (by omega : (sz v1 < sz v2 ∧ ¬ sz v2 < sz v1) ∨ (¬ sz v1 < sz v2 ∧ sz v2 < sz v1) ∨ (¬ sz v1 < sz v2 ∧ ¬ sz v2 < sz v1)) with ⟨c1, c2⟩ | ⟨c1, c2⟩ | ⟨c1, c2⟩
      all_goals
        obtain ⟨F, HF⟩ : ∃ F, Bx (farI v1 v2 = F) := ⟨_, ⟨rfl⟩⟩
        rcases (by omega : (v1 ≤ 0 ∧ 0 ≤ v2) ∨ (¬ v1 ≤ 0) ∨ (v1 ≤ 0 ∧ ¬ 0 ≤ v2)) with ⟨d1, d2⟩ | d1 | ⟨d1, d2⟩
      all_goals
        go_wp2_with (go_at_call 35; (with_reducible refine (within_any v1 (-2000000) v2 _).mono ?_); rw [HV.out]; rintro e wx ⟨rfl, rfl⟩)
        go_region_held3 (fun w' => w'.cell? ⟨wr.heap.size, 0, none⟩ = some (.int .i64 v1) ∧ w'.cell? ⟨wr.heap.size, 1, none⟩ = some (.int .i64 v2)) (first | (exact ⟨e1, e2⟩) | (refine ⟨?_, ?_⟩ <;> simp [go_sem, *]; done))
          (first
            | (go_at_call 63; (with_reducible refine (absB_any v1 _ (by omega) (by omega)).mono ?_); rintro e wx ⟨rfl, rfl⟩)
            | (go_at_call 63; (with_reducible refine (absB_any v2 _ (by omega) (by omega)).mono ?_); rintro e wx ⟨rfl, rfl⟩))
        go_wp2
        go_region_held3 (fun w' => w'.cell? ⟨wr.heap.size, 0, none⟩ = some (.int .i64 v1) ∧ w'.cell? ⟨wr.heap.size, 1, none⟩ = some (.int .i64 v2)) (first | (exact ⟨e1, e2⟩) | (refine ⟨?_, ?_⟩ <;> simp [go_sem, *]; done))
          (first
            | (go_at_call 63; (with_reducible refine (absB_any v1 _ (by omega) (by omega)).mono ?_); rintro e wx ⟨rfl, rfl⟩)
            | (go_at_call 63; (with_reducible refine (absB_any v2 _ (by omega) (by omega)).mono ?_); rintro e wx ⟨rfl, rfl⟩))
        go_wp2
        go_roundw
        case rel => exact ⟨2, _, _, by omega, by omega, rfl, rfl, rfl, ⟨ES.out.two (by unfold nearI; rw [sz_natAbs, sz_natAbs]; first | (rw [if_pos ⟨d1, d2⟩]; omega) | (rw [if_neg (by omega)]; congr 2 <;> omega)) (by unfold farI; rw [sz_natAbs, sz_natAbs]; congr 2 <;> omega)⟩, by omega, by omega, by omega, by omega, ⟨KP.alloc KK.out _⟩, ⟨by repeat (first | exact MM.out | refine Below.drew ?_ | refine Below.drewN' ?_ _ | refine Below.alloc ?_ MM.out.size _)⟩⟩
        case measure => simp [intOf]
    · obtain ⟨e1, e2⟩ := ES.out.s2 rfl
      rw [← e1] at Q1
      rw [← e2] at Q2
      have Q1' := Q1.out
      have Q2' := Q2.out
      have E1 := Bx.mk e1
      clear e1 e2
      obtain ⟨⟨z1, k1, k2⟩, ⟨z3, k3, k4⟩, _⟩ := KK.out
      go_wp2
      go_ret
      exact ⟨rfl, by first | exact MM.out | exact MM.out.drew | exact below_drewN MM.out _⟩

theorem numberCircle_any (HAW : Awake) (a t : Int) (w : World) (ha : I64 a) (ht : I64 t) :
    Calls Try.prog 10 #[.int .i64 a, .int .i64 t] w fun e w' => e = .returned (.bool true) ∧ Below w.heap.size w w' := by
  by_cases ca : -1000000000 ≤ a ∧ a ≤ 998704000
  · by_cases ct : 1 ≤ t ∧ t ≤ 1000000
    · obtain ⟨a1, a2⟩ := ca
      obtain ⟨t1, t2⟩ := ct
      have hr : ¬ (1000000000 < sz a ∨ t < 1 ∨ 1000000 < t) := by unfold sz; omega
      have ia : I64 (324000 - a) := by unfold I64; omega
      have es : sinN a t = ((slN (arN a).1 t).1, (slN (arN a).1 t).2, 0) := by unfold sinN; rw [if_neg hr]
      have ec : cosN a t = ((slN (arN a).2 t).1, (slN (arN a).2 t).2, 0) := by unfold cosN; rw [if_neg hr]
      by_cases hb : 324000 - a ≤ 1000000000
      · have hr2 : ¬ (1000000000 < sz (324000 - a) ∨ t < 1 ∨ 1000000 < t) := by unfold sz; omega
        have et : sinN (324000 - a) t = ((slN (arN (324000 - a)).1 t).1, (slN (arN (324000 - a)).1 t).2, 0) := by unfold sinN; rw [if_neg hr2]
        obtain ⟨k1, k2⟩ := sine_near a
        obtain ⟨b1, b2, b3, b4⟩ := ar_le a
        have H1 := hold_of b1 b2 k1 t1 t2
        have H2 := hold_of b3 b4 k2 t1 t2
        obtain ⟨c1, c2⟩ := circle a t t1 t2
        obtain ⟨n1, n2⟩ := left_near a
        have x1 := slN_meet (v := (arN (324000 - a)).1) (v' := (arN a).2) t1 (by omega)
        have x2 := slN_meet (v := (arN a).2) (v' := (arN (324000 - a)).1) t1 (by omega)
        exact circle_G HAW a t _ _ _ _ _ _ w ha ia ht a1 a2 ⟨wtB_true a1 a2⟩ ⟨wtB_true t1 t2⟩ ⟨es⟩ ⟨ec⟩ ⟨et⟩ t1 t2 ⟨⟨H1.b1, H1.b2, H1.b3⟩⟩ ⟨⟨H2.b1, H2.b2, H2.b3⟩⟩ ⟨wtB_true H1.b1 H1.b2⟩ ⟨wtB_true H2.b1 H2.b2⟩ ⟨c1⟩ ⟨c2⟩ x1 x2
      · have hr2 : (1000000000 < sz (324000 - a) ∨ t < 1 ∨ 1000000 < t) := by unfold sz; omega
        exact circle_E HAW a t _ _ _ _ w ha ia ht a1 a2 ⟨wtB_true a1 a2⟩ ⟨wtB_true t1 t2⟩ ⟨es⟩ ⟨ec⟩ ⟨by unfold sinN; rw [if_pos hr2]⟩ ⟨wtB_true (by omega) (by omega)⟩
    · exact circle_B HAW a t w ⟨wtB_true ca.1 ca.2⟩ ⟨wtB_false ct⟩
  · exact circle_A HAW a t w ⟨wtB_false ca⟩ ⟨rfl⟩

end Go.Proofs.Ytlkfkekglmjhhaa
/- Walks: the law of sines. -/
import Derived.Test.YtlkfkekglmjhhaaT1
import Derived.Test.YtlkfkekglmjhhaaAw
import Derived.Deep.RegionHeld3
set_option linter.unusedVariables false
set_option linter.unusedSimpArgs false
namespace Go.Proofs.Ytlkfkekglmjhhaa
open Go.RowKit

theorem below_any {X Y Z : World} (h : Below X.heap.size X Y) (k : Below Y.heap.size Y Z) : Below X.heap.size X Z := h.trans (k.mono h.size)

set_option maxRecDepth 100000 in
set_option maxHeartbeats 4000000 in
theorem sines_A (HAW : Awake) (a t : Int) (w : World) (ha : I64 a) (ht : I64 t)
    (RS : Bx (sinN a t = (0, 0, 2))) (RC : Bx (cosN a t = (0, 0, 2))) (HA : Bx (wtB a (-1000000000) 1000000000 = false)) (HT : Bx (wtB t 1 1000000 = wtB t 1 1000000)) :
    Calls Try.prog 8 #[.int .i64 a, .int .i64 t] w fun e w' => e = .returned (.bool true) ∧ Below w.heap.size w w' := by
  go_enter Try.func8, Try.ntmps8
  go_wp2_with (go_at_call 20; refine (HAW _).mono ?_; rintro e w0 ⟨rfl, B0⟩; have M0 : Below w.heap.size w w0 := B0; have L0 := Bx.mk (KP.nil w0))
  go_wp2_with (go_at_call 56; (with_reducible refine (sine_any a t _ ha ht).mono ?_); rw [RS.out]; rintro e w1 ⟨rfl, B1⟩; have L1 := Bx.mk (KP.below B1 L0.out); have M1 := below_call0 M0 B1)
  go_wp2_with (go_at_call 57; (with_reducible refine (cosine_any a t _ ha ht).mono ?_); rw [RC.out]; rintro e w2 ⟨rfl, B2⟩; have L2 := Bx.mk (KP.below B2 (KP.push L1.out 38 (0) (0))); have M2 := below_call M1 B2; have N2 := Bx.mk (KP.push L2.out 38 (0) (0)); obtain ⟨⟨x2_2, s2_2, t2_2⟩, ⟨x2_1, s2_1, t2_1⟩, _⟩ := N2.out)
  go_wp2_with (first
    | (go_at_call 35; (with_reducible refine (within_any a (-1000000000) 1000000000 _).mono ?_); rw [HA.out]; rintro e wx ⟨rfl, rfl⟩)
    | (go_at_call 35; (with_reducible refine (within_any t 1 1000000 _).mono ?_); rw [HT.out]; rintro e wx ⟨rfl, rfl⟩))
  go_ret
  exact ⟨rfl, by first | exact M2.alloc M2.size _ | exact (M2.alloc M2.size _).drew⟩

set_option maxRecDepth 100000 in
set_option maxHeartbeats 4000000 in
theorem sines_B (HAW : Awake) (a t : Int) (w : World) (ha : I64 a) (ht : I64 t)
    (RS : Bx (sinN a t = (0, 0, 2))) (RC : Bx (cosN a t = (0, 0, 2))) (HA : Bx (wtB a (-1000000000) 1000000000 = true)) (HT : Bx (wtB t 1 1000000 = false)) :
    Calls Try.prog 8 #[.int .i64 a, .int .i64 t] w fun e w' => e = .returned (.bool true) ∧ Below w.heap.size w w' := by
  go_enter Try.func8, Try.ntmps8
  go_wp2_with (go_at_call 20; refine (HAW _).mono ?_; rintro e w0 ⟨rfl, B0⟩; have M0 : Below w.heap.size w w0 := B0; have L0 := Bx.mk (KP.nil w0))
  go_wp2_with (go_at_call 56; (with_reducible refine (sine_any a t _ ha ht).mono ?_); rw [RS.out]; rintro e w1 ⟨rfl, B1⟩; have L1 := Bx.mk (KP.below B1 L0.out); have M1 := below_call0 M0 B1)
  go_wp2_with (go_at_call 57; (with_reducible refine (cosine_any a t _ ha ht).mono ?_); rw [RC.out]; rintro e w2 ⟨rfl, B2⟩; have L2 := Bx.mk (KP.below B2 (KP.push L1.out 38 (0) (0))); have M2 := below_call M1 B2; have N2 := Bx.mk (KP.push L2.out 38 (0) (0)); obtain ⟨⟨x2_2, s2_2, t2_2⟩, ⟨x2_1, s2_1, t2_1⟩, _⟩ := N2.out)
  go_wp2_with (first
    | (go_at_call 35; (with_reducible refine (within_any a (-1000000000) 1000000000 _).mono ?_); rw [HA.out]; rintro e wx ⟨rfl, rfl⟩)
    | (go_at_call 35; (with_reducible refine (within_any t 1 1000000 _).mono ?_); rw [HT.out]; rintro e wx ⟨rfl, rfl⟩))
  go_ret
  exact ⟨rfl, by first | exact M2.alloc M2.size _ | exact (M2.alloc M2.size _).drew⟩

set_option maxRecDepth 100000 in
set_option maxHeartbeats 4000000 in
theorem sines_G (HAW : Awake) (a t u1 u2 v1 v2 n1 n2 : Int) (w : World) (ha : I64 a) (ht : I64 t)
    (RS : Bx (sinN a t = (u1, u2, 0))) (RC : Bx (cosN a t = (v1, v2, 0))) (HA : Bx (wtB a (-1000000000) 1000000000 = true)) (HT : Bx (wtB t 1 1000000 = true)) (a1 : -1000000000 ≤ a) (a2 : a ≤ 1000000000) (t1 : 1 ≤ t) (t2 : t ≤ 1000000) (NS : Bx (sinR a = n1)) (NC : Bx (sinR (a + 324000) = n2)) (H1 : Bx (Hold u1 u2 n1 t)) (H2 : Bx (Hold v1 v2 n2 t)) (b1 : -2000000000 ≤ n1) (b2 : n1 ≤ 2000000000) (b3 : -2000000000 ≤ n2) (b4 : n2 ≤ 2000000000) :
    Calls Try.prog 8 #[.int .i64 a, .int .i64 t] w fun e w' => e = .returned (.bool true) ∧ Below w.heap.size w w' := by
  go_enter Try.func8, Try.ntmps8
  go_wp2_with (go_at_call 20; refine (HAW _).mono ?_; rintro e w0 ⟨rfl, B0⟩; have M0 : Below w.heap.size w w0 := B0; have L0 := Bx.mk (KP.nil w0))
  go_wp2_with (go_at_call 56; (with_reducible refine (sine_any a t _ ha ht).mono ?_); rw [RS.out]; rintro e w1 ⟨rfl, B1⟩; have L1 := Bx.mk (KP.below B1 L0.out); have M1 := below_call0 M0 B1)
  go_wp2_with (go_at_call 57; (with_reducible refine (cosine_any a t _ ha ht).mono ?_); rw [RC.out]; rintro e w2 ⟨rfl, B2⟩; have L2 := Bx.mk (KP.below B2 (KP.push L1.out 38 (u1) (u2))); have M2 := below_call M1 B2; have N2 := Bx.mk (KP.push L2.out 38 (v1) (v2)); obtain ⟨⟨x2_2, s2_2, t2_2⟩, ⟨x2_1, s2_1, t2_1⟩, _⟩ := N2.out)
  go_wp2_with (first
    | (go_at_call 35; (with_reducible refine (within_any a (-1000000000) 1000000000 _).mono ?_); rw [HA.out]; rintro e wx ⟨rfl, rfl⟩)
    | (go_at_call 35; (with_reducible refine (within_any t 1 1000000 _).mono ?_); rw [HT.out]; rintro e wx ⟨rfl, rfl⟩))
  have hz1 : ((0 : Int) == 0) = true := rfl
  first
  | go_region_held3 (fun w' => w'.cell? ⟨w1.heap.size, 0, none⟩ = some (.int .i64 u1) ∧ w'.cell? ⟨w1.heap.size, 1, none⟩ = some (.int .i64 u2) ∧ w'.cell? ⟨w2.heap.size, 0, none⟩ = some (.int .i64 v1) ∧ w'.cell? ⟨w2.heap.size, 1, none⟩ = some (.int .i64 v2))
      (first | (exact ⟨s2_1, t2_1, s2_2, t2_2⟩) | (exact ⟨s3_1, t3_1, s3_2, t3_2⟩) | (exact ⟨s4_1, t4_1, s4_2, t4_2⟩))
      (first
        | (go_at_call 59; (with_reducible refine (sineR_any a _ (by omega) (by omega)).mono ?_); rw [NS.out]; rintro e wx ⟨rfl, kk, rfl⟩)
        | (go_at_call 60; (with_reducible refine (cosineR_any a _ (by omega) (by omega)).mono ?_); rw [NC.out]; rintro e wx ⟨rfl, kk, rfl⟩)
        | (go_at_call 58; (with_reducible refine (holds_any u1 u2 n1 t _ H1 b1 b2 t1 t2).mono ?_); rintro e w3 ⟨rfl, B3⟩; replace B3 : Below (w2.alloc (.cells #[.int .i64 (v1), .int .i64 (v2)] 38)).heap.size (w2.alloc (.cells #[.int .i64 (v1), .int .i64 (v2)] 38)) w3 := (by first | exact B3 | exact below_any (below_drewN (Below.refl _ _) _) B3 | exact below_any (below_drewN (below_drewN (Below.refl _ _) _) _) B3 | exact below_any (below_drewN (Below.refl _ _).drew _) B3 | exact below_any (Below.refl _ _).drew B3); have L3 := Bx.mk (KP.below B3 N2.out); have M3 := below_call M2 B3; obtain ⟨⟨x3_2, s3_2, t3_2⟩, ⟨x3_1, s3_1, t3_1⟩, _⟩ := L3.out)
        | (go_at_call 58; (with_reducible refine (holds_any v1 v2 n2 t _ H2 b3 b4 t1 t2).mono ?_); rintro e w4 ⟨rfl, B4⟩; replace B4 : Below w3.heap.size w3 w4 := (by first | exact B4 | exact below_any (below_drewN (Below.refl _ _) _) B4 | exact below_any (below_drewN (below_drewN (Below.refl _ _) _) _) B4 | exact below_any (below_drewN (Below.refl _ _).drew _) B4 | exact below_any (Below.refl _ _).drew B4); have L4 := Bx.mk (KP.below B4 L3.out); have M4 := below_call0 M3 B4; obtain ⟨⟨x4_2, s4_2, t4_2⟩, ⟨x4_1, s4_1, t4_1⟩, _⟩ := L4.out))
  | fail
  go_wp2
  go_ret
  exact ⟨rfl, by first | exact M4 | exact M4.drew | exact below_drewN M4 _⟩

theorem wtB_true {n lo hi : Int} (h1 : lo ≤ n) (h2 : n ≤ hi) : wtB n lo hi = true := by unfold wtB; rw [decide_eq_true h1, decide_eq_true h2]; rfl
theorem wtB_false {n lo hi : Int} (h : ¬ (lo ≤ n ∧ n ≤ hi)) : wtB n lo hi = false := by
  unfold wtB
  by_cases c : lo ≤ n
  · have : ¬ n ≤ hi := fun h' => h ⟨c, h'⟩
    simp [this]
  · simp [c]
theorem numberSines_any (HAW : Awake) (a t : Int) (w : World) (ha : I64 a) (ht : I64 t) :
    Calls Try.prog 8 #[.int .i64 a, .int .i64 t] w fun e w' => e = .returned (.bool true) ∧ Below w.heap.size w w' := by
  by_cases ca : -1000000000 ≤ a ∧ a ≤ 1000000000
  · by_cases ct : 1 ≤ t ∧ t ≤ 1000000
    · have hr : ¬ (1000000000 < sz a ∨ t < 1 ∨ 1000000 < t) := by unfold sz; omega
      obtain ⟨k1, k2⟩ := sine_near a
      obtain ⟨b1, b2, b3, b4⟩ := ar_le a
      exact sines_G HAW a t _ _ _ _ _ _ w ha ht ⟨by unfold sinN; rw [if_neg hr]⟩ ⟨by unfold cosN; rw [if_neg hr]⟩ ⟨wtB_true ca.1 ca.2⟩ ⟨wtB_true ct.1 ct.2⟩ ca.1 ca.2 ct.1 ct.2 ⟨rfl⟩ ⟨rfl⟩
        ⟨hold_of b1 b2 k1 ct.1 ct.2⟩ ⟨hold_of b3 b4 k2 ct.1 ct.2⟩ (by unfold By at k1; omega) (by unfold By at k1; omega) (by unfold By at k2; omega) (by unfold By at k2; omega)
    · have hr : (1000000000 < sz a ∨ t < 1 ∨ 1000000 < t) := by omega
      exact sines_B HAW a t w ha ht ⟨by unfold sinN; rw [if_pos hr]⟩ ⟨by unfold cosN; rw [if_pos hr]⟩ ⟨wtB_true ca.1 ca.2⟩ ⟨wtB_false ct⟩
  · have hr : (1000000000 < sz a ∨ t < 1 ∨ 1000000 < t) := by unfold sz; omega
    exact sines_A HAW a t w ha ht ⟨by unfold sinN; rw [if_pos hr]⟩ ⟨by unfold cosN; rw [if_pos hr]⟩ ⟨wtB_false ca⟩ ⟨rfl⟩

end Go.Proofs.Ytlkfkekglmjhhaa
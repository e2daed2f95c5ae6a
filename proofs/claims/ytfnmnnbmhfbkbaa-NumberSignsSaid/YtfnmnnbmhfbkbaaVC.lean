/- Walks: the law of the signs of polynomials. -/
import Derived.Test.YtfnmnnbmhfbkbaaVE
import Derived.Test.YtfnmnnbmhfbkbaaP5
import Derived.Test.YtfnmnnbmhfbkbaaP6
import Derived.Test.YtfnmnnbmhfbkbaaFL
import Derived.Deep.RegionHeld3
set_option linter.unusedVariables false
set_option linter.unusedSimpArgs false
namespace Go.Proofs.Ytfnmnnbmhfbkbaa
open Go.RowKit

theorem below_da' {w w2 : World} {k : Nat} {o : Obj} (B : Below ((w.drewN k).alloc o).heap.size ((w.drewN k).alloc o) w2) : Below w.heap.size w w2 :=
  below_call0 (below_drewN (Below.refl _ _) k) ((below_alloc1 (w.drewN k) o).trans (B.mono (below_alloc1 (w.drewN k) o).size))

set_option maxRecDepth 100000 in
set_option maxHeartbeats 4000000 in
theorem signs_long (HAW : Awake) (A : Option Addr) (n c : Nat) (a b : Int) (w : World) (hn : n ≤ 9223372036854775807) (h : 10 < n) :
    Calls Try.prog 13 #[.slice A n c, .agg #[.int .i64 a, .int .i64 b]] w fun e w' => e = .returned (.bool true) ∧ Below w.heap.size w w' := by
  have h' : (10 : Int) < n := by omega
  go_enter Try.func13, Try.ntmps13
  go_wp2_with (go_at_call 20; refine (HAW _).mono ?_; rintro e w0 ⟨rfl, B0⟩; have M0 := below_call (Below.refl w.heap.size w) B0)
  go_ret
  exact ⟨rfl, M0⟩

set_option maxRecDepth 100000 in
set_option maxHeartbeats 8000000 in
theorem signs_badP (HAW : Awake) (A : Option Addr) (n c : Nat) (p : Row) (a b E : Int) (w : World) (HA : Bx (IS w A n p)) (HAS : Bx (SV A n c)) (hn : n ≤ 10) (ha : I64 a) (hb : I64 b)
    (HE : Bx (ckP n p = E)) (SP : Bx (sigN n p a b = (0, E))) (h0 : (E == 0) = false) (h1 : (E != 0) = true) :
    Calls Try.prog 13 #[.slice A n c, .agg #[.int .i64 a, .int .i64 b]] w fun e w' => e = .returned (.bool true) ∧ Below w.heap.size w w' := by
  have hn' : ¬ (10 : Int) < n := by omega
  go_enter Try.func13, Try.ntmps13
  go_wp2_with (go_at_call 20; refine (HAW _).mono ?_; rintro e w0 ⟨rfl, B0⟩; have M0 := below_call (Below.refl w.heap.size w) B0; have A0 := Bx.mk ((HA.out.below (Nat.le_refl _) (below_alloc1 _ _)).below (Nat.le_refl _) B0); have X0 := Bx.mk ((HF.new w 23 a b).below B0); obtain ⟨zx0, px0, qx0⟩ := X0.out)
  go_region_held3 (fun w' => w'.cell? ⟨w.heap.size, 0, none⟩ = some (.int .i64 a) ∧ w'.cell? ⟨w.heap.size, 1, none⟩ = some (.int .i64 b))
    (first | (exact ⟨px0, qx0⟩) | (exact ⟨px1, qx1⟩) | (exact ⟨px2, qx2⟩))
    (first
      | (go_at_call 65; refine (copyInts_any A n c p _ (A0.out.below (Nat.le_refl _) (Below.refl _ _).drew) HAS.out (by omega)).mono ?_; rintro e w1 ⟨gC, cC, rfl, _, _, _, I1, B1⟩; replace B1 : Below w0.heap.size w0 w1 := (by first | exact B1 | exact (Below.refl _ _).drew.trans B1 | exact (below_drewN (Below.refl _ _) _).trans B1); have M1 := below_call0 M0 B1; have A1 := Bx.mk (A0.out.below (Nat.le_refl _) B1); have X1 := Bx.mk (X0.out.below B1); clear px0 qx0; obtain ⟨zx1, px1, qx1⟩ := X1.out; have C1 := Bx.mk I1; clear I1)
      | (go_at_call 72; refine (signAtP_any _ n cC p a b _ (by first | exact C1.out | exact C1.out.below (Nat.le_refl _) (Below.refl _ _).drew) (by omega) ha hb).mono ?_; rw [SP.out]; rintro e w2 ⟨rfl, B2⟩; replace B2 : Below w1.heap.size w1 w2 := (by first | exact B2 | exact (Below.refl _ _).drew.trans B2 | exact (below_drewN (Below.refl _ _) _).trans B2); have M2 := below_call0 M1 B2; have A2 := Bx.mk (A1.out.below (Nat.le_refl _) B2); have X2 := Bx.mk (X1.out.below B2); clear px1 qx1; obtain ⟨zx2, px2, qx2⟩ := X2.out))
  go_wp2_with (go_at_call 66; (with_reducible refine (checkPolyR_any A n c p _ A2.out (by omega)).mono ?_); rw [HE.out]; rintro e wp ⟨rfl, rfl⟩)
  go_ret
  exact ⟨rfl, by first | exact M2 | exact M2.drew | exact below_drewN M2 _⟩

set_option maxRecDepth 100000 in
set_option maxHeartbeats 8000000 in
theorem signs_badF (HAW : Awake) (A : Option Addr) (n c : Nat) (p : Row) (a b E : Int) (w : World) (HA : Bx (IS w A n p)) (HAS : Bx (SV A n c)) (hn : n ≤ 10) (ha : I64 a) (hb : I64 b)
    (HZ : Bx (ckP n p = 0)) (HE : Bx (ckFs [(a, b)] = E)) (SP : Bx (sigN n p a b = (0, E))) (h1 : (E != 0) = true) :
    Calls Try.prog 13 #[.slice A n c, .agg #[.int .i64 a, .int .i64 b]] w fun e w' => e = .returned (.bool true) ∧ Below w.heap.size w w' := by
  have hn' : ¬ (10 : Int) < n := by omega
  go_enter Try.func13, Try.ntmps13
  go_wp2_with (go_at_call 20; refine (HAW _).mono ?_; rintro e w0 ⟨rfl, B0⟩; have M0 := below_call (Below.refl w.heap.size w) B0; have A0 := Bx.mk ((HA.out.below (Nat.le_refl _) (below_alloc1 _ _)).below (Nat.le_refl _) B0); have X0 := Bx.mk ((HF.new w 23 a b).below B0); obtain ⟨zx0, px0, qx0⟩ := X0.out)
  go_region_held3 (fun w' => w'.cell? ⟨w.heap.size, 0, none⟩ = some (.int .i64 a) ∧ w'.cell? ⟨w.heap.size, 1, none⟩ = some (.int .i64 b))
    (first | (exact ⟨px0, qx0⟩) | (exact ⟨px1, qx1⟩) | (exact ⟨px2, qx2⟩))
    (first
      | (go_at_call 65; refine (copyInts_any A n c p _ (A0.out.below (Nat.le_refl _) (Below.refl _ _).drew) HAS.out (by omega)).mono ?_; rintro e w1 ⟨gC, cC, rfl, _, _, _, I1, B1⟩; replace B1 : Below w0.heap.size w0 w1 := (by first | exact B1 | exact (Below.refl _ _).drew.trans B1 | exact (below_drewN (Below.refl _ _) _).trans B1); have M1 := below_call0 M0 B1; have A1 := Bx.mk (A0.out.below (Nat.le_refl _) B1); have X1 := Bx.mk (X0.out.below B1); clear px0 qx0; obtain ⟨zx1, px1, qx1⟩ := X1.out; have C1 := Bx.mk I1; clear I1)
      | (go_at_call 72; refine (signAtP_any _ n cC p a b _ (by first | exact C1.out | exact C1.out.below (Nat.le_refl _) (Below.refl _ _).drew) (by omega) ha hb).mono ?_; rw [SP.out]; rintro e w2 ⟨rfl, B2⟩; replace B2 : Below w1.heap.size w1 w2 := (by first | exact B2 | exact (Below.refl _ _).drew.trans B2 | exact (below_drewN (Below.refl _ _) _).trans B2); have M2 := below_call0 M1 B2; have A2 := Bx.mk (A1.out.below (Nat.le_refl _) B2); have X2 := Bx.mk (X1.out.below B2); clear px1 qx1; obtain ⟨zx2, px2, qx2⟩ := X2.out))
  go_wp2_with (go_at_call 66; (with_reducible refine (checkPolyR_any A n c p _ A2.out (by omega)).mono ?_); rw [HZ.out]; rintro e wp ⟨rfl, rfl⟩)
  go_wp2_with (go_at_call 28; (with_reducible refine (fracsL1 a b _ _ (by simp) ha hb (by simp [go_sem, World.cell?_alloc_past]) (by simp [go_sem, World.cell?_alloc_past])).mono ?_); rw [HE.out]; rintro e w3 ⟨rfl, B3⟩; have M3 := below_call M2 B3; have A3 := Bx.mk ((A2.out.below (Nat.le_refl _) (below_alloc1 _ _)).below (Nat.le_refl _) B3); have X3 := Bx.mk ((X2.out.alloc _).below B3); clear px2 qx2; obtain ⟨zx3, px3, qx3⟩ := X3.out)
  go_ret
  exact ⟨rfl, by first | exact M3 | exact M3.drew | exact below_drewN M3 _⟩

set_option maxRecDepth 100000 in
set_option maxHeartbeats 8000000 in
theorem signs_ok (HAW : Awake) (A : Option Addr) (n c : Nat) (p : Row) (a b s : Int) (w : World) (HA : Bx (IS w A n p)) (HAS : Bx (SV A n c)) (hn : n ≤ 10) (ha : I64 a) (hb : I64 b)
    (HZ : Bx (ckP n p = 0)) (HY : Bx (ckFs [(a, b)] = 0)) (SP : Bx (sigN n p a b = (s, 0))) (SS : Bx (sgAt n p a b = s)) (n1 : 1 ≤ n) (n7 : n ≤ 7) :
    Calls Try.prog 13 #[.slice A n c, .agg #[.int .i64 a, .int .i64 b]] w fun e w' => e = .returned (.bool true) ∧ Below w.heap.size w w' := by
  have hn' : ¬ (10 : Int) < n := by omega
  go_enter Try.func13, Try.ntmps13
  go_wp2_with (go_at_call 20; refine (HAW _).mono ?_; rintro e w0 ⟨rfl, B0⟩; have M0 := below_call (Below.refl w.heap.size w) B0; have A0 := Bx.mk ((HA.out.below (Nat.le_refl _) (below_alloc1 _ _)).below (Nat.le_refl _) B0); have X0 := Bx.mk ((HF.new w 23 a b).below B0); obtain ⟨zx0, px0, qx0⟩ := X0.out)
  go_region_held3 (fun w' => w'.cell? ⟨w.heap.size, 0, none⟩ = some (.int .i64 a) ∧ w'.cell? ⟨w.heap.size, 1, none⟩ = some (.int .i64 b))
    (first | (exact ⟨px0, qx0⟩) | (exact ⟨px1, qx1⟩) | (exact ⟨px2, qx2⟩))
    (first
      | (go_at_call 65; refine (copyInts_any A n c p _ (A0.out.below (Nat.le_refl _) (Below.refl _ _).drew) HAS.out (by omega)).mono ?_; rintro e w1 ⟨gC, cC, rfl, _, _, _, I1, B1⟩; replace B1 : Below w0.heap.size w0 w1 := (by first | exact B1 | exact (Below.refl _ _).drew.trans B1 | exact (below_drewN (Below.refl _ _) _).trans B1); have M1 := below_call0 M0 B1; have A1 := Bx.mk (A0.out.below (Nat.le_refl _) B1); have X1 := Bx.mk (X0.out.below B1); clear px0 qx0; obtain ⟨zx1, px1, qx1⟩ := X1.out; have C1 := Bx.mk I1; clear I1)
      | (go_at_call 72; refine (signAtP_any _ n cC p a b _ (by first | exact C1.out | exact C1.out.below (Nat.le_refl _) (Below.refl _ _).drew) (by omega) ha hb).mono ?_; rw [SP.out]; rintro e w2 ⟨rfl, B2⟩; replace B2 : Below w1.heap.size w1 w2 := (by first | exact B2 | exact (Below.refl _ _).drew.trans B2 | exact (below_drewN (Below.refl _ _) _).trans B2); have M2 := below_call0 M1 B2; have A2 := Bx.mk (A1.out.below (Nat.le_refl _) B2); have X2 := Bx.mk (X1.out.below B2); clear px1 qx1; obtain ⟨zx2, px2, qx2⟩ := X2.out))
  go_wp2_with (go_at_call 66; (with_reducible refine (checkPolyR_any A n c p _ A2.out (by omega)).mono ?_); rw [HZ.out]; rintro e wp ⟨rfl, rfl⟩)
  go_wp2_with (go_at_call 28; (with_reducible refine (fracsL1 a b _ _ (by simp) ha hb (by simp [go_sem, World.cell?_alloc_past]) (by simp [go_sem, World.cell?_alloc_past])).mono ?_); rw [HY.out]; rintro e w3 ⟨rfl, B3⟩; have M3 := below_call M2 B3; have A3 := Bx.mk ((A2.out.below (Nat.le_refl _) (below_alloc1 _ _)).below (Nat.le_refl _) B3); have X3 := Bx.mk ((X2.out.alloc _).below B3); clear px2 qx2; obtain ⟨zx3, px3, qx3⟩ := X3.out)
  go_wp2_with (go_at_call 73; (with_reducible refine (signAtR_any A n c p a b _ A3.out HZ.out HY.out).mono ?_); rw [SS.out]; rintro e w4 ⟨rfl, B4⟩; have M4 := below_call0 M3 B4)
  go_ret
  exact ⟨rfl, by first | exact M4 | exact M4.drew | exact below_drewN M4 _⟩

theorem numberSigns_any (HAW : Awake) (A : Option Addr) (n c : Nat) (p : Row) (a b : Int) (w : World) (hA : IS w A n p) (sA : SV A n c) (ln : n ≤ 9223372036854775807) (ha : I64 a) (hb : I64 b) :
    Calls Try.prog 13 #[.slice A n c, .agg #[.int .i64 a, .int .i64 b]] w fun e w' => e = .returned (.bool true) ∧ Below w.heap.size w w' := by
  rcases Nat.lt_or_ge 10 n with h | h
  · exact signs_long HAW A n c a b w ln h
  · by_cases z1 : ckP n p = 0
    · obtain ⟨n1, n7, _⟩ := ckP_zeroB z1
      by_cases z4 : ckFs [(a, b)] = 0
      · have k4 := z4
        rw [ckFs_one] at k4
        exact signs_ok HAW A n c p a b (sgAt n p a b) w ⟨hA⟩ ⟨sA⟩ h ha hb ⟨z1⟩ ⟨z4⟩ ⟨by unfold sigN; rw [if_neg (by simpa using z1), if_neg (by simpa using k4)]⟩ ⟨rfl⟩ n1 n7
      · have k4 := z4
        rw [ckFs_one] at k4
        exact signs_badF HAW A n c p a b (ckFs [(a, b)]) w ⟨hA⟩ ⟨sA⟩ h ha hb ⟨z1⟩ ⟨rfl⟩ ⟨by unfold sigN; rw [if_neg (by simpa using z1), if_pos k4, ckFs_one]⟩ (by simpa using z4)
    · exact signs_badP HAW A n c p a b (ckP n p) w ⟨hA⟩ ⟨sA⟩ h ha hb ⟨rfl⟩ ⟨by unfold sigN; rw [if_pos z1]⟩ (by simpa using z1) (by simpa using z1)

end Go.Proofs.Ytfnmnnbmhfbkbaa

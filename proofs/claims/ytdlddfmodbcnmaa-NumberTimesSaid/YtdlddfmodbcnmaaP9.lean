/- Walks: the law of products of polynomials. -/
import Derived.Test.YtdlddfmodbcnmaaP5
import Derived.Test.YtdlddfmodbcnmaaP6
import Derived.Test.YtdlddfmodbcnmaaP8
import Derived.Test.YtdlddfmodbcnmaaPM
import Derived.Test.YtdlddfmodbcnmaaFL
import Derived.Deep.RegionHeld3
set_option linter.unusedVariables false
set_option linter.unusedSimpArgs false
namespace Go.Proofs.Ytdlddfmodbcnmaa
open Go.RowKit

theorem below_da {w w2 : World} {k : Nat} {o : Obj} (B : Below ((w.drewN k).alloc o).heap.size ((w.drewN k).alloc o) w2) : Below w.heap.size w w2 :=
  below_call0 (below_drewN (Below.refl _ _) k) ((below_alloc1 (w.drewN k) o).trans (B.mono (below_alloc1 (w.drewN k) o).size))
theorem SV_of_IS {w : World} {A : Option Addr} {n : Nat} {p : Row} (c : Nat) (h : IS w A n p) (hn : 0 < n) : SV A n c := fun e => by
  obtain ⟨b, off, h1, _⟩ := h.2 hn
  rw [e] at h1; cases h1

set_option maxRecDepth 100000 in
set_option maxHeartbeats 4000000 in
theorem times_long (HAW : Awake) (A B : Option Addr) (n m c d : Nat) (a b : Int) (w : World) (hn : n ≤ 9223372036854775807) (hm : m ≤ 9223372036854775807) (h : 10 < n ∨ 10 < m) :
    Calls Try.prog 12 #[.slice A n c, .slice B m d, .agg #[.int .i64 a, .int .i64 b]] w fun e w' => e = .returned (.bool true) ∧ Below w.heap.size w w' := by
  rcases Nat.lt_or_ge 10 n with h1 | h1
  · have h' : (10 : Int) < n := by omega
    go_enter Try.func12, Try.ntmps12
    go_wp2_with (go_at_call 20; refine (HAW _).mono ?_; rintro e w0 ⟨rfl, B0⟩; have M0 := below_call (Below.refl w.heap.size w) B0)
    go_ret
    exact ⟨rfl, M0⟩
  · have h' : ¬ (10 : Int) < n := by omega
    have h2 : (10 : Int) < m := by omega
    go_enter Try.func12, Try.ntmps12
    go_wp2_with (go_at_call 20; refine (HAW _).mono ?_; rintro e w0 ⟨rfl, B0⟩; have M0 := below_call (Below.refl w.heap.size w) B0)
    go_ret
    exact ⟨rfl, M0⟩

set_option maxRecDepth 100000 in
set_option maxHeartbeats 8000000 in
theorem times_badA (HAW : Awake) (A B : Option Addr) (n m c d : Nat) (p q : Row) (a b E : Int) (w : World) (HA : Bx (IS w A n p)) (HB : Bx (IS w B m q)) (HAS : Bx (SV A n c)) (HBS : Bx (SV B m d)) (hn : n ≤ 10) (hm : m ≤ 10) (ha : I64 a) (hb : I64 b)
    (HE : Bx (ckP n p = E)) (HT : Bx (timN n m p q = (0, E))) (h0 : (E == 0) = false) (h1 : (E != 0) = true) :
    Calls Try.prog 12 #[.slice A n c, .slice B m d, .agg #[.int .i64 a, .int .i64 b]] w fun e w' => e = .returned (.bool true) ∧ Below w.heap.size w w' := by
  have hn' : ¬ (10 : Int) < n := by omega
  have hm' : ¬ (10 : Int) < m := by omega
  go_enter Try.func12, Try.ntmps12
  go_wp2_with (go_at_call 20; refine (HAW _).mono ?_; rintro e w0 ⟨rfl, B0⟩; have M0 := below_call (Below.refl w.heap.size w) B0; have A0 := Bx.mk ((HA.out.below (Nat.le_refl _) (below_alloc1 _ _)).below (Nat.le_refl _) B0); have B_0 := Bx.mk ((HB.out.below (Nat.le_refl _) (below_alloc1 _ _)).below (Nat.le_refl _) B0); have X0 := Bx.mk ((HF.new w 23 a b).below B0); obtain ⟨zx0, px0, qx0⟩ := X0.out)
  go_wp2_with (go_at_call 65; (with_reducible refine (copyInts_any A n c p _ A0.out HAS.out (by omega)).mono ?_); rintro e w1 ⟨gC, cC, rfl, _, _, _, I1, B1⟩; have M1 := below_call0 M0 B1; have A1 := Bx.mk (A0.out.below (Nat.le_refl _) B1); have B_1 := Bx.mk (B_0.out.below (Nat.le_refl _) B1); have X1 := Bx.mk (X0.out.below B1); clear px0 qx0; obtain ⟨zx1, px1, qx1⟩ := X1.out; have C1 := Bx.mk I1; clear I1)
  go_wp2_with (go_at_call 65; (with_reducible refine (copyInts_any B m d q _ B_1.out HBS.out (by omega)).mono ?_); rintro e w2 ⟨gD, cD, rfl, _, _, _, I2, B2⟩; have M2 := below_call0 M1 B2; have A2 := Bx.mk (A1.out.below (Nat.le_refl _) B2); have B_2 := Bx.mk (B_1.out.below (Nat.le_refl _) B2); have C2 := Bx.mk (C1.out.below (Nat.le_refl _) B2); have X2 := Bx.mk (X1.out.below B2); clear px1 qx1; obtain ⟨zx2, px2, qx2⟩ := X2.out; have D2 := Bx.mk I2; clear I2)
  go_wp2_with (go_at_call 70; (with_reducible refine (pTimes_any _ _ n m cC cD p q _ C2.out D2.out (by omega) (by omega)).mono ?_); rw [HT.out]; rintro e w3 ⟨T, tc, rfl, I3, B3⟩; have M3 := below_call0 M2 B3; have A3 := Bx.mk (A2.out.below (Nat.le_refl _) B3); have B_3 := Bx.mk (B_2.out.below (Nat.le_refl _) B3); have C3 := Bx.mk (C2.out.below (Nat.le_refl _) B3); have D3 := Bx.mk (D2.out.below (Nat.le_refl _) B3); have X3 := Bx.mk (X2.out.below B3); clear px2 qx2; obtain ⟨zx3, px3, qx3⟩ := X3.out; have T_3 := Bx.mk I3; clear I3)
  go_wp2_with (go_at_call 66; (with_reducible refine (checkPolyR_any A n c p _ A3.out (by omega)).mono ?_); rw [HE.out]; rintro e wp ⟨rfl, rfl⟩)
  go_ret
  exact ⟨rfl, M3⟩

set_option maxRecDepth 100000 in
set_option maxHeartbeats 8000000 in
theorem times_badB (HAW : Awake) (A B : Option Addr) (n m c d : Nat) (p q : Row) (a b E : Int) (w : World) (HA : Bx (IS w A n p)) (HB : Bx (IS w B m q)) (HAS : Bx (SV A n c)) (HBS : Bx (SV B m d)) (hn : n ≤ 10) (hm : m ≤ 10) (ha : I64 a) (hb : I64 b)
    (HZ : Bx (ckP n p = 0)) (HE : Bx (ckP m q = E)) (HT : Bx (timN n m p q = (0, E))) (h1 : (E != 0) = true) :
    Calls Try.prog 12 #[.slice A n c, .slice B m d, .agg #[.int .i64 a, .int .i64 b]] w fun e w' => e = .returned (.bool true) ∧ Below w.heap.size w w' := by
  have hn' : ¬ (10 : Int) < n := by omega
  have hm' : ¬ (10 : Int) < m := by omega
  go_enter Try.func12, Try.ntmps12
  go_wp2_with (go_at_call 20; refine (HAW _).mono ?_; rintro e w0 ⟨rfl, B0⟩; have M0 := below_call (Below.refl w.heap.size w) B0; have A0 := Bx.mk ((HA.out.below (Nat.le_refl _) (below_alloc1 _ _)).below (Nat.le_refl _) B0); have B_0 := Bx.mk ((HB.out.below (Nat.le_refl _) (below_alloc1 _ _)).below (Nat.le_refl _) B0); have X0 := Bx.mk ((HF.new w 23 a b).below B0); obtain ⟨zx0, px0, qx0⟩ := X0.out)
  go_wp2_with (go_at_call 65; (with_reducible refine (copyInts_any A n c p _ A0.out HAS.out (by omega)).mono ?_); rintro e w1 ⟨gC, cC, rfl, _, _, _, I1, B1⟩; have M1 := below_call0 M0 B1; have A1 := Bx.mk (A0.out.below (Nat.le_refl _) B1); have B_1 := Bx.mk (B_0.out.below (Nat.le_refl _) B1); have X1 := Bx.mk (X0.out.below B1); clear px0 qx0; obtain ⟨zx1, px1, qx1⟩ := X1.out; have C1 := Bx.mk I1; clear I1)
  go_wp2_with (go_at_call 65; (with_reducible refine (copyInts_any B m d q _ B_1.out HBS.out (by omega)).mono ?_); rintro e w2 ⟨gD, cD, rfl, _, _, _, I2, B2⟩; have M2 := below_call0 M1 B2; have A2 := Bx.mk (A1.out.below (Nat.le_refl _) B2); have B_2 := Bx.mk (B_1.out.below (Nat.le_refl _) B2); have C2 := Bx.mk (C1.out.below (Nat.le_refl _) B2); have X2 := Bx.mk (X1.out.below B2); clear px1 qx1; obtain ⟨zx2, px2, qx2⟩ := X2.out; have D2 := Bx.mk I2; clear I2)
  go_wp2_with (go_at_call 70; (with_reducible refine (pTimes_any _ _ n m cC cD p q _ C2.out D2.out (by omega) (by omega)).mono ?_); rw [HT.out]; rintro e w3 ⟨T, tc, rfl, I3, B3⟩; have M3 := below_call0 M2 B3; have A3 := Bx.mk (A2.out.below (Nat.le_refl _) B3); have B_3 := Bx.mk (B_2.out.below (Nat.le_refl _) B3); have C3 := Bx.mk (C2.out.below (Nat.le_refl _) B3); have D3 := Bx.mk (D2.out.below (Nat.le_refl _) B3); have X3 := Bx.mk (X2.out.below B3); clear px2 qx2; obtain ⟨zx3, px3, qx3⟩ := X3.out; have T_3 := Bx.mk I3; clear I3)
  go_wp2_with (go_at_call 66; (with_reducible refine (checkPolyR_any A n c p _ A3.out (by omega)).mono ?_); rw [HZ.out]; rintro e wp ⟨rfl, rfl⟩)
  go_wp2_with (go_at_call 66; (with_reducible refine (checkPolyR_any B m d q _ B_3.out (by omega)).mono ?_); rw [HE.out]; rintro e wp ⟨rfl, rfl⟩)
  go_ret
  exact ⟨rfl, M3⟩

set_option maxRecDepth 100000 in
set_option maxHeartbeats 8000000 in
theorem times_E (HAW : Awake) (A B : Option Addr) (n m c d : Nat) (p q : Row) (t : Nat) (a b E : Int) (w : World) (HA : Bx (IS w A n p)) (HB : Bx (IS w B m q)) (HAS : Bx (SV A n c)) (HBS : Bx (SV B m d)) (hn : n ≤ 10) (hm : m ≤ 10) (ha : I64 a) (hb : I64 b)
    (HZ : Bx (ckP n p = 0)) (HY : Bx (ckP m q = 0)) (HT : Bx (timN n m p q = (t, E))) (HO : Bx (timO n m p q = (t, E))) (htt : t ≤ 20) (h1 : (E != 0) = true) :
    Calls Try.prog 12 #[.slice A n c, .slice B m d, .agg #[.int .i64 a, .int .i64 b]] w fun e w' => e = .returned (.bool true) ∧ Below w.heap.size w w' := by
  have hn' : ¬ (10 : Int) < n := by omega
  have hm' : ¬ (10 : Int) < m := by omega
  go_enter Try.func12, Try.ntmps12
  go_wp2_with (go_at_call 20; refine (HAW _).mono ?_; rintro e w0 ⟨rfl, B0⟩; have M0 := below_call (Below.refl w.heap.size w) B0; have A0 := Bx.mk ((HA.out.below (Nat.le_refl _) (below_alloc1 _ _)).below (Nat.le_refl _) B0); have B_0 := Bx.mk ((HB.out.below (Nat.le_refl _) (below_alloc1 _ _)).below (Nat.le_refl _) B0); have X0 := Bx.mk ((HF.new w 23 a b).below B0); obtain ⟨zx0, px0, qx0⟩ := X0.out)
  go_wp2_with (go_at_call 65; (with_reducible refine (copyInts_any A n c p _ A0.out HAS.out (by omega)).mono ?_); rintro e w1 ⟨gC, cC, rfl, _, _, _, I1, B1⟩; have M1 := below_call0 M0 B1; have A1 := Bx.mk (A0.out.below (Nat.le_refl _) B1); have B_1 := Bx.mk (B_0.out.below (Nat.le_refl _) B1); have X1 := Bx.mk (X0.out.below B1); clear px0 qx0; obtain ⟨zx1, px1, qx1⟩ := X1.out; have C1 := Bx.mk I1; clear I1)
  go_wp2_with (go_at_call 65; (with_reducible refine (copyInts_any B m d q _ B_1.out HBS.out (by omega)).mono ?_); rintro e w2 ⟨gD, cD, rfl, _, _, _, I2, B2⟩; have M2 := below_call0 M1 B2; have A2 := Bx.mk (A1.out.below (Nat.le_refl _) B2); have B_2 := Bx.mk (B_1.out.below (Nat.le_refl _) B2); have C2 := Bx.mk (C1.out.below (Nat.le_refl _) B2); have X2 := Bx.mk (X1.out.below B2); clear px1 qx1; obtain ⟨zx2, px2, qx2⟩ := X2.out; have D2 := Bx.mk I2; clear I2)
  go_wp2_with (go_at_call 70; (with_reducible refine (pTimes_any _ _ n m cC cD p q _ C2.out D2.out (by omega) (by omega)).mono ?_); rw [HT.out]; rintro e w3 ⟨T, tc, rfl, I3, B3⟩; have M3 := below_call0 M2 B3; have A3 := Bx.mk (A2.out.below (Nat.le_refl _) B3); have B_3 := Bx.mk (B_2.out.below (Nat.le_refl _) B3); have C3 := Bx.mk (C2.out.below (Nat.le_refl _) B3); have D3 := Bx.mk (D2.out.below (Nat.le_refl _) B3); have X3 := Bx.mk (X2.out.below B3); clear px2 qx2; obtain ⟨zx3, px3, qx3⟩ := X3.out; have T_3 := Bx.mk I3; clear I3)
  go_wp2_with (go_at_call 66; (with_reducible refine (checkPolyR_any A n c p _ A3.out (by omega)).mono ?_); rw [HZ.out]; rintro e wp ⟨rfl, rfl⟩)
  go_wp2_with (go_at_call 66; (with_reducible refine (checkPolyR_any B m d q _ B_3.out (by omega)).mono ?_); rw [HY.out]; rintro e wp ⟨rfl, rfl⟩)
  go_wp2_with (go_at_call 71; (with_reducible refine (timesR_any A B n m c d p q _ A3.out B_3.out HZ.out HY.out).mono ?_); rw [HO.out]; rintro e w4 ⟨R, rc, rfl, I4, B4⟩; have M4 := below_call0 M3 B4; have A4 := Bx.mk (A3.out.below (Nat.le_refl _) B4); have B_4 := Bx.mk (B_3.out.below (Nat.le_refl _) B4); have T_4 := Bx.mk (T_3.out.below (Nat.le_refl _) B4); have X4 := Bx.mk (X3.out.below B4); clear px3 qx3; obtain ⟨zx4, px4, qx4⟩ := X4.out; have R_4 := Bx.mk I4; clear I4)
  go_wp2_with (go_at_call 69; (with_reducible refine (ints_any T R t tc t rc (cv m p q n) (cv m p q n) _ T_4.out R_4.out (by omega) (by omega)).mono ?_); rw [eqL_self]; rintro e wi ⟨rfl, ki, rfl⟩)
  go_ret
  exact ⟨rfl, below_drewN M4 _⟩

set_option maxRecDepth 100000 in
set_option maxHeartbeats 8000000 in
theorem times_F (HAW : Awake) (A B : Option Addr) (n m c d : Nat) (p q : Row) (t : Nat) (a b K : Int) (w : World) (HA : Bx (IS w A n p)) (HB : Bx (IS w B m q)) (HAS : Bx (SV A n c)) (HBS : Bx (SV B m d)) (hn : n ≤ 10) (hm : m ≤ 10) (ha : I64 a) (hb : I64 b)
    (HZ : Bx (ckP n p = 0)) (HY : Bx (ckP m q = 0)) (HT : Bx (timN n m p q = (t, 0))) (HO : Bx (timO n m p q = (t, 0))) (htt : t ≤ 20) (HK : Bx (ckFs [(a, b)] = K)) (h1 : (K != 0) = true) :
    Calls Try.prog 12 #[.slice A n c, .slice B m d, .agg #[.int .i64 a, .int .i64 b]] w fun e w' => e = .returned (.bool true) ∧ Below w.heap.size w w' := by
  have hn' : ¬ (10 : Int) < n := by omega
  have hm' : ¬ (10 : Int) < m := by omega
  go_enter Try.func12, Try.ntmps12
  go_wp2_with (go_at_call 20; refine (HAW _).mono ?_; rintro e w0 ⟨rfl, B0⟩; have M0 := below_call (Below.refl w.heap.size w) B0; have A0 := Bx.mk ((HA.out.below (Nat.le_refl _) (below_alloc1 _ _)).below (Nat.le_refl _) B0); have B_0 := Bx.mk ((HB.out.below (Nat.le_refl _) (below_alloc1 _ _)).below (Nat.le_refl _) B0); have X0 := Bx.mk ((HF.new w 23 a b).below B0); obtain ⟨zx0, px0, qx0⟩ := X0.out)
  go_wp2_with (go_at_call 65; (with_reducible refine (copyInts_any A n c p _ A0.out HAS.out (by omega)).mono ?_); rintro e w1 ⟨gC, cC, rfl, _, _, _, I1, B1⟩; have M1 := below_call0 M0 B1; have A1 := Bx.mk (A0.out.below (Nat.le_refl _) B1); have B_1 := Bx.mk (B_0.out.below (Nat.le_refl _) B1); have X1 := Bx.mk (X0.out.below B1); clear px0 qx0; obtain ⟨zx1, px1, qx1⟩ := X1.out; have C1 := Bx.mk I1; clear I1)
  go_wp2_with (go_at_call 65; (with_reducible refine (copyInts_any B m d q _ B_1.out HBS.out (by omega)).mono ?_); rintro e w2 ⟨gD, cD, rfl, _, _, _, I2, B2⟩; have M2 := below_call0 M1 B2; have A2 := Bx.mk (A1.out.below (Nat.le_refl _) B2); have B_2 := Bx.mk (B_1.out.below (Nat.le_refl _) B2); have C2 := Bx.mk (C1.out.below (Nat.le_refl _) B2); have X2 := Bx.mk (X1.out.below B2); clear px1 qx1; obtain ⟨zx2, px2, qx2⟩ := X2.out; have D2 := Bx.mk I2; clear I2)
  go_wp2_with (go_at_call 70; (with_reducible refine (pTimes_any _ _ n m cC cD p q _ C2.out D2.out (by omega) (by omega)).mono ?_); rw [HT.out]; rintro e w3 ⟨T, tc, rfl, I3, B3⟩; have M3 := below_call0 M2 B3; have A3 := Bx.mk (A2.out.below (Nat.le_refl _) B3); have B_3 := Bx.mk (B_2.out.below (Nat.le_refl _) B3); have C3 := Bx.mk (C2.out.below (Nat.le_refl _) B3); have D3 := Bx.mk (D2.out.below (Nat.le_refl _) B3); have X3 := Bx.mk (X2.out.below B3); clear px2 qx2; obtain ⟨zx3, px3, qx3⟩ := X3.out; have T_3 := Bx.mk I3; clear I3)
  go_wp2_with (go_at_call 66; (with_reducible refine (checkPolyR_any A n c p _ A3.out (by omega)).mono ?_); rw [HZ.out]; rintro e wp ⟨rfl, rfl⟩)
  go_wp2_with (go_at_call 66; (with_reducible refine (checkPolyR_any B m d q _ B_3.out (by omega)).mono ?_); rw [HY.out]; rintro e wp ⟨rfl, rfl⟩)
  go_wp2_with (go_at_call 71; (with_reducible refine (timesR_any A B n m c d p q _ A3.out B_3.out HZ.out HY.out).mono ?_); rw [HO.out]; rintro e w4 ⟨R, rc, rfl, I4, B4⟩; have M4 := below_call0 M3 B4; have A4 := Bx.mk (A3.out.below (Nat.le_refl _) B4); have B_4 := Bx.mk (B_3.out.below (Nat.le_refl _) B4); have T_4 := Bx.mk (T_3.out.below (Nat.le_refl _) B4); have X4 := Bx.mk (X3.out.below B4); clear px3 qx3; obtain ⟨zx4, px4, qx4⟩ := X4.out; have R_4 := Bx.mk I4; clear I4)
  go_wp2_with (go_at_call 69; (with_reducible refine (ints_any T R t tc t rc (cv m p q n) (cv m p q n) _ T_4.out R_4.out (by omega) (by omega)).mono ?_); rw [eqL_self]; rintro e wi ⟨rfl, ki, rfl⟩)
  go_wp2_with (go_at_call 28; refine (fracsL1 a b w4.heap.size ((w4.drewN ki).alloc (.cells #[.int .i64 a, .int .i64 b] 23)) (HF.new (w4.drewN ki) 23 a b).1 ha hb (HF.new (w4.drewN ki) 23 a b).2.1 (HF.new (w4.drewN ki) 23 a b).2.2).mono ?_; rw [HK.out]; rintro e w5 ⟨rfl, B5⟩; replace B5 : Below w4.heap.size w4 w5 := (by first | exact B5 | exact (Below.refl _ _).drew.trans B5 | exact (below_drewN (Below.refl _ _) _).trans B5 | exact (below_alloc1 _ _).trans (B5.mono (by simp)) | exact below_da B5); have M5 := below_call0 M4 B5; have A5 := Bx.mk (A4.out.below (Nat.le_refl _) B5); have B_5 := Bx.mk (B_4.out.below (Nat.le_refl _) B5); have T_5 := Bx.mk (T_4.out.below (Nat.le_refl _) B5); have X5 := Bx.mk (X4.out.below B5); clear px4 qx4; obtain ⟨zx5, px5, qx5⟩ := X5.out)
  go_ret
  exact ⟨rfl, M5⟩

set_option maxRecDepth 100000 in
set_option maxHeartbeats 8000000 in
theorem times_G (HAW : Awake) (A B : Option Addr) (n m c d : Nat) (p q : Row) (t : Nat) (a b s1 s2 : Int) (w : World) (HA : Bx (IS w A n p)) (HB : Bx (IS w B m q)) (HAS : Bx (SV A n c)) (HBS : Bx (SV B m d)) (hn : n ≤ 10) (hm : m ≤ 10) (ha : I64 a) (hb : I64 b)
    (HZ : Bx (ckP n p = 0)) (HY : Bx (ckP m q = 0)) (HT : Bx (timN n m p q = (t, 0))) (HO : Bx (timO n m p q = (t, 0))) (htt : t ≤ 20) (HK : Bx (ckFs [(a, b)] = 0)) (SP : Bx (sigN n p a b = (s1, 0))) (SQ : Bx (sigN m q a b = (s2, 0))) (ST : Bx (sigN t (cv m p q n) a b = (s1 * s2, 0))) (HW1 : Bx (wtB s1 (-1) 1 = true)) (HW2 : Bx (wtB s2 (-1) 1 = true)) (m1 : -1 ≤ s1 * s2) (m2 : s1 * s2 ≤ 1) (htp : 0 < t) :
    Calls Try.prog 12 #[.slice A n c, .slice B m d, .agg #[.int .i64 a, .int .i64 b]] w fun e w' => e = .returned (.bool true) ∧ Below w.heap.size w w' := by
  have hn' : ¬ (10 : Int) < n := by omega
  have hm' : ¬ (10 : Int) < m := by omega
  go_enter Try.func12, Try.ntmps12
  go_wp2_with (go_at_call 20; refine (HAW _).mono ?_; rintro e w0 ⟨rfl, B0⟩; have M0 := below_call (Below.refl w.heap.size w) B0; have A0 := Bx.mk ((HA.out.below (Nat.le_refl _) (below_alloc1 _ _)).below (Nat.le_refl _) B0); have B_0 := Bx.mk ((HB.out.below (Nat.le_refl _) (below_alloc1 _ _)).below (Nat.le_refl _) B0); have X0 := Bx.mk ((HF.new w 23 a b).below B0); obtain ⟨zx0, px0, qx0⟩ := X0.out)
  go_wp2_with (go_at_call 65; (with_reducible refine (copyInts_any A n c p _ A0.out HAS.out (by omega)).mono ?_); rintro e w1 ⟨gC, cC, rfl, _, _, _, I1, B1⟩; have M1 := below_call0 M0 B1; have A1 := Bx.mk (A0.out.below (Nat.le_refl _) B1); have B_1 := Bx.mk (B_0.out.below (Nat.le_refl _) B1); have X1 := Bx.mk (X0.out.below B1); clear px0 qx0; obtain ⟨zx1, px1, qx1⟩ := X1.out; have C1 := Bx.mk I1; clear I1)
  go_wp2_with (go_at_call 65; (with_reducible refine (copyInts_any B m d q _ B_1.out HBS.out (by omega)).mono ?_); rintro e w2 ⟨gD, cD, rfl, _, _, _, I2, B2⟩; have M2 := below_call0 M1 B2; have A2 := Bx.mk (A1.out.below (Nat.le_refl _) B2); have B_2 := Bx.mk (B_1.out.below (Nat.le_refl _) B2); have C2 := Bx.mk (C1.out.below (Nat.le_refl _) B2); have X2 := Bx.mk (X1.out.below B2); clear px1 qx1; obtain ⟨zx2, px2, qx2⟩ := X2.out; have D2 := Bx.mk I2; clear I2)
  go_wp2_with (go_at_call 70; (with_reducible refine (pTimes_any _ _ n m cC cD p q _ C2.out D2.out (by omega) (by omega)).mono ?_); rw [HT.out]; rintro e w3 ⟨T, tc, rfl, I3, B3⟩; have M3 := below_call0 M2 B3; have A3 := Bx.mk (A2.out.below (Nat.le_refl _) B3); have B_3 := Bx.mk (B_2.out.below (Nat.le_refl _) B3); have C3 := Bx.mk (C2.out.below (Nat.le_refl _) B3); have D3 := Bx.mk (D2.out.below (Nat.le_refl _) B3); have X3 := Bx.mk (X2.out.below B3); clear px2 qx2; obtain ⟨zx3, px3, qx3⟩ := X3.out; have T_3 := Bx.mk I3; clear I3)
  go_wp2_with (go_at_call 66; (with_reducible refine (checkPolyR_any A n c p _ A3.out (by omega)).mono ?_); rw [HZ.out]; rintro e wp ⟨rfl, rfl⟩)
  go_wp2_with (go_at_call 66; (with_reducible refine (checkPolyR_any B m d q _ B_3.out (by omega)).mono ?_); rw [HY.out]; rintro e wp ⟨rfl, rfl⟩)
  go_wp2_with (go_at_call 71; (with_reducible refine (timesR_any A B n m c d p q _ A3.out B_3.out HZ.out HY.out).mono ?_); rw [HO.out]; rintro e w4 ⟨R, rc, rfl, I4, B4⟩; have M4 := below_call0 M3 B4; have A4 := Bx.mk (A3.out.below (Nat.le_refl _) B4); have B_4 := Bx.mk (B_3.out.below (Nat.le_refl _) B4); have T_4 := Bx.mk (T_3.out.below (Nat.le_refl _) B4); have X4 := Bx.mk (X3.out.below B4); clear px3 qx3; obtain ⟨zx4, px4, qx4⟩ := X4.out; have R_4 := Bx.mk I4; clear I4)
  go_wp2_with (go_at_call 69; (with_reducible refine (ints_any T R t tc t rc (cv m p q n) (cv m p q n) _ T_4.out R_4.out (by omega) (by omega)).mono ?_); rw [eqL_self]; rintro e wi ⟨rfl, ki, rfl⟩)
  go_wp2_with (go_at_call 28; refine (fracsL1 a b w4.heap.size ((w4.drewN ki).alloc (.cells #[.int .i64 a, .int .i64 b] 23)) (HF.new (w4.drewN ki) 23 a b).1 ha hb (HF.new (w4.drewN ki) 23 a b).2.1 (HF.new (w4.drewN ki) 23 a b).2.2).mono ?_; rw [HK.out]; rintro e w5 ⟨rfl, B5⟩; replace B5 : Below w4.heap.size w4 w5 := (by first | exact B5 | exact (Below.refl _ _).drew.trans B5 | exact (below_drewN (Below.refl _ _) _).trans B5 | exact (below_alloc1 _ _).trans (B5.mono (by simp)) | exact below_da B5); have M5 := below_call0 M4 B5; have A5 := Bx.mk (A4.out.below (Nat.le_refl _) B5); have B_5 := Bx.mk (B_4.out.below (Nat.le_refl _) B5); have T_5 := Bx.mk (T_4.out.below (Nat.le_refl _) B5); have X5 := Bx.mk (X4.out.below B5); clear px4 qx4; obtain ⟨zx5, px5, qx5⟩ := X5.out)
  go_region_held3 (fun w' => w'.cell? ⟨w.heap.size, 0, none⟩ = some (.int .i64 a) ∧ w'.cell? ⟨w.heap.size, 1, none⟩ = some (.int .i64 b))
    (first | (exact ⟨px5, qx5⟩) | (exact ⟨px6, qx6⟩) | (exact ⟨px7, qx7⟩))
    (first
      | (go_at_call 65; refine (copyInts_any A n c p _ (A5.out.below (Nat.le_refl _) (Below.refl _ _).drew) HAS.out (by omega)).mono ?_; rintro e w6 ⟨gC, cC, rfl, _, _, _, I6, B6⟩; replace B6 : Below w5.heap.size w5 w6 := (by first | exact B6 | exact (Below.refl _ _).drew.trans B6 | exact (below_drewN (Below.refl _ _) _).trans B6 | exact (below_alloc1 _ _).trans (B6.mono (by simp)) | exact below_da B6); have M6 := below_call0 M5 B6; have A6 := Bx.mk (A5.out.below (Nat.le_refl _) B6); have B_6 := Bx.mk (B_5.out.below (Nat.le_refl _) B6); have T_6 := Bx.mk (T_5.out.below (Nat.le_refl _) B6); have X6 := Bx.mk (X5.out.below B6); clear px5 qx5; obtain ⟨zx6, px6, qx6⟩ := X6.out; have C6 := Bx.mk I6; clear I6)
      | (go_at_call 72; refine (signAtP_any _ n cC p a b _ (by first | exact C6.out | exact C6.out.below (Nat.le_refl _) (Below.refl _ _).drew) (by omega) ha hb).mono ?_; rw [SP.out]; rintro e w7 ⟨rfl, B7⟩; replace B7 : Below w6.heap.size w6 w7 := (by first | exact B7 | exact (Below.refl _ _).drew.trans B7 | exact (below_drewN (Below.refl _ _) _).trans B7 | exact (below_alloc1 _ _).trans (B7.mono (by simp)) | exact below_da B7); have M7 := below_call0 M6 B7; have A7 := Bx.mk (A6.out.below (Nat.le_refl _) B7); have B_7 := Bx.mk (B_6.out.below (Nat.le_refl _) B7); have T_7 := Bx.mk (T_6.out.below (Nat.le_refl _) B7); have X7 := Bx.mk (X6.out.below B7); clear px6 qx6; obtain ⟨zx7, px7, qx7⟩ := X7.out))
  go_wp2_with fail
  go_region_held3 (fun w' => w'.cell? ⟨w.heap.size, 0, none⟩ = some (.int .i64 a) ∧ w'.cell? ⟨w.heap.size, 1, none⟩ = some (.int .i64 b))
    (first | (exact ⟨px7, qx7⟩) | (exact ⟨px8, qx8⟩) | (exact ⟨px9, qx9⟩))
    (first
      | (go_at_call 65; refine (copyInts_any B m d q _ (B_7.out.below (Nat.le_refl _) (Below.refl _ _).drew) HBS.out (by omega)).mono ?_; rintro e w8 ⟨gD, cD, rfl, _, _, _, I8, B8⟩; replace B8 : Below w7.heap.size w7 w8 := (by first | exact B8 | exact (Below.refl _ _).drew.trans B8 | exact (below_drewN (Below.refl _ _) _).trans B8 | exact (below_alloc1 _ _).trans (B8.mono (by simp)) | exact below_da B8); have M8 := below_call0 M7 B8; have A8 := Bx.mk (A7.out.below (Nat.le_refl _) B8); have B_8 := Bx.mk (B_7.out.below (Nat.le_refl _) B8); have T_8 := Bx.mk (T_7.out.below (Nat.le_refl _) B8); have X8 := Bx.mk (X7.out.below B8); clear px7 qx7; obtain ⟨zx8, px8, qx8⟩ := X8.out; have D8 := Bx.mk I8; clear I8)
      | (go_at_call 72; refine (signAtP_any _ m cD q a b _ (by first | exact D8.out | exact D8.out.below (Nat.le_refl _) (Below.refl _ _).drew) (by omega) ha hb).mono ?_; rw [SQ.out]; rintro e w9 ⟨rfl, B9⟩; replace B9 : Below w8.heap.size w8 w9 := (by first | exact B9 | exact (Below.refl _ _).drew.trans B9 | exact (below_drewN (Below.refl _ _) _).trans B9 | exact (below_alloc1 _ _).trans (B9.mono (by simp)) | exact below_da B9); have M9 := below_call0 M8 B9; have A9 := Bx.mk (A8.out.below (Nat.le_refl _) B9); have B_9 := Bx.mk (B_8.out.below (Nat.le_refl _) B9); have T_9 := Bx.mk (T_8.out.below (Nat.le_refl _) B9); have X9 := Bx.mk (X8.out.below B9); clear px8 qx8; obtain ⟨zx9, px9, qx9⟩ := X9.out))
  go_wp2_with fail
  go_region_held3 (fun w' => w'.cell? ⟨w.heap.size, 0, none⟩ = some (.int .i64 a) ∧ w'.cell? ⟨w.heap.size, 1, none⟩ = some (.int .i64 b))
    (first | (exact ⟨px9, qx9⟩) | (exact ⟨px10, qx10⟩) | (exact ⟨px11, qx11⟩))
    (first
      | (go_at_call 65; refine (copyInts_any T t tc (cv m p q n) _ (T_9.out.below (Nat.le_refl _) (Below.refl _ _).drew) (SV_of_IS tc T_9.out htp) (by omega)).mono ?_; rintro e w10 ⟨gG, cG, rfl, _, _, _, I10, B10⟩; replace B10 : Below w9.heap.size w9 w10 := (by first | exact B10 | exact (Below.refl _ _).drew.trans B10 | exact (below_drewN (Below.refl _ _) _).trans B10 | exact (below_alloc1 _ _).trans (B10.mono (by simp)) | exact below_da B10); have M10 := below_call0 M9 B10; have A10 := Bx.mk (A9.out.below (Nat.le_refl _) B10); have B_10 := Bx.mk (B_9.out.below (Nat.le_refl _) B10); have T_10 := Bx.mk (T_9.out.below (Nat.le_refl _) B10); have X10 := Bx.mk (X9.out.below B10); clear px9 qx9; obtain ⟨zx10, px10, qx10⟩ := X10.out; have G10 := Bx.mk I10; clear I10)
      | (go_at_call 72; refine (signAtP_any _ t cG (cv m p q n) a b _ (by first | exact G10.out | exact G10.out.below (Nat.le_refl _) (Below.refl _ _).drew) (by omega) ha hb).mono ?_; rw [ST.out]; rintro e w11 ⟨rfl, B11⟩; replace B11 : Below w10.heap.size w10 w11 := (by first | exact B11 | exact (Below.refl _ _).drew.trans B11 | exact (below_drewN (Below.refl _ _) _).trans B11 | exact (below_alloc1 _ _).trans (B11.mono (by simp)) | exact below_da B11); have M11 := below_call0 M10 B11; have A11 := Bx.mk (A10.out.below (Nat.le_refl _) B11); have B_11 := Bx.mk (B_10.out.below (Nat.le_refl _) B11); have T_11 := Bx.mk (T_10.out.below (Nat.le_refl _) B11); have X11 := Bx.mk (X10.out.below B11); clear px10 qx10; obtain ⟨zx11, px11, qx11⟩ := X11.out))
  go_wp2_with (first
    | (go_at_call 35; (with_reducible refine (within_any s1 (-1) 1 _).mono ?_); rw [HW1.out]; rintro e wx ⟨rfl, rfl⟩)
    | (go_at_call 35; (with_reducible refine (within_any s2 (-1) 1 _).mono ?_); rw [HW2.out]; rintro e wx ⟨rfl, rfl⟩))
  go_ret
  exact ⟨rfl, by first | exact M11 | exact M11.drew⟩

end Go.Proofs.Ytdlddfmodbcnmaa
/- Walks: products of ranges and multiples of ranges. -/
import Derived.Test.YtlkfkekglmjhhaaE1
set_option linter.unusedVariables false
set_option linter.unusedSimpArgs false
namespace Go.Proofs.Ytlkfkekglmjhhaa
open Go.RowKit

def allFit (a b c d : Int) : Prop := fitP a c ∧ fitP a d ∧ fitP b c ∧ fitP b d
def prodN (a b c d : Int) : Int × Int × Int :=
  if ckRs [(a, b), (c, d)] ≠ 0 then (0, 0, ckRs [(a, b), (c, d)])
  else if sz a * sz c ≤ 1000000000000000 * 1 ∧ sz a * sz d ≤ 1000000000000000 * 1 ∧ sz b * sz c ≤ 1000000000000000 * 1 ∧ sz b * sz d ≤ 1000000000000000 * 1 then (min4 (c * a) (d * a) (c * b) (d * b), max4 (c * a) (d * a) (c * b) (d * b), 0) else (0, 0, 8)

set_option maxHeartbeats 1000000 in
theorem product_e (a b c d E : Int) (w : World) (ha : I64 a) (hb : I64 b) (hc : I64 c) (hd : I64 d) (HE : Bx (ckRs [(a, b), (c, d)] = E)) (he : (E != 0) = true) :
    Calls Try.prog 52 #[.agg #[.int .i64 a, .int .i64 b], .agg #[.int .i64 c, .int .i64 d]] w fun e w' => e = .returned (.tuple #[.agg #[.int .i64 0, .int .i64 0], .int .i64 E]) ∧ Below w.heap.size w w' := by
  go_enter Try.func52, Try.ntmps52
  go_wp2_with (go_at_call 94; refine (checkRanges2 a b c d _ _ (by simp) ha hb hc hd (by simp [go_sem, World.cell?_alloc_past]) (by simp [go_sem, World.cell?_alloc_past]) (by simp [go_sem, World.cell?_alloc_past]) (by simp [go_sem, World.cell?_alloc_past])).mono ?_; rw [HE.out]; rintro e w1 ⟨rfl, hB1⟩; obtain ⟨hc1, hf1⟩ := bcell hB1; have hz1 : w.heap.size + 4 ≤ w1.heap.size := (by have := hB1.size; simp at this; omega); have hzz : w.heap.size + 1 + 1 < w1.heap.size := (by omega); have k0 : w1.cell? ⟨w.heap.size + 1 + 1, 0, none⟩ = some (.int .i64 0) := (by rw [hc1 _ _ (by simp)]; simp [go_sem, World.cell?_alloc_past]); have k1 : w1.cell? ⟨w.heap.size + 1 + 1, 1, none⟩ = some (.int .i64 0) := (by rw [hc1 _ _ (by simp)]; simp [go_sem, World.cell?_alloc_past]); have k2 : w1.frozen? ⟨w.heap.size + 1 + 1, 0, none⟩ = false := (by rw [hf1 _ _ (by simp)]; simp [go_sem, World.frozen?_alloc_past]); have k3 : w1.frozen? ⟨w.heap.size + 1 + 1, 1, none⟩ = false := (by rw [hf1 _ _ (by simp)]; simp [go_sem, World.frozen?_alloc_past]))
  obtain ⟨r0, r1⟩ := set2 (w := w1) (b := w.heap.size + 1 + 1) (x := .int .i64 0) (y := .int .i64 0) (.int .i64 0) (.int .i64 0) k0 k1
  refine bodyPost_ret (ret_range rfl _ _ _ _ _ _ rfl rfl r0 r1) rfl ⟨rfl, ?_⟩
  exact (((((((Below.refl w.heap.size w).alloc (Nat.le_refl _) _).alloc (by simp) _).alloc (by simp; omega) _).alloc (by simp; omega) _).trans (hB1.mono (by simp; omega))).setCell (by simp; omega) _).setCell (by simp; omega) _

theorem product_any (a b c d : Int) (w : World) (ha : I64 a) (hb : I64 b) (hc : I64 c) (hd : I64 d) :
    Calls Try.prog 52 #[.agg #[.int .i64 a, .int .i64 b], .agg #[.int .i64 c, .int .i64 d]] w fun e w' => e = .returned (.tuple #[.agg #[.int .i64 (prodN a b c d).1, .int .i64 (prodN a b c d).2.1], .int .i64 (prodN a b c d).2.2]) ∧ Below w.heap.size w w' := by
  by_cases he : ckRs [(a, b), (c, d)] = 0
  · obtain ⟨z1, z2⟩ := ckRs_two_zero he
    obtain ⟨a1, a2, b1, b2, _⟩ := ckRg_zero z1
    obtain ⟨c1, c2, d1, d2, _⟩ := ckRg_zero z2
    dsimp only at a1 a2 b1 b2 c1 c2 d1 d2
    by_cases f0 : sz a * sz c ≤ 1000000000000000 * 1
    · by_cases f1 : sz a * sz d ≤ 1000000000000000 * 1
      · by_cases f2 : sz b * sz c ≤ 1000000000000000 * 1
        · by_cases f3 : sz b * sz d ≤ 1000000000000000 * 1
          · rw [show prodN a b c d = (min4 (c * a) (d * a) (c * b) (d * b), max4 (c * a) (d * a) (c * b) (d * b), 0) by unfold prodN; rw [if_neg (by simpa using he), if_pos ⟨f0, f1, f2, f3⟩]]
            exact product_4 a b c d w ⟨he⟩ ha hb hc hd a1 a2 b1 b2 c1 c2 d1 d2 ⟨f0⟩ ⟨f1⟩ ⟨f2⟩ ⟨f3⟩
          · rw [show prodN a b c d = (0, 0, 8) by unfold prodN; rw [if_neg (by simpa using he), if_neg (fun h => f3 h.2.2.2)]]
            exact product_3 a b c d w ⟨he⟩ ha hb hc hd a1 a2 b1 b2 c1 c2 d1 d2 ⟨f0⟩ ⟨f1⟩ ⟨f2⟩ ⟨f3⟩
        · rw [show prodN a b c d = (0, 0, 8) by unfold prodN; rw [if_neg (by simpa using he), if_neg (fun h => f2 h.2.2.1)]]
          exact product_2 a b c d w ⟨he⟩ ha hb hc hd a1 a2 b1 b2 c1 c2 d1 d2 ⟨f0⟩ ⟨f1⟩ ⟨f2⟩
      · rw [show prodN a b c d = (0, 0, 8) by unfold prodN; rw [if_neg (by simpa using he), if_neg (fun h => f1 h.2.1)]]
        exact product_1 a b c d w ⟨he⟩ ha hb hc hd a1 a2 b1 b2 c1 c2 d1 d2 ⟨f0⟩ ⟨f1⟩
    · rw [show prodN a b c d = (0, 0, 8) by unfold prodN; rw [if_neg (by simpa using he), if_neg (fun h => f0 h.1)]]
      exact product_0 a b c d w ⟨he⟩ ha hb hc hd a1 a2 b1 b2 c1 c2 d1 d2 ⟨f0⟩
  · rw [show prodN a b c d = (0, 0, ckRs [(a, b), (c, d)]) by unfold prodN; rw [if_pos he]]
    exact product_e a b c d _ w ha hb hc hd ⟨rfl⟩ (by simpa using he)

/-! Multiples of ranges. -/
def scaledN (a b n m : Int) : Int × Int × Int :=
  if ckRs [(a, b)] ≠ 0 then (0, 0, ckRs [(a, b)]) else if ckFs [(n, m)] ≠ 0 then (0, 0, ckFs [(n, m)])
  else if sz a * sz n ≤ 1000000000000000 * m ∧ sz b * sz n ≤ 1000000000000000 * m then (min (n * a / m) (n * b / m), max (-(-(n * a) / m)) (-(-(n * b) / m)), 0) else (0, 0, 8)
theorem end_bd {a n m : Int} (hm : 1 ≤ m) (h : sz a * sz n ≤ 1000000000000000 * m) : -1000000000000000 ≤ n * a / m ∧ n * a / m ≤ -(-(n * a) / m) ∧ -(-(n * a) / m) ≤ 1000000000000000 := by
  have e : (n * a).natAbs = (sz a * sz n).natAbs := by unfold sz; rw [Int.natAbs_mul, Int.natAbs_mul, Int.natAbs_natCast, Int.natAbs_natCast, Nat.mul_comm]
  have h0 := Int.mul_nonneg (sz_nonneg a) (sz_nonneg n)
  have h1 : -(1000000000000000 * m) ≤ n * a := by omega
  have h2 : n * a ≤ 1000000000000000 * m := by omega
  refine ⟨?_, ?_, ?_⟩
  · rw [Int.le_ediv_iff_mul_le (by omega)]; omega
  · rw [ceil_of hm]; split <;> omega
  · have : -1000000000000000 ≤ -(n * a) / m := by rw [Int.le_ediv_iff_mul_le (by omega)]; omega
    omega
theorem boxed_cells2 {w : World} {o : Obj} {b : Nat} {x y : Value} (h : b < w.heap.size) (k0 : w.cell? ⟨b, 0, none⟩ = some x) (k1 : w.cell? ⟨b, 1, none⟩ = some y) :
    (w.alloc o).cell? ⟨b, 0, none⟩ = some x ∧ (w.alloc o).cell? ⟨b, 1, none⟩ = some y := by
  obtain ⟨c, f⟩ := bcell (below_alloc1 w o)
  exact ⟨(c b 0 h).trans k0, (c b 1 h).trans k1⟩
/-- What lies in memory meanwhile: the range, the fraction, the result. -/
structure QS (w wr : World) (a b c d : Int) : Prop where
  lt : w.heap.size + 1 + 1 < wr.heap.size
  q0 : wr.cell? ⟨w.heap.size, 0, none⟩ = some (.int .i64 a)
  q1 : wr.cell? ⟨w.heap.size, 1, none⟩ = some (.int .i64 b)
  q2 : wr.cell? ⟨w.heap.size + 1, 0, none⟩ = some (.int .i64 c)
  q3 : wr.cell? ⟨w.heap.size + 1, 1, none⟩ = some (.int .i64 d)
  k0 : wr.cell? ⟨w.heap.size + 1 + 1, 0, none⟩ = some (.int .i64 0)
  k1 : wr.cell? ⟨w.heap.size + 1 + 1, 1, none⟩ = some (.int .i64 0)
  k2 : wr.frozen? ⟨w.heap.size + 1 + 1, 0, none⟩ = false
  k3 : wr.frozen? ⟨w.heap.size + 1 + 1, 1, none⟩ = false
  B : Below w.heap.size w wr
theorem QS.call {w wr w' : World} {a b c d : Int} (h : QS w wr a b c d) (k : Below wr.heap.size wr w') : QS w w' a b c d := by
  obtain ⟨hc, hf⟩ := bcell k
  have l := h.lt
  exact ⟨Nat.lt_of_lt_of_le l k.size, (hc _ _ (by omega)).trans h.q0, (hc _ _ (by omega)).trans h.q1, (hc _ _ (by omega)).trans h.q2, (hc _ _ (by omega)).trans h.q3, (hc _ _ (by omega)).trans h.k0, (hc _ _ (by omega)).trans h.k1, (hf _ _ (by omega)).trans h.k2, (hf _ _ (by omega)).trans h.k3, below_call0 h.B k⟩
theorem QS.alloc {w wr : World} {a b c d : Int} (h : QS w wr a b c d) (ob : Obj) : QS w (wr.alloc ob) a b c d := h.call (below_alloc1 wr ob)
theorem QS.new (w : World) (a b c d : Int) (T U V : TypeId) : QS w (((w.alloc (.cells #[.int .i64 a, .int .i64 b] T)).alloc (.cells #[.int .i64 c, .int .i64 d] U)).alloc (.cells #[.int .i64 0, .int .i64 0] V)) a b c d := by
  refine ⟨by simp, ?_, ?_, ?_, ?_, ?_, ?_, ?_, ?_, ?_⟩
  iterate 6 (simp [go_sem, World.cell?_alloc_past])
  iterate 2 (simp [go_sem, World.frozen?_alloc_past])
  exact (((Below.refl w.heap.size w).alloc (Nat.le_refl _) _).alloc (by simp) _).alloc (by simp; omega) _

set_option maxRecDepth 100000 in
set_option maxHeartbeats 8000000 in
theorem scaled_e (a b n m Z : Int) (w : World) (ha : I64 a) (hb : I64 b) (hn : I64 n) (hm : I64 m) (z : Bx (ckRs [(a, b)] = Z)) (he : (Z != 0) = true) :
    Calls Try.prog 53 #[.agg #[.int .i64 a, .int .i64 b], .agg #[.int .i64 n, .int .i64 m]] w fun e w' => e = .returned (.tuple #[.agg #[.int .i64 0, .int .i64 0], .int .i64 Z]) ∧ Below w.heap.size w w' := by
  have hz1 : ((0 : Int) != 0) = false := rfl
  have Q0 := Bx.mk (QS.new w a b n m 38 23 38)
  go_enter Try.func53, Try.ntmps53
  go_wp2_with (go_at_call 94; refine (checkRanges1 a b _ _ (by simp) ha hb (by simp [go_sem, World.cell?_alloc_past]) (by simp [go_sem, World.cell?_alloc_past])).mono ?_; rw [z.out]; rintro e w1 ⟨rfl, hB1⟩; have Q1 := Bx.mk ((Q0.out.alloc _).call hB1); obtain ⟨lt1, q01, q11, q21, q31, k01, k11, k21, k31, -⟩ := Q1.out)
  obtain ⟨r0, r1⟩ := set2 (b := w.heap.size + 1 + 1) (x := .int .i64 0) (y := .int .i64 0) (.int .i64 0) (.int .i64 0) k01 k11
  refine bodyPost_ret (ret_range rfl _ _ _ _ _ _ rfl rfl r0 r1) rfl ⟨rfl, ((Q1.out.B).setCell (by show w.heap.size ≤ w.heap.size + 1 + 1; omega) _).setCell (by show w.heap.size ≤ w.heap.size + 1 + 1; omega) _⟩

set_option maxRecDepth 100000 in
set_option maxHeartbeats 8000000 in
theorem scaled_f (a b n m Z : Int) (w : World) (ha : I64 a) (hb : I64 b) (hn : I64 n) (hm : I64 m) (z : Bx (ckRs [(a, b)] = 0)) (y : Bx (ckFs [(n, m)] = Z)) (he : (Z != 0) = true) :
    Calls Try.prog 53 #[.agg #[.int .i64 a, .int .i64 b], .agg #[.int .i64 n, .int .i64 m]] w fun e w' => e = .returned (.tuple #[.agg #[.int .i64 0, .int .i64 0], .int .i64 Z]) ∧ Below w.heap.size w w' := by
  have hz1 : ((0 : Int) != 0) = false := rfl
  have Q0 := Bx.mk (QS.new w a b n m 38 23 38)
  go_enter Try.func53, Try.ntmps53
  go_wp2_with (go_at_call 94; refine (checkRanges1 a b _ _ (by simp) ha hb (by simp [go_sem, World.cell?_alloc_past]) (by simp [go_sem, World.cell?_alloc_past])).mono ?_; rw [z.out]; rintro e w1 ⟨rfl, hB1⟩; have Q1 := Bx.mk ((Q0.out.alloc _).call hB1); obtain ⟨lt1, q01, q11, q21, q31, k01, k11, k21, k31, -⟩ := Q1.out)
  go_wp2_with (go_at_call 83; refine (checkFracs1 n m _ _ (by simp) hn hm (by simp [go_sem, World.cell?_alloc_past]) (by simp [go_sem, World.cell?_alloc_past])).mono ?_; rw [y.out]; rintro e w2 ⟨rfl, hB2⟩; have Q2 := Bx.mk ((Q1.out.alloc _).call hB2); obtain ⟨lt2, q02, q12, q22, q32, k02, k12, k22, k32, -⟩ := Q2.out)
  obtain ⟨r0, r1⟩ := set2 (b := w.heap.size + 1 + 1) (x := .int .i64 0) (y := .int .i64 0) (.int .i64 0) (.int .i64 0) k02 k12
  refine bodyPost_ret (ret_range rfl _ _ _ _ _ _ rfl rfl r0 r1) rfl ⟨rfl, ((Q2.out.B).setCell (by show w.heap.size ≤ w.heap.size + 1 + 1; omega) _).setCell (by show w.heap.size ≤ w.heap.size + 1 + 1; omega) _⟩

set_option maxRecDepth 100000 in
set_option maxHeartbeats 8000000 in
theorem scaled_nn (a b n m : Int) (w : World) (ha : I64 a) (hb : I64 b) (hn : I64 n) (hm : I64 m) (z : Bx (ckRs [(a, b)] = 0)) (y : Bx (ckFs [(n, m)] = 0)) (a1 : -1000000000000000 ≤ a) (a2 : a ≤ 1000000000000000) (b1 : -1000000000000000 ≤ b) (b2 : b ≤ 1000000000000000) (n1 : -1000000000000000 ≤ n) (n2 : n ≤ 1000000000000000) (m1 : 1 ≤ m) (m2 : m ≤ 1000000000) (f0 : Bx (1000000000000000 * m < sz a * sz n)) (f1 : Bx (1000000000000000 * m < sz b * sz n)) :
    Calls Try.prog 53 #[.agg #[.int .i64 a, .int .i64 b], .agg #[.int .i64 n, .int .i64 m]] w fun e w' => e = .returned (.tuple #[.agg #[.int .i64 0, .int .i64 0], .int .i64 8]) ∧ Below w.heap.size w w' := by
  have hz1 : ((0 : Int) != 0) = false := rfl
  have Q0 := Bx.mk (QS.new w a b n m 38 23 38)
  go_enter Try.func53, Try.ntmps53
  go_wp2_with (go_at_call 94; refine (checkRanges1 a b _ _ (by simp) ha hb (by simp [go_sem, World.cell?_alloc_past]) (by simp [go_sem, World.cell?_alloc_past])).mono ?_; rw [z.out]; rintro e w1 ⟨rfl, hB1⟩; have Q1 := Bx.mk ((Q0.out.alloc _).call hB1); obtain ⟨lt1, q01, q11, q21, q31, k01, k11, k21, k31, -⟩ := Q1.out)
  go_wp2_with (go_at_call 83; refine (checkFracs1 n m _ _ (by simp) hn hm (by simp [go_sem, World.cell?_alloc_past]) (by simp [go_sem, World.cell?_alloc_past])).mono ?_; rw [y.out]; rintro e w2 ⟨rfl, hB2⟩; have Q2 := Bx.mk ((Q1.out.alloc _).call hB2); obtain ⟨lt2, q02, q12, q22, q32, k02, k12, k22, k32, -⟩ := Q2.out)
  go_wp2_with (first
    | (go_at_call 90; (with_reducible refine (enclose_no a n m _ a1 a2 n1 n2 m1 m2 f0).mono ?_); rintro e w3 ⟨x0, y0, rfl, hB3⟩; have Q3 := Bx.mk (Q2.out.call hB3); have D3 := Bx.mk (Q3.out.alloc (.cells #[.int .i64 (x0), .int .i64 (y0)] 38)); obtain ⟨lt3, q03, q13, q23, q33, k03, k13, k23, k33, -⟩ := Q3.out; obtain ⟨ltd3, q0d3, q1d3, q2d3, q3d3, k0d3, k1d3, k2d3, k3d3, -⟩ := D3.out)
    | (go_at_call 90; (with_reducible refine (enclose_no b n m _ b1 b2 n1 n2 m1 m2 f1).mono ?_); rintro e w4 ⟨x1, y1, rfl, hB4⟩; have Q4 := Bx.mk (D3.out.call hB4); have D4 := Bx.mk (Q4.out.alloc (.cells #[.int .i64 (x1), .int .i64 (y1)] 38)); obtain ⟨lt4, q04, q14, q24, q34, k04, k14, k24, k34, -⟩ := Q4.out; obtain ⟨ltd4, q0d4, q1d4, q2d4, q3d4, k0d4, k1d4, k2d4, k3d4, -⟩ := D4.out; obtain ⟨zl, l0, l1⟩ := ((HF.new w3 38 (x0) (y0)).below hB4).alloc (.cells #[.int .i64 (x1), .int .i64 (y1)] 38)))
  obtain ⟨r0, r1⟩ := set2 (b := w.heap.size + 1 + 1) (x := .int .i64 0) (y := .int .i64 0) (.int .i64 0) (.int .i64 0) k04 k14
  obtain ⟨r2, r3⟩ := boxed_cells2 (o := .cells #[.int .i64 (x1), .int .i64 (y1)] 38) (by simpa [World.setCell] using lt4) r0 r1
  refine bodyPost_ret (ret_range rfl _ _ _ _ _ _ rfl rfl r2 r3) rfl ⟨rfl, (((Q4.out.B).setCell (by show w.heap.size ≤ w.heap.size + 1 + 1; omega) _).setCell (by show w.heap.size ≤ w.heap.size + 1 + 1; omega) _).alloc (by have := Q4.out.B.size; simpa [World.setCell] using this) _⟩

set_option maxRecDepth 100000 in
set_option maxHeartbeats 8000000 in
theorem scaled_yn (a b n m : Int) (w : World) (ha : I64 a) (hb : I64 b) (hn : I64 n) (hm : I64 m) (z : Bx (ckRs [(a, b)] = 0)) (y : Bx (ckFs [(n, m)] = 0)) (a1 : -1000000000000000 ≤ a) (a2 : a ≤ 1000000000000000) (b1 : -1000000000000000 ≤ b) (b2 : b ≤ 1000000000000000) (n1 : -1000000000000000 ≤ n) (n2 : n ≤ 1000000000000000) (m1 : 1 ≤ m) (m2 : m ≤ 1000000000) (f0 : Bx (sz a * sz n ≤ 1000000000000000 * m)) (f1 : Bx (1000000000000000 * m < sz b * sz n)) :
    Calls Try.prog 53 #[.agg #[.int .i64 a, .int .i64 b], .agg #[.int .i64 n, .int .i64 m]] w fun e w' => e = .returned (.tuple #[.agg #[.int .i64 0, .int .i64 0], .int .i64 8]) ∧ Below w.heap.size w w' := by
  have hz1 : ((0 : Int) != 0) = false := rfl
  have Q0 := Bx.mk (QS.new w a b n m 38 23 38)
  go_enter Try.func53, Try.ntmps53
  go_wp2_with (go_at_call 94; refine (checkRanges1 a b _ _ (by simp) ha hb (by simp [go_sem, World.cell?_alloc_past]) (by simp [go_sem, World.cell?_alloc_past])).mono ?_; rw [z.out]; rintro e w1 ⟨rfl, hB1⟩; have Q1 := Bx.mk ((Q0.out.alloc _).call hB1); obtain ⟨lt1, q01, q11, q21, q31, k01, k11, k21, k31, -⟩ := Q1.out)
  go_wp2_with (go_at_call 83; refine (checkFracs1 n m _ _ (by simp) hn hm (by simp [go_sem, World.cell?_alloc_past]) (by simp [go_sem, World.cell?_alloc_past])).mono ?_; rw [y.out]; rintro e w2 ⟨rfl, hB2⟩; have Q2 := Bx.mk ((Q1.out.alloc _).call hB2); obtain ⟨lt2, q02, q12, q22, q32, k02, k12, k22, k32, -⟩ := Q2.out)
  go_wp2_with (first
    | (go_at_call 90; (with_reducible refine (enclose_any a n m _ a1 a2 n1 n2 m1 m2 f0).mono ?_); rintro e w3 ⟨rfl, hB3⟩; have Q3 := Bx.mk (Q2.out.call hB3); have D3 := Bx.mk (Q3.out.alloc (.cells #[.int .i64 (n * a / m), .int .i64 (-(-(n * a) / m))] 38)); obtain ⟨lt3, q03, q13, q23, q33, k03, k13, k23, k33, -⟩ := Q3.out; obtain ⟨ltd3, q0d3, q1d3, q2d3, q3d3, k0d3, k1d3, k2d3, k3d3, -⟩ := D3.out)
    | (go_at_call 90; (with_reducible refine (enclose_no b n m _ b1 b2 n1 n2 m1 m2 f1).mono ?_); rintro e w4 ⟨x1, y1, rfl, hB4⟩; have Q4 := Bx.mk (D3.out.call hB4); have D4 := Bx.mk (Q4.out.alloc (.cells #[.int .i64 (x1), .int .i64 (y1)] 38)); obtain ⟨lt4, q04, q14, q24, q34, k04, k14, k24, k34, -⟩ := Q4.out; obtain ⟨ltd4, q0d4, q1d4, q2d4, q3d4, k0d4, k1d4, k2d4, k3d4, -⟩ := D4.out; obtain ⟨zl, l0, l1⟩ := ((HF.new w3 38 (n * a / m) (-(-(n * a) / m))).below hB4).alloc (.cells #[.int .i64 (x1), .int .i64 (y1)] 38)))
  obtain ⟨r0, r1⟩ := set2 (b := w.heap.size + 1 + 1) (x := .int .i64 0) (y := .int .i64 0) (.int .i64 0) (.int .i64 0) k04 k14
  obtain ⟨r2, r3⟩ := boxed_cells2 (o := .cells #[.int .i64 (x1), .int .i64 (y1)] 38) (by simpa [World.setCell] using lt4) r0 r1
  refine bodyPost_ret (ret_range rfl _ _ _ _ _ _ rfl rfl r2 r3) rfl ⟨rfl, (((Q4.out.B).setCell (by show w.heap.size ≤ w.heap.size + 1 + 1; omega) _).setCell (by show w.heap.size ≤ w.heap.size + 1 + 1; omega) _).alloc (by have := Q4.out.B.size; simpa [World.setCell] using this) _⟩

set_option maxRecDepth 100000 in
set_option maxHeartbeats 8000000 in
theorem scaled_ny (a b n m : Int) (w : World) (ha : I64 a) (hb : I64 b) (hn : I64 n) (hm : I64 m) (z : Bx (ckRs [(a, b)] = 0)) (y : Bx (ckFs [(n, m)] = 0)) (a1 : -1000000000000000 ≤ a) (a2 : a ≤ 1000000000000000) (b1 : -1000000000000000 ≤ b) (b2 : b ≤ 1000000000000000) (n1 : -1000000000000000 ≤ n) (n2 : n ≤ 1000000000000000) (m1 : 1 ≤ m) (m2 : m ≤ 1000000000) (f0 : Bx (1000000000000000 * m < sz a * sz n)) (f1 : Bx (sz b * sz n ≤ 1000000000000000 * m)) :
    Calls Try.prog 53 #[.agg #[.int .i64 a, .int .i64 b], .agg #[.int .i64 n, .int .i64 m]] w fun e w' => e = .returned (.tuple #[.agg #[.int .i64 0, .int .i64 0], .int .i64 8]) ∧ Below w.heap.size w w' := by
  have hz1 : ((0 : Int) != 0) = false := rfl
  have Q0 := Bx.mk (QS.new w a b n m 38 23 38)
  go_enter Try.func53, Try.ntmps53
  go_wp2_with (go_at_call 94; refine (checkRanges1 a b _ _ (by simp) ha hb (by simp [go_sem, World.cell?_alloc_past]) (by simp [go_sem, World.cell?_alloc_past])).mono ?_; rw [z.out]; rintro e w1 ⟨rfl, hB1⟩; have Q1 := Bx.mk ((Q0.out.alloc _).call hB1); obtain ⟨lt1, q01, q11, q21, q31, k01, k11, k21, k31, -⟩ := Q1.out)
  go_wp2_with (go_at_call 83; refine (checkFracs1 n m _ _ (by simp) hn hm (by simp [go_sem, World.cell?_alloc_past]) (by simp [go_sem, World.cell?_alloc_past])).mono ?_; rw [y.out]; rintro e w2 ⟨rfl, hB2⟩; have Q2 := Bx.mk ((Q1.out.alloc _).call hB2); obtain ⟨lt2, q02, q12, q22, q32, k02, k12, k22, k32, -⟩ := Q2.out)
  go_wp2_with (first
    | (go_at_call 90; (with_reducible refine (enclose_no a n m _ a1 a2 n1 n2 m1 m2 f0).mono ?_); rintro e w3 ⟨x0, y0, rfl, hB3⟩; have Q3 := Bx.mk (Q2.out.call hB3); have D3 := Bx.mk (Q3.out.alloc (.cells #[.int .i64 (x0), .int .i64 (y0)] 38)); obtain ⟨lt3, q03, q13, q23, q33, k03, k13, k23, k33, -⟩ := Q3.out; obtain ⟨ltd3, q0d3, q1d3, q2d3, q3d3, k0d3, k1d3, k2d3, k3d3, -⟩ := D3.out)
    | (go_at_call 90; (with_reducible refine (enclose_any b n m _ b1 b2 n1 n2 m1 m2 f1).mono ?_); rintro e w4 ⟨rfl, hB4⟩; have Q4 := Bx.mk (D3.out.call hB4); have D4 := Bx.mk (Q4.out.alloc (.cells #[.int .i64 (n * b / m), .int .i64 (-(-(n * b) / m))] 38)); obtain ⟨lt4, q04, q14, q24, q34, k04, k14, k24, k34, -⟩ := Q4.out; obtain ⟨ltd4, q0d4, q1d4, q2d4, q3d4, k0d4, k1d4, k2d4, k3d4, -⟩ := D4.out; obtain ⟨zl, l0, l1⟩ := ((HF.new w3 38 (x0) (y0)).below hB4).alloc (.cells #[.int .i64 (n * b / m), .int .i64 (-(-(n * b) / m))] 38)))
  obtain ⟨r0, r1⟩ := set2 (b := w.heap.size + 1 + 1) (x := .int .i64 0) (y := .int .i64 0) (.int .i64 0) (.int .i64 0) k04 k14
  obtain ⟨r2, r3⟩ := boxed_cells2 (o := .cells #[.int .i64 (n * b / m), .int .i64 (-(-(n * b) / m))] 38) (by simpa [World.setCell] using lt4) r0 r1
  refine bodyPost_ret (ret_range rfl _ _ _ _ _ _ rfl rfl r2 r3) rfl ⟨rfl, (((Q4.out.B).setCell (by show w.heap.size ≤ w.heap.size + 1 + 1; omega) _).setCell (by show w.heap.size ≤ w.heap.size + 1 + 1; omega) _).alloc (by have := Q4.out.B.size; simpa [World.setCell] using this) _⟩

set_option maxRecDepth 100000 in
set_option maxHeartbeats 8000000 in
theorem scaled_yy (a b n m : Int) (w : World) (ha : I64 a) (hb : I64 b) (hn : I64 n) (hm : I64 m) (z : Bx (ckRs [(a, b)] = 0)) (y : Bx (ckFs [(n, m)] = 0)) (a1 : -1000000000000000 ≤ a) (a2 : a ≤ 1000000000000000) (b1 : -1000000000000000 ≤ b) (b2 : b ≤ 1000000000000000) (n1 : -1000000000000000 ≤ n) (n2 : n ≤ 1000000000000000) (m1 : 1 ≤ m) (m2 : m ≤ 1000000000) (f0 : Bx (sz a * sz n ≤ 1000000000000000 * m)) (f1 : Bx (sz b * sz n ≤ 1000000000000000 * m)) :
    Calls Try.prog 53 #[.agg #[.int .i64 a, .int .i64 b], .agg #[.int .i64 n, .int .i64 m]] w fun e w' => e = .returned (.tuple #[.agg #[.int .i64 (min (n * a / m) (n * b / m)), .int .i64 (max (-(-(n * a) / m)) (-(-(n * b) / m)))], .int .i64 0]) ∧ Below w.heap.size w w' := by
  have hz1 : ((0 : Int) != 0) = false := rfl
  have HU := Bx.mk (show hullN (n * a / m) (-(-(n * a) / m)) (n * b / m) (-(-(n * b) / m)) = (min (n * a / m) (n * b / m), max (-(-(n * a) / m)) (-(-(n * b) / m)), 0) by
    obtain ⟨u1, u2, u3⟩ := end_bd m1 f0.out
    obtain ⟨u4, u5, u6⟩ := end_bd m1 f1.out
    unfold hullN
    rw [if_neg]
    rw [ckRs_two]
    have e1 : ckRg (n * a / m) (-(-(n * a) / m)) = 0 := by unfold ckRg sz; rw [if_neg (by omega), if_neg (by omega)]
    have e2 : ckRg (n * b / m) (-(-(n * b) / m)) = 0 := by unfold ckRg sz; rw [if_neg (by omega), if_neg (by omega)]
    simp [e1, e2])
  obtain ⟨s1, hs1⟩ : ∃ s, Bx (min (n * a / m) (n * b / m) = s) := ⟨_, ⟨rfl⟩⟩
  obtain ⟨s2, hs2⟩ : ∃ s, Bx (max (-(-(n * a) / m)) (-(-(n * b) / m)) = s) := ⟨_, ⟨rfl⟩⟩
  rw [hs1.out, hs2.out] at HU
  have E0 := Bx.mk (end_bd m1 f0.out)
  have E1 := Bx.mk (end_bd m1 f1.out)
  have Q0 := Bx.mk (QS.new w a b n m 38 23 38)
  go_enter Try.func53, Try.ntmps53
  go_wp2_with (go_at_call 94; refine (checkRanges1 a b _ _ (by simp) ha hb (by simp [go_sem, World.cell?_alloc_past]) (by simp [go_sem, World.cell?_alloc_past])).mono ?_; rw [z.out]; rintro e w1 ⟨rfl, hB1⟩; have Q1 := Bx.mk ((Q0.out.alloc _).call hB1); obtain ⟨lt1, q01, q11, q21, q31, k01, k11, k21, k31, -⟩ := Q1.out)
  go_wp2_with (go_at_call 83; refine (checkFracs1 n m _ _ (by simp) hn hm (by simp [go_sem, World.cell?_alloc_past]) (by simp [go_sem, World.cell?_alloc_past])).mono ?_; rw [y.out]; rintro e w2 ⟨rfl, hB2⟩; have Q2 := Bx.mk ((Q1.out.alloc _).call hB2); obtain ⟨lt2, q02, q12, q22, q32, k02, k12, k22, k32, -⟩ := Q2.out)
  go_wp2_with (first
    | (go_at_call 90; (with_reducible refine (enclose_any a n m _ a1 a2 n1 n2 m1 m2 f0).mono ?_); rintro e w3 ⟨rfl, hB3⟩; have Q3 := Bx.mk (Q2.out.call hB3); have D3 := Bx.mk (Q3.out.alloc (.cells #[.int .i64 (n * a / m), .int .i64 (-(-(n * a) / m))] 38)); obtain ⟨lt3, q03, q13, q23, q33, k03, k13, k23, k33, -⟩ := Q3.out; obtain ⟨ltd3, q0d3, q1d3, q2d3, q3d3, k0d3, k1d3, k2d3, k3d3, -⟩ := D3.out)
    | (go_at_call 90; (with_reducible refine (enclose_any b n m _ b1 b2 n1 n2 m1 m2 f1).mono ?_); rintro e w4 ⟨rfl, hB4⟩; have Q4 := Bx.mk (D3.out.call hB4); have D4 := Bx.mk (Q4.out.alloc (.cells #[.int .i64 (n * b / m), .int .i64 (-(-(n * b) / m))] 38)); obtain ⟨lt4, q04, q14, q24, q34, k04, k14, k24, k34, -⟩ := Q4.out; obtain ⟨ltd4, q0d4, q1d4, q2d4, q3d4, k0d4, k1d4, k2d4, k3d4, -⟩ := D4.out; obtain ⟨zl, l0, l1⟩ := ((HF.new w3 38 (n * a / m) (-(-(n * a) / m))).below hB4).alloc (.cells #[.int .i64 (n * b / m), .int .i64 (-(-(n * b) / m))] 38))
    | (go_at_call 45; (with_reducible refine (rhull_any (n * a / m) (-(-(n * a) / m)) (n * b / m) (-(-(n * b) / m)) _ (by have := E0.out; unfold I64; omega) (by have := E0.out; unfold I64; omega) (by have := E1.out; unfold I64; omega) (by have := E1.out; unfold I64; omega)).mono ?_); rw [HU.out]; rintro e w5 ⟨rfl, hB5⟩; have Q5 := Bx.mk (D4.out.call hB5); obtain ⟨lt5, q05, q15, q25, q35, k05, k15, k25, k35, -⟩ := Q5.out))
  obtain ⟨r0, r1⟩ := set2 (b := w.heap.size + 1 + 1) (x := .int .i64 0) (y := .int .i64 0) (.int .i64 s1) (.int .i64 s2) k05 k15
  refine bodyPost_ret (ret_range rfl _ _ _ _ _ _ rfl rfl r0 r1) rfl ⟨by rw [hs1.out, hs2.out]; rfl, ((Q5.out.B).setCell (by show w.heap.size ≤ w.heap.size + 1 + 1; omega) _).setCell (by show w.heap.size ≤ w.heap.size + 1 + 1; omega) _⟩

theorem scaled_any (a b n m : Int) (w : World) (ha : I64 a) (hb : I64 b) (hn : I64 n) (hm : I64 m) :
    Calls Try.prog 53 #[.agg #[.int .i64 a, .int .i64 b], .agg #[.int .i64 n, .int .i64 m]] w fun e w' => e = .returned (.tuple #[.agg #[.int .i64 (scaledN a b n m).1, .int .i64 (scaledN a b n m).2.1], .int .i64 (scaledN a b n m).2.2]) ∧ Below w.heap.size w w' := by
  by_cases z : ckRs [(a, b)] = 0
  · have z1 := z
    rw [ckRs_one] at z1
    obtain ⟨a1, a2, b1, b2, _⟩ := ckRg_zero z1
    dsimp only at a1 a2 b1 b2
    by_cases y : ckFs [(n, m)] = 0
    · have y1 := y
      rw [ckFs_one] at y1
      obtain ⟨n1, n2, m1, m2, _⟩ := ckF_zero y1
      dsimp only at n1 n2 m1 m2
      have n3 : -1000000000000000 ≤ n := by omega
      have n4 : n ≤ 1000000000000000 := by omega
      by_cases f0 : sz a * sz n ≤ 1000000000000000 * m
      · by_cases f1 : sz b * sz n ≤ 1000000000000000 * m
        · rw [show scaledN a b n m = _ by unfold scaledN; rw [if_neg (by simpa using z), if_neg (by simpa using y), if_pos ⟨f0, f1⟩]]
          exact scaled_yy a b n m w ha hb hn hm ⟨z⟩ ⟨y⟩ a1 a2 b1 b2 n3 n4 m1 m2 ⟨f0⟩ ⟨f1⟩
        · rw [show scaledN a b n m = _ by unfold scaledN; rw [if_neg (by simpa using z), if_neg (by simpa using y), if_neg (fun h => f1 h.2)]]
          exact scaled_yn a b n m w ha hb hn hm ⟨z⟩ ⟨y⟩ a1 a2 b1 b2 n3 n4 m1 m2 ⟨f0⟩ ⟨by omega⟩
      · rw [show scaledN a b n m = _ by unfold scaledN; rw [if_neg (by simpa using z), if_neg (by simpa using y), if_neg (fun h => f0 h.1)]]
        by_cases f1 : sz b * sz n ≤ 1000000000000000 * m
        · exact scaled_ny a b n m w ha hb hn hm ⟨z⟩ ⟨y⟩ a1 a2 b1 b2 n3 n4 m1 m2 ⟨by omega⟩ ⟨f1⟩
        · exact scaled_nn a b n m w ha hb hn hm ⟨z⟩ ⟨y⟩ a1 a2 b1 b2 n3 n4 m1 m2 ⟨by omega⟩ ⟨by omega⟩
    · rw [show scaledN a b n m = _ by unfold scaledN; rw [if_neg (by simpa using z), if_pos y]]
      exact scaled_f a b n m _ w ha hb hn hm ⟨z⟩ ⟨rfl⟩ (by simpa using y)
  · rw [show scaledN a b n m = _ by unfold scaledN; rw [if_pos z]]
    exact scaled_e a b n m _ w ha hb hn hm ⟨rfl⟩ (by simpa using z)

end Go.Proofs.Ytlkfkekglmjhhaa
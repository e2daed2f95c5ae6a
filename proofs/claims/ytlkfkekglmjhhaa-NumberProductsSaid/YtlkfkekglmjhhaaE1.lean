/- Walks: products of ranges. -/
import Derived.Test.YtlkfkekglmjhhaaDx
import Derived.Test.YtlkfkekglmjhhaaR1
import Derived.LoopN
import Derived.Lib.MinMax
set_option linter.unusedVariables false
set_option linter.unusedSimpArgs false
namespace Go.Proofs.Ytlkfkekglmjhhaa
open Go.RowKit

def min4 (x y z u : Int) : Int := min (min (min x y) z) u
def max4 (x y z u : Int) : Int := max (max (max x y) z) u
theorem run_min4 (x y z u : Int) (ts : Array TypeId) (t : TypeId) (w : World) : (Builtin.min_ ts t #[.int .i64 x, .int .i64 y, .int .i64 z, .int .i64 u]).run Try.prog w = .ok (.int .i64 (min4 x y z u)) w := by
  have e : ∀ a b : Int, (if b < a then b else a) = min a b := fun a b => by rw [Int.min_def]; split <;> split <;> omega
  simp [Builtin.min_, Builtin.min2, e, min4]
theorem run_max4 (x y z u : Int) (ts : Array TypeId) (t : TypeId) (w : World) : (Builtin.max_ ts t #[.int .i64 x, .int .i64 y, .int .i64 z, .int .i64 u]).run Try.prog w = .ok (.int .i64 (max4 x y z u)) w := by
  have e : ∀ a b : Int, (if a < b then b else a) = max a b := fun a b => by rw [Int.max_def]; split <;> split <;> omega
  simp [Builtin.max_, Builtin.max2, e, max4]

/-- A product fits. -/
def fitP (x y : Int) : Prop := sz x * sz y ≤ 1000000000000000 * 1
theorem fit_bd {x y : Int} (h : fitP x y) : -1000000000000000 ≤ y * x ∧ y * x ≤ 1000000000000000 := by
  have : (y * x).natAbs = (sz x * sz y).natAbs := by unfold sz; rw [Int.natAbs_mul, Int.natAbs_mul, Int.natAbs_natCast, Int.natAbs_natCast, Nat.mul_comm]
  unfold fitP at h
  have h0 := Int.mul_nonneg (sz_nonneg x) (sz_nonneg y)
  omega

/-- What lies in memory while the ends are multiplied: both ranges, the result, the four products so far. -/
structure PS (w wr : World) (E : Nat) (a b c d v0 v1 v2 v3 : Int) : Prop where
  lt : w.heap.size + 1 + 1 < E
  sz : E < wr.heap.size
  q0 : wr.cell? ⟨w.heap.size, 0, none⟩ = some (.int .i64 a)
  q1 : wr.cell? ⟨w.heap.size, 1, none⟩ = some (.int .i64 b)
  q2 : wr.cell? ⟨w.heap.size + 1, 0, none⟩ = some (.int .i64 c)
  q3 : wr.cell? ⟨w.heap.size + 1, 1, none⟩ = some (.int .i64 d)
  k0 : wr.cell? ⟨w.heap.size + 1 + 1, 0, none⟩ = some (.int .i64 0)
  k1 : wr.cell? ⟨w.heap.size + 1 + 1, 1, none⟩ = some (.int .i64 0)
  k2 : wr.frozen? ⟨w.heap.size + 1 + 1, 0, none⟩ = false
  k3 : wr.frozen? ⟨w.heap.size + 1 + 1, 1, none⟩ = false
  e0 : wr.cell? ⟨E, 0, none⟩ = some (.int .i64 v0)
  e1 : wr.cell? ⟨E, 1, none⟩ = some (.int .i64 v1)
  e2 : wr.cell? ⟨E, 2, none⟩ = some (.int .i64 v2)
  e3 : wr.cell? ⟨E, 3, none⟩ = some (.int .i64 v3)
  f0 : wr.frozen? ⟨E, 0, none⟩ = false
  f1 : wr.frozen? ⟨E, 1, none⟩ = false
  f2 : wr.frozen? ⟨E, 2, none⟩ = false
  f3 : wr.frozen? ⟨E, 3, none⟩ = false
  B : Below w.heap.size w wr
theorem PS.call {w wr w' : World} {E : Nat} {a b c d v0 v1 v2 v3 : Int} (h : PS w wr E a b c d v0 v1 v2 v3) (k : Below wr.heap.size wr w') : PS w w' E a b c d v0 v1 v2 v3 := by
  obtain ⟨hc, hf⟩ := bcell k
  have l := h.lt
  have s := h.sz
  exact ⟨l, Nat.lt_of_lt_of_le s k.size, (hc _ _ (by omega)).trans h.q0, (hc _ _ (by omega)).trans h.q1, (hc _ _ (by omega)).trans h.q2, (hc _ _ (by omega)).trans h.q3, (hc _ _ (by omega)).trans h.k0, (hc _ _ (by omega)).trans h.k1, (hf _ _ (by omega)).trans h.k2, (hf _ _ (by omega)).trans h.k3,
    (hc _ _ s).trans h.e0, (hc _ _ s).trans h.e1, (hc _ _ s).trans h.e2, (hc _ _ s).trans h.e3, (hf _ _ s).trans h.f0, (hf _ _ s).trans h.f1, (hf _ _ s).trans h.f2, (hf _ _ s).trans h.f3, below_call0 h.B k⟩
theorem PS.alloc {w wr : World} {E : Nat} {a b c d v0 v1 v2 v3 : Int} (h : PS w wr E a b c d v0 v1 v2 v3) (ob : Obj) : PS w (wr.alloc ob) E a b c d v0 v1 v2 v3 := h.call (below_alloc1 wr ob)

theorem PS.set0 {w wr : World} {E : Nat} {a b c d v0 v1 v2 v3 : Int} (h : PS w wr E a b c d v0 v1 v2 v3) (v : Int) : PS w (wr.setCell ⟨E, 0, none⟩ (.int .i64 v)) E a b c d v v1 v2 v3 := by
  have l := h.lt
  have s := h.sz
  exact ⟨l, by simpa [World.setCell] using s, by rw [World.cell?_setCell_other _ _ _ _ (by simp <;> omega)]; exact h.q0, by rw [World.cell?_setCell_other _ _ _ _ (by simp <;> omega)]; exact h.q1, by rw [World.cell?_setCell_other _ _ _ _ (by simp <;> omega)]; exact h.q2, by rw [World.cell?_setCell_other _ _ _ _ (by simp <;> omega)]; exact h.q3, by rw [World.cell?_setCell_other _ _ _ _ (by simp <;> omega)]; exact h.k0, by rw [World.cell?_setCell_other _ _ _ _ (by simp <;> omega)]; exact h.k1, by simp only [World.frozen?_setCell]; exact h.k2, by simp only [World.frozen?_setCell]; exact h.k3,
    by rw [World.cell?_setCell_same' _ _ _ (by rw [h.e0]; rfl)], by rw [World.cell?_setCell_other _ _ _ _ (by simp)]; exact h.e1, by rw [World.cell?_setCell_other _ _ _ _ (by simp)]; exact h.e2, by rw [World.cell?_setCell_other _ _ _ _ (by simp)]; exact h.e3, by simp only [World.frozen?_setCell]; exact h.f0, by simp only [World.frozen?_setCell]; exact h.f1, by simp only [World.frozen?_setCell]; exact h.f2, by simp only [World.frozen?_setCell]; exact h.f3, h.B.setCell (by show w.heap.size ≤ E; omega) _⟩

theorem PS.set1 {w wr : World} {E : Nat} {a b c d v0 v1 v2 v3 : Int} (h : PS w wr E a b c d v0 v1 v2 v3) (v : Int) : PS w (wr.setCell ⟨E, 1, none⟩ (.int .i64 v)) E a b c d v0 v v2 v3 := by
  have l := h.lt
  have s := h.sz
  exact ⟨l, by simpa [World.setCell] using s, by rw [World.cell?_setCell_other _ _ _ _ (by simp <;> omega)]; exact h.q0, by rw [World.cell?_setCell_other _ _ _ _ (by simp <;> omega)]; exact h.q1, by rw [World.cell?_setCell_other _ _ _ _ (by simp <;> omega)]; exact h.q2, by rw [World.cell?_setCell_other _ _ _ _ (by simp <;> omega)]; exact h.q3, by rw [World.cell?_setCell_other _ _ _ _ (by simp <;> omega)]; exact h.k0, by rw [World.cell?_setCell_other _ _ _ _ (by simp <;> omega)]; exact h.k1, by simp only [World.frozen?_setCell]; exact h.k2, by simp only [World.frozen?_setCell]; exact h.k3,
    by rw [World.cell?_setCell_other _ _ _ _ (by simp)]; exact h.e0, by rw [World.cell?_setCell_same' _ _ _ (by rw [h.e1]; rfl)], by rw [World.cell?_setCell_other _ _ _ _ (by simp)]; exact h.e2, by rw [World.cell?_setCell_other _ _ _ _ (by simp)]; exact h.e3, by simp only [World.frozen?_setCell]; exact h.f0, by simp only [World.frozen?_setCell]; exact h.f1, by simp only [World.frozen?_setCell]; exact h.f2, by simp only [World.frozen?_setCell]; exact h.f3, h.B.setCell (by show w.heap.size ≤ E; omega) _⟩

theorem PS.set2 {w wr : World} {E : Nat} {a b c d v0 v1 v2 v3 : Int} (h : PS w wr E a b c d v0 v1 v2 v3) (v : Int) : PS w (wr.setCell ⟨E, 2, none⟩ (.int .i64 v)) E a b c d v0 v1 v v3 := by
  have l := h.lt
  have s := h.sz
  exact ⟨l, by simpa [World.setCell] using s, by rw [World.cell?_setCell_other _ _ _ _ (by simp <;> omega)]; exact h.q0, by rw [World.cell?_setCell_other _ _ _ _ (by simp <;> omega)]; exact h.q1, by rw [World.cell?_setCell_other _ _ _ _ (by simp <;> omega)]; exact h.q2, by rw [World.cell?_setCell_other _ _ _ _ (by simp <;> omega)]; exact h.q3, by rw [World.cell?_setCell_other _ _ _ _ (by simp <;> omega)]; exact h.k0, by rw [World.cell?_setCell_other _ _ _ _ (by simp <;> omega)]; exact h.k1, by simp only [World.frozen?_setCell]; exact h.k2, by simp only [World.frozen?_setCell]; exact h.k3,
    by rw [World.cell?_setCell_other _ _ _ _ (by simp)]; exact h.e0, by rw [World.cell?_setCell_other _ _ _ _ (by simp)]; exact h.e1, by rw [World.cell?_setCell_same' _ _ _ (by rw [h.e2]; rfl)], by rw [World.cell?_setCell_other _ _ _ _ (by simp)]; exact h.e3, by simp only [World.frozen?_setCell]; exact h.f0, by simp only [World.frozen?_setCell]; exact h.f1, by simp only [World.frozen?_setCell]; exact h.f2, by simp only [World.frozen?_setCell]; exact h.f3, h.B.setCell (by show w.heap.size ≤ E; omega) _⟩

theorem PS.set3 {w wr : World} {E : Nat} {a b c d v0 v1 v2 v3 : Int} (h : PS w wr E a b c d v0 v1 v2 v3) (v : Int) : PS w (wr.setCell ⟨E, 3, none⟩ (.int .i64 v)) E a b c d v0 v1 v2 v := by
  have l := h.lt
  have s := h.sz
  exact ⟨l, by simpa [World.setCell] using s, by rw [World.cell?_setCell_other _ _ _ _ (by simp <;> omega)]; exact h.q0, by rw [World.cell?_setCell_other _ _ _ _ (by simp <;> omega)]; exact h.q1, by rw [World.cell?_setCell_other _ _ _ _ (by simp <;> omega)]; exact h.q2, by rw [World.cell?_setCell_other _ _ _ _ (by simp <;> omega)]; exact h.q3, by rw [World.cell?_setCell_other _ _ _ _ (by simp <;> omega)]; exact h.k0, by rw [World.cell?_setCell_other _ _ _ _ (by simp <;> omega)]; exact h.k1, by simp only [World.frozen?_setCell]; exact h.k2, by simp only [World.frozen?_setCell]; exact h.k3,
    by rw [World.cell?_setCell_other _ _ _ _ (by simp)]; exact h.e0, by rw [World.cell?_setCell_other _ _ _ _ (by simp)]; exact h.e1, by rw [World.cell?_setCell_other _ _ _ _ (by simp)]; exact h.e2, by rw [World.cell?_setCell_same' _ _ _ (by rw [h.e3]; rfl)], by simp only [World.frozen?_setCell]; exact h.f0, by simp only [World.frozen?_setCell]; exact h.f1, by simp only [World.frozen?_setCell]; exact h.f2, by simp only [World.frozen?_setCell]; exact h.f3, h.B.setCell (by show w.heap.size ≤ E; omega) _⟩

theorem PS.begin {w w1 : World} {a b c d : Int} (hB : Below ((((w.alloc (.cells #[.int .i64 a, .int .i64 b] 38)).alloc (.cells #[.int .i64 c, .int .i64 d] 38)).alloc (.cells #[.int .i64 0, .int .i64 0] 38)).alloc (.cells #[.int .i64 a, .int .i64 b, .int .i64 c, .int .i64 d] 38)).heap.size ((((w.alloc (.cells #[.int .i64 a, .int .i64 b] 38)).alloc (.cells #[.int .i64 c, .int .i64 d] 38)).alloc (.cells #[.int .i64 0, .int .i64 0] 38)).alloc (.cells #[.int .i64 a, .int .i64 b, .int .i64 c, .int .i64 d] 38)) w1) (T : TypeId) :
    PS w (w1.alloc (.cells #[.int .i64 0, .int .i64 0, .int .i64 0, .int .i64 0] T)) w1.heap.size a b c d 0 0 0 0 := by
  obtain ⟨hc1, hf1⟩ := bcell hB
  have hz1 : w.heap.size + 4 ≤ w1.heap.size := by have := hB.size; simp at this; omega
  obtain ⟨ga, gf⟩ := bcell (below_alloc1 w1 (.cells #[.int .i64 0, .int .i64 0, .int .i64 0, .int .i64 0] T))
  refine ⟨by omega, by simp, ?_, ?_, ?_, ?_, ?_, ?_, ?_, ?_, ?_, ?_, ?_, ?_, ?_, ?_, ?_, ?_, ?_⟩
  iterate 6 (rw [ga _ _ (by omega), hc1 _ _ (by simp <;> omega)]; simp [go_sem, World.cell?_alloc_past])
  iterate 2 (rw [gf _ _ (by omega), hf1 _ _ (by simp <;> omega)]; simp [go_sem, World.frozen?_alloc_past])
  iterate 4 (simp [go_sem])
  iterate 4 (simp [go_sem])
  exact ((((((Below.refl w.heap.size w).alloc (Nat.le_refl _) _).alloc (by simp) _).alloc (by simp; omega) _).alloc (by simp; omega) _).trans (hB.mono (by simp; omega))).alloc (by omega) _

set_option maxRecDepth 100000 in
set_option maxHeartbeats 8000000 in
theorem product_0 (a b c d : Int) (w : World) (z : Bx (ckRs [(a, b), (c, d)] = 0)) (ha : I64 a) (hb : I64 b) (hc : I64 c) (hd : I64 d) (a1 : -1000000000000000 ≤ a) (a2 : a ≤ 1000000000000000) (b1 : -1000000000000000 ≤ b) (b2 : b ≤ 1000000000000000) (c1 : -1000000000000000 ≤ c) (c2 : c ≤ 1000000000000000) (d1 : -1000000000000000 ≤ d) (d2 : d ≤ 1000000000000000)  (hn : Bx (¬ fitP a c)) :
    Calls Try.prog 52 #[.agg #[.int .i64 a, .int .i64 b], .agg #[.int .i64 c, .int .i64 d]] w fun e w' => e = .returned (.tuple #[.agg #[.int .i64 0, .int .i64 0], .int .i64 8]) ∧ Below w.heap.size w w' := by
  have he' : (ckRs [(a, b), (c, d)] != 0) = false := by rw [z.out]; rfl
  have ix0 : ∀ x y w, (Instr.index 104 (.agg #[.int .i64 x, .int .i64 y]) (.int .i64 0)).run Try.prog w = .ok (.int .i64 x) w := fun _ _ _ => by kernel_rfl
  have ix1 : ∀ x y w, (Instr.index 104 (.agg #[.int .i64 x, .int .i64 y]) (.int .i64 1)).run Try.prog w = .ok (.int .i64 y) w := fun _ _ _ => by kernel_rfl
  have hmin := run_min4
  have hmax := run_max4
  go_enter Try.func52, Try.ntmps52
  go_wp2_with (go_at_call 94; refine (checkRanges2 a b c d _ _ (by simp) ha hb hc hd (by simp [go_sem, World.cell?_alloc_past]) (by simp [go_sem, World.cell?_alloc_past]) (by simp [go_sem, World.cell?_alloc_past]) (by simp [go_sem, World.cell?_alloc_past])).mono ?_; rintro e w1 ⟨rfl, hB1⟩; have P0 := Bx.mk (PS.begin hB1 106); obtain ⟨lt0, sz0, q00, q10, q20, q30, k00, k10, k20, k30, e00, e10, e20, e30, f00, f10, f20, f30, -⟩ := P0.out)
  refine wp_loop_rounds 3 ?_
  rw [rounds_succ]
  go_wp2
  refine wp_loop_rounds 3 ?_
  rw [rounds_succ]
  go_wp2_with (go_at_call 90; (with_reducible refine (enclose_no a c 1 _ a1 a2 c1 c2 (by omega) (by omega) ⟨by have := hn.out; unfold fitP at this; omega⟩).mono ?_); rintro e w2 ⟨x, y, rfl, B0⟩; have C0 := Bx.mk ((P0.out).call B0); have D0 := Bx.mk (C0.out.alloc (.cells #[.int .i64 x, .int .i64 y] 38)); obtain ⟨ltc0, szc0, q0c0, q1c0, q2c0, q3c0, k0c0, k1c0, k2c0, k3c0, e0c0, e1c0, e2c0, e3c0, f0c0, f1c0, f2c0, f3c0, -⟩ := C0.out; obtain ⟨ltd0, szd0, q0d0, q1d0, q2d0, q3d0, k0d0, k1d0, k2d0, k3d0, e0d0, e1d0, e2d0, e3d0, f0d0, f1d0, f2d0, f3d0, -⟩ := D0.out)
  obtain ⟨r0, r1⟩ := set2 (b := w.heap.size + 1 + 1) (x := .int .i64 0) (y := .int .i64 0) (.int .i64 0) (.int .i64 0) k0d0 k1d0
  refine bodyPost_ret (ret_range rfl _ _ _ _ _ _ rfl rfl r0 r1) rfl ⟨rfl, ((D0.out.B).setCell (by show w.heap.size ≤ w.heap.size + 1 + 1; omega) _).setCell (by show w.heap.size ≤ w.heap.size + 1 + 1; omega) _⟩

set_option maxRecDepth 100000 in
set_option maxHeartbeats 8000000 in
theorem product_1 (a b c d : Int) (w : World) (z : Bx (ckRs [(a, b), (c, d)] = 0)) (ha : I64 a) (hb : I64 b) (hc : I64 c) (hd : I64 d) (a1 : -1000000000000000 ≤ a) (a2 : a ≤ 1000000000000000) (b1 : -1000000000000000 ≤ b) (b2 : b ≤ 1000000000000000) (c1 : -1000000000000000 ≤ c) (c2 : c ≤ 1000000000000000) (d1 : -1000000000000000 ≤ d) (d2 : d ≤ 1000000000000000) (h0 : Bx (sz a * sz c ≤ 1000000000000000 * 1)) (hn : Bx (¬ fitP a d)) :
    Calls Try.prog 52 #[.agg #[.int .i64 a, .int .i64 b], .agg #[.int .i64 c, .int .i64 d]] w fun e w' => e = .returned (.tuple #[.agg #[.int .i64 0, .int .i64 0], .int .i64 8]) ∧ Below w.heap.size w w' := by
  have he' : (ckRs [(a, b), (c, d)] != 0) = false := by rw [z.out]; rfl
  have ix0 : ∀ x y w, (Instr.index 104 (.agg #[.int .i64 x, .int .i64 y]) (.int .i64 0)).run Try.prog w = .ok (.int .i64 x) w := fun _ _ _ => by kernel_rfl
  have ix1 : ∀ x y w, (Instr.index 104 (.agg #[.int .i64 x, .int .i64 y]) (.int .i64 1)).run Try.prog w = .ok (.int .i64 y) w := fun _ _ _ => by kernel_rfl
  have hmin := run_min4
  have hmax := run_max4
  obtain ⟨g0, g0'⟩ := fit_bd (show fitP a c from h0.out)
  go_enter Try.func52, Try.ntmps52
  go_wp2_with (go_at_call 94; refine (checkRanges2 a b c d _ _ (by simp) ha hb hc hd (by simp [go_sem, World.cell?_alloc_past]) (by simp [go_sem, World.cell?_alloc_past]) (by simp [go_sem, World.cell?_alloc_past]) (by simp [go_sem, World.cell?_alloc_past])).mono ?_; rintro e w1 ⟨rfl, hB1⟩; have P0 := Bx.mk (PS.begin hB1 106); obtain ⟨lt0, sz0, q00, q10, q20, q30, k00, k10, k20, k30, e00, e10, e20, e30, f00, f10, f20, f30, -⟩ := P0.out)
  refine wp_loop_rounds 3 ?_
  rw [rounds_succ]
  go_wp2
  refine wp_loop_rounds 3 ?_
  rw [rounds_succ]
  go_wp2_with (go_at_call 90; (with_reducible refine (enclose_any a c 1 _ a1 a2 c1 c2 (by omega) (by omega) h0).mono ?_); rw [Int.ediv_one, Int.ediv_one, Int.neg_neg]; rintro e w2 ⟨rfl, B0⟩; have C0 := Bx.mk ((P0.out).call B0); have D0 := Bx.mk (C0.out.alloc (.cells #[.int .i64 (c * a), .int .i64 (c * a)] 38)); have P1 := Bx.mk ((C0.out.set0 (c * a)).alloc (.cells #[.int .i64 (c * a), .int .i64 (c * a)] 38)); obtain ⟨ltc0, szc0, q0c0, q1c0, q2c0, q3c0, k0c0, k1c0, k2c0, k3c0, e0c0, e1c0, e2c0, e3c0, f0c0, f1c0, f2c0, f3c0, -⟩ := C0.out; obtain ⟨ltd0, szd0, q0d0, q1d0, q2d0, q3d0, k0d0, k1d0, k2d0, k3d0, e0d0, e1d0, e2d0, e3d0, f0d0, f1d0, f2d0, f3d0, -⟩ := D0.out; obtain ⟨lt1, sz1, q01, q11, q21, q31, k01, k11, k21, k31, e01, e11, e21, e31, f01, f11, f21, f31, -⟩ := P1.out)
  rw [rounds_succ]
  go_wp2_with (go_at_call 90; (with_reducible refine (enclose_no a d 1 _ a1 a2 d1 d2 (by omega) (by omega) ⟨by have := hn.out; unfold fitP at this; omega⟩).mono ?_); rintro e w3 ⟨x, y, rfl, B1⟩; have C1 := Bx.mk ((P1.out).call B1); have D1 := Bx.mk (C1.out.alloc (.cells #[.int .i64 x, .int .i64 y] 38)); obtain ⟨ltc1, szc1, q0c1, q1c1, q2c1, q3c1, k0c1, k1c1, k2c1, k3c1, e0c1, e1c1, e2c1, e3c1, f0c1, f1c1, f2c1, f3c1, -⟩ := C1.out; obtain ⟨ltd1, szd1, q0d1, q1d1, q2d1, q3d1, k0d1, k1d1, k2d1, k3d1, e0d1, e1d1, e2d1, e3d1, f0d1, f1d1, f2d1, f3d1, -⟩ := D1.out)
  obtain ⟨r0, r1⟩ := set2 (b := w.heap.size + 1 + 1) (x := .int .i64 0) (y := .int .i64 0) (.int .i64 0) (.int .i64 0) k0d1 k1d1
  refine bodyPost_ret (ret_range rfl _ _ _ _ _ _ rfl rfl r0 r1) rfl ⟨rfl, ((D1.out.B).setCell (by show w.heap.size ≤ w.heap.size + 1 + 1; omega) _).setCell (by show w.heap.size ≤ w.heap.size + 1 + 1; omega) _⟩

set_option maxRecDepth 100000 in
set_option maxHeartbeats 8000000 in
theorem product_2 (a b c d : Int) (w : World) (z : Bx (ckRs [(a, b), (c, d)] = 0)) (ha : I64 a) (hb : I64 b) (hc : I64 c) (hd : I64 d) (a1 : -1000000000000000 ≤ a) (a2 : a ≤ 1000000000000000) (b1 : -1000000000000000 ≤ b) (b2 : b ≤ 1000000000000000) (c1 : -1000000000000000 ≤ c) (c2 : c ≤ 1000000000000000) (d1 : -1000000000000000 ≤ d) (d2 : d ≤ 1000000000000000) (h0 : Bx (sz a * sz c ≤ 1000000000000000 * 1)) (h1 : Bx (sz a * sz d ≤ 1000000000000000 * 1)) (hn : Bx (¬ fitP b c)) :
    Calls Try.prog 52 #[.agg #[.int .i64 a, .int .i64 b], .agg #[.int .i64 c, .int .i64 d]] w fun e w' => e = .returned (.tuple #[.agg #[.int .i64 0, .int .i64 0], .int .i64 8]) ∧ Below w.heap.size w w' := by
  have he' : (ckRs [(a, b), (c, d)] != 0) = false := by rw [z.out]; rfl
  have ix0 : ∀ x y w, (Instr.index 104 (.agg #[.int .i64 x, .int .i64 y]) (.int .i64 0)).run Try.prog w = .ok (.int .i64 x) w := fun _ _ _ => by kernel_rfl
  have ix1 : ∀ x y w, (Instr.index 104 (.agg #[.int .i64 x, .int .i64 y]) (.int .i64 1)).run Try.prog w = .ok (.int .i64 y) w := fun _ _ _ => by kernel_rfl
  have hmin := run_min4
  have hmax := run_max4
  obtain ⟨g0, g0'⟩ := fit_bd (show fitP a c from h0.out)
  obtain ⟨g1, g1'⟩ := fit_bd (show fitP a d from h1.out)
  go_enter Try.func52, Try.ntmps52
  go_wp2_with (go_at_call 94; refine (checkRanges2 a b c d _ _ (by simp) ha hb hc hd (by simp [go_sem, World.cell?_alloc_past]) (by simp [go_sem, World.cell?_alloc_past]) (by simp [go_sem, World.cell?_alloc_past]) (by simp [go_sem, World.cell?_alloc_past])).mono ?_; rintro e w1 ⟨rfl, hB1⟩; have P0 := Bx.mk (PS.begin hB1 106); obtain ⟨lt0, sz0, q00, q10, q20, q30, k00, k10, k20, k30, e00, e10, e20, e30, f00, f10, f20, f30, -⟩ := P0.out)
  refine wp_loop_rounds 3 ?_
  rw [rounds_succ]
  go_wp2
  refine wp_loop_rounds 3 ?_
  rw [rounds_succ]
  go_wp2_with (go_at_call 90; (with_reducible refine (enclose_any a c 1 _ a1 a2 c1 c2 (by omega) (by omega) h0).mono ?_); rw [Int.ediv_one, Int.ediv_one, Int.neg_neg]; rintro e w2 ⟨rfl, B0⟩; have C0 := Bx.mk ((P0.out).call B0); have D0 := Bx.mk (C0.out.alloc (.cells #[.int .i64 (c * a), .int .i64 (c * a)] 38)); have P1 := Bx.mk ((C0.out.set0 (c * a)).alloc (.cells #[.int .i64 (c * a), .int .i64 (c * a)] 38)); obtain ⟨ltc0, szc0, q0c0, q1c0, q2c0, q3c0, k0c0, k1c0, k2c0, k3c0, e0c0, e1c0, e2c0, e3c0, f0c0, f1c0, f2c0, f3c0, -⟩ := C0.out; obtain ⟨ltd0, szd0, q0d0, q1d0, q2d0, q3d0, k0d0, k1d0, k2d0, k3d0, e0d0, e1d0, e2d0, e3d0, f0d0, f1d0, f2d0, f3d0, -⟩ := D0.out; obtain ⟨lt1, sz1, q01, q11, q21, q31, k01, k11, k21, k31, e01, e11, e21, e31, f01, f11, f21, f31, -⟩ := P1.out)
  rw [rounds_succ]
  go_wp2_with (go_at_call 90; (with_reducible refine (enclose_any a d 1 _ a1 a2 d1 d2 (by omega) (by omega) h1).mono ?_); rw [Int.ediv_one, Int.ediv_one, Int.neg_neg]; rintro e w3 ⟨rfl, B1⟩; have C1 := Bx.mk ((P1.out).call B1); have D1 := Bx.mk (C1.out.alloc (.cells #[.int .i64 (d * a), .int .i64 (d * a)] 38)); have P2 := Bx.mk ((C1.out.set1 (d * a)).alloc (.cells #[.int .i64 (d * a), .int .i64 (d * a)] 38)); obtain ⟨ltc1, szc1, q0c1, q1c1, q2c1, q3c1, k0c1, k1c1, k2c1, k3c1, e0c1, e1c1, e2c1, e3c1, f0c1, f1c1, f2c1, f3c1, -⟩ := C1.out; obtain ⟨ltd1, szd1, q0d1, q1d1, q2d1, q3d1, k0d1, k1d1, k2d1, k3d1, e0d1, e1d1, e2d1, e3d1, f0d1, f1d1, f2d1, f3d1, -⟩ := D1.out; obtain ⟨lt2, sz2, q02, q12, q22, q32, k02, k12, k22, k32, e02, e12, e22, e32, f02, f12, f22, f32, -⟩ := P2.out)
  rw [rounds_succ]
  go_wp2
  rw [rounds_succ]
  go_wp2
  refine wp_loop_rounds 3 ?_
  rw [rounds_succ]
  go_wp2_with (go_at_call 90; (with_reducible refine (enclose_no b c 1 _ b1 b2 c1 c2 (by omega) (by omega) ⟨by have := hn.out; unfold fitP at this; omega⟩).mono ?_); rintro e w4 ⟨x, y, rfl, B2⟩; have C2 := Bx.mk ((P2.out).call B2); have D2 := Bx.mk (C2.out.alloc (.cells #[.int .i64 x, .int .i64 y] 38)); obtain ⟨ltc2, szc2, q0c2, q1c2, q2c2, q3c2, k0c2, k1c2, k2c2, k3c2, e0c2, e1c2, e2c2, e3c2, f0c2, f1c2, f2c2, f3c2, -⟩ := C2.out; obtain ⟨ltd2, szd2, q0d2, q1d2, q2d2, q3d2, k0d2, k1d2, k2d2, k3d2, e0d2, e1d2, e2d2, e3d2, f0d2, f1d2, f2d2, f3d2, -⟩ := D2.out)
  obtain ⟨r0, r1⟩ := set2 (b := w.heap.size + 1 + 1) (x := .int .i64 0) (y := .int .i64 0) (.int .i64 0) (.int .i64 0) k0d2 k1d2
  refine bodyPost_ret (ret_range rfl _ _ _ _ _ _ rfl rfl r0 r1) rfl ⟨rfl, ((D2.out.B).setCell (by show w.heap.size ≤ w.heap.size + 1 + 1; omega) _).setCell (by show w.heap.size ≤ w.heap.size + 1 + 1; omega) _⟩

set_option maxRecDepth 100000 in
set_option maxHeartbeats 8000000 in
theorem product_3 (a b c d : Int) (w : World) (z : Bx (ckRs [(a, b), (c, d)] = 0)) (ha : I64 a) (hb : I64 b) (hc : I64 c) (hd : I64 d) (a1 : -1000000000000000 ≤ a) (a2 : a ≤ 1000000000000000) (b1 : -1000000000000000 ≤ b) (b2 : b ≤ 1000000000000000) (c1 : -1000000000000000 ≤ c) (c2 : c ≤ 1000000000000000) (d1 : -1000000000000000 ≤ d) (d2 : d ≤ 1000000000000000) (h0 : Bx (sz a * sz c ≤ 1000000000000000 * 1)) (h1 : Bx (sz a * sz d ≤ 1000000000000000 * 1)) (h2 : Bx (sz b * sz c ≤ 1000000000000000 * 1)) (hn : Bx (¬ fitP b d)) :
    Calls Try.prog 52 #[.agg #[.int .i64 a, .int .i64 b], .agg #[.int .i64 c, .int .i64 d]] w fun e w' => e = .returned (.tuple #[.agg #[.int .i64 0, .int .i64 0], .int .i64 8]) ∧ Below w.heap.size w w' := by
  have he' : (ckRs [(a, b), (c, d)] != 0) = false := by rw [z.out]; rfl
  have ix0 : ∀ x y w, (Instr.index 104 (.agg #[.int .i64 x, .int .i64 y]) (.int .i64 0)).run Try.prog w = .ok (.int .i64 x) w := fun _ _ _ => by kernel_rfl
  have ix1 : ∀ x y w, (Instr.index 104 (.agg #[.int .i64 x, .int .i64 y]) (.int .i64 1)).run Try.prog w = .ok (.int .i64 y) w := fun _ _ _ => by kernel_rfl
  have hmin := run_min4
  have hmax := run_max4
  obtain ⟨g0, g0'⟩ := fit_bd (show fitP a c from h0.out)
  obtain ⟨g1, g1'⟩ := fit_bd (show fitP a d from h1.out)
  obtain ⟨g2, g2'⟩ := fit_bd (show fitP b c from h2.out)
  go_enter Try.func52, Try.ntmps52
  go_wp2_with (go_at_call 94; refine (checkRanges2 a b c d _ _ (by simp) ha hb hc hd (by simp [go_sem, World.cell?_alloc_past]) (by simp [go_sem, World.cell?_alloc_past]) (by simp [go_sem, World.cell?_alloc_past]) (by simp [go_sem, World.cell?_alloc_past])).mono ?_; rintro e w1 ⟨rfl, hB1⟩; have P0 := Bx.mk (PS.begin hB1 106); obtain ⟨lt0, sz0, q00, q10, q20, q30, k00, k10, k20, k30, e00, e10, e20, e30, f00, f10, f20, f30, -⟩ := P0.out)
  refine wp_loop_rounds 3 ?_
  rw [rounds_succ]
  go_wp2
  refine wp_loop_rounds 3 ?_
  rw [rounds_succ]
  go_wp2_with (go_at_call 90; (with_reducible refine (enclose_any a c 1 _ a1 a2 c1 c2 (by omega) (by omega) h0).mono ?_); rw [Int.ediv_one, Int.ediv_one, Int.neg_neg]; rintro e w2 ⟨rfl, B0⟩; have C0 := Bx.mk ((P0.out).call B0); have D0 := Bx.mk (C0.out.alloc (.cells #[.int .i64 (c * a), .int .i64 (c * a)] 38)); have P1 := Bx.mk ((C0.out.set0 (c * a)).alloc (.cells #[.int .i64 (c * a), .int .i64 (c * a)] 38)); obtain ⟨ltc0, szc0, q0c0, q1c0, q2c0, q3c0, k0c0, k1c0, k2c0, k3c0, e0c0, e1c0, e2c0, e3c0, f0c0, f1c0, f2c0, f3c0, -⟩ := C0.out; obtain ⟨ltd0, szd0, q0d0, q1d0, q2d0, q3d0, k0d0, k1d0, k2d0, k3d0, e0d0, e1d0, e2d0, e3d0, f0d0, f1d0, f2d0, f3d0, -⟩ := D0.out; obtain ⟨lt1, sz1, q01, q11, q21, q31, k01, k11, k21, k31, e01, e11, e21, e31, f01, f11, f21, f31, -⟩ := P1.out)
  rw [rounds_succ]
  go_wp2_with (go_at_call 90; (with_reducible refine (enclose_any a d 1 _ a1 a2 d1 d2 (by omega) (by omega) h1).mono ?_); rw [Int.ediv_one, Int.ediv_one, Int.neg_neg]; rintro e w3 ⟨rfl, B1⟩; have C1 := Bx.mk ((P1.out).call B1); have D1 := Bx.mk (C1.out.alloc (.cells #[.int .i64 (d * a), .int .i64 (d * a)] 38)); have P2 := Bx.mk ((C1.out.set1 (d * a)).alloc (.cells #[.int .i64 (d * a), .int .i64 (d * a)] 38)); obtain ⟨ltc1, szc1, q0c1, q1c1, q2c1, q3c1, k0c1, k1c1, k2c1, k3c1, e0c1, e1c1, e2c1, e3c1, f0c1, f1c1, f2c1, f3c1, -⟩ := C1.out; obtain ⟨ltd1, szd1, q0d1, q1d1, q2d1, q3d1, k0d1, k1d1, k2d1, k3d1, e0d1, e1d1, e2d1, e3d1, f0d1, f1d1, f2d1, f3d1, -⟩ := D1.out; obtain ⟨lt2, sz2, q02, q12, q22, q32, k02, k12, k22, k32, e02, e12, e22, e32, f02, f12, f22, f32, -⟩ := P2.out)
  rw [rounds_succ]
  go_wp2
  rw [rounds_succ]
  go_wp2
  refine wp_loop_rounds 3 ?_
  rw [rounds_succ]
  go_wp2_with (go_at_call 90; (with_reducible refine (enclose_any b c 1 _ b1 b2 c1 c2 (by omega) (by omega) h2).mono ?_); rw [Int.ediv_one, Int.ediv_one, Int.neg_neg]; rintro e w4 ⟨rfl, B2⟩; have C2 := Bx.mk ((P2.out).call B2); have D2 := Bx.mk (C2.out.alloc (.cells #[.int .i64 (c * b), .int .i64 (c * b)] 38)); have P3 := Bx.mk ((C2.out.set2 (c * b)).alloc (.cells #[.int .i64 (c * b), .int .i64 (c * b)] 38)); obtain ⟨ltc2, szc2, q0c2, q1c2, q2c2, q3c2, k0c2, k1c2, k2c2, k3c2, e0c2, e1c2, e2c2, e3c2, f0c2, f1c2, f2c2, f3c2, -⟩ := C2.out; obtain ⟨ltd2, szd2, q0d2, q1d2, q2d2, q3d2, k0d2, k1d2, k2d2, k3d2, e0d2, e1d2, e2d2, e3d2, f0d2, f1d2, f2d2, f3d2, -⟩ := D2.out; obtain ⟨lt3, sz3, q03, q13, q23, q33, k03, k13, k23, k33, e03, e13, e23, e33, f03, f13, f23, f33, -⟩ := P3.out)
  rw [rounds_succ]
  go_wp2_with (go_at_call 90; (with_reducible refine (enclose_no b d 1 _ b1 b2 d1 d2 (by omega) (by omega) ⟨by have := hn.out; unfold fitP at this; omega⟩).mono ?_); rintro e w5 ⟨x, y, rfl, B3⟩; have C3 := Bx.mk ((P3.out).call B3); have D3 := Bx.mk (C3.out.alloc (.cells #[.int .i64 x, .int .i64 y] 38)); obtain ⟨ltc3, szc3, q0c3, q1c3, q2c3, q3c3, k0c3, k1c3, k2c3, k3c3, e0c3, e1c3, e2c3, e3c3, f0c3, f1c3, f2c3, f3c3, -⟩ := C3.out; obtain ⟨ltd3, szd3, q0d3, q1d3, q2d3, q3d3, k0d3, k1d3, k2d3, k3d3, e0d3, e1d3, e2d3, e3d3, f0d3, f1d3, f2d3, f3d3, -⟩ := D3.out)
  obtain ⟨r0, r1⟩ := set2 (b := w.heap.size + 1 + 1) (x := .int .i64 0) (y := .int .i64 0) (.int .i64 0) (.int .i64 0) k0d3 k1d3
  refine bodyPost_ret (ret_range rfl _ _ _ _ _ _ rfl rfl r0 r1) rfl ⟨rfl, ((D3.out.B).setCell (by show w.heap.size ≤ w.heap.size + 1 + 1; omega) _).setCell (by show w.heap.size ≤ w.heap.size + 1 + 1; omega) _⟩

set_option maxRecDepth 100000 in
set_option maxHeartbeats 8000000 in
theorem product_4 (a b c d : Int) (w : World) (z : Bx (ckRs [(a, b), (c, d)] = 0)) (ha : I64 a) (hb : I64 b) (hc : I64 c) (hd : I64 d) (a1 : -1000000000000000 ≤ a) (a2 : a ≤ 1000000000000000) (b1 : -1000000000000000 ≤ b) (b2 : b ≤ 1000000000000000) (c1 : -1000000000000000 ≤ c) (c2 : c ≤ 1000000000000000) (d1 : -1000000000000000 ≤ d) (d2 : d ≤ 1000000000000000) (h0 : Bx (sz a * sz c ≤ 1000000000000000 * 1)) (h1 : Bx (sz a * sz d ≤ 1000000000000000 * 1)) (h2 : Bx (sz b * sz c ≤ 1000000000000000 * 1)) (h3 : Bx (sz b * sz d ≤ 1000000000000000 * 1)) :
    Calls Try.prog 52 #[.agg #[.int .i64 a, .int .i64 b], .agg #[.int .i64 c, .int .i64 d]] w fun e w' => e = .returned (.tuple #[.agg #[.int .i64 (min4 (c * a) (d * a) (c * b) (d * b)), .int .i64 (max4 (c * a) (d * a) (c * b) (d * b))], .int .i64 0]) ∧ Below w.heap.size w w' := by
  have he' : (ckRs [(a, b), (c, d)] != 0) = false := by rw [z.out]; rfl
  have ix0 : ∀ x y w, (Instr.index 104 (.agg #[.int .i64 x, .int .i64 y]) (.int .i64 0)).run Try.prog w = .ok (.int .i64 x) w := fun _ _ _ => by kernel_rfl
  have ix1 : ∀ x y w, (Instr.index 104 (.agg #[.int .i64 x, .int .i64 y]) (.int .i64 1)).run Try.prog w = .ok (.int .i64 y) w := fun _ _ _ => by kernel_rfl
  have hmin := run_min4
  have hmax := run_max4
  obtain ⟨g0, g0'⟩ := fit_bd (show fitP a c from h0.out)
  obtain ⟨g1, g1'⟩ := fit_bd (show fitP a d from h1.out)
  obtain ⟨g2, g2'⟩ := fit_bd (show fitP b c from h2.out)
  obtain ⟨g3, g3'⟩ := fit_bd (show fitP b d from h3.out)
  go_enter Try.func52, Try.ntmps52
  go_wp2_with (go_at_call 94; refine (checkRanges2 a b c d _ _ (by simp) ha hb hc hd (by simp [go_sem, World.cell?_alloc_past]) (by simp [go_sem, World.cell?_alloc_past]) (by simp [go_sem, World.cell?_alloc_past]) (by simp [go_sem, World.cell?_alloc_past])).mono ?_; rintro e w1 ⟨rfl, hB1⟩; have P0 := Bx.mk (PS.begin hB1 106); obtain ⟨lt0, sz0, q00, q10, q20, q30, k00, k10, k20, k30, e00, e10, e20, e30, f00, f10, f20, f30, -⟩ := P0.out)
  refine wp_loop_rounds 3 ?_
  rw [rounds_succ]
  go_wp2
  refine wp_loop_rounds 3 ?_
  rw [rounds_succ]
  go_wp2_with (go_at_call 90; (with_reducible refine (enclose_any a c 1 _ a1 a2 c1 c2 (by omega) (by omega) h0).mono ?_); rw [Int.ediv_one, Int.ediv_one, Int.neg_neg]; rintro e w2 ⟨rfl, B0⟩; have C0 := Bx.mk ((P0.out).call B0); have D0 := Bx.mk (C0.out.alloc (.cells #[.int .i64 (c * a), .int .i64 (c * a)] 38)); have P1 := Bx.mk ((C0.out.set0 (c * a)).alloc (.cells #[.int .i64 (c * a), .int .i64 (c * a)] 38)); obtain ⟨ltc0, szc0, q0c0, q1c0, q2c0, q3c0, k0c0, k1c0, k2c0, k3c0, e0c0, e1c0, e2c0, e3c0, f0c0, f1c0, f2c0, f3c0, -⟩ := C0.out; obtain ⟨ltd0, szd0, q0d0, q1d0, q2d0, q3d0, k0d0, k1d0, k2d0, k3d0, e0d0, e1d0, e2d0, e3d0, f0d0, f1d0, f2d0, f3d0, -⟩ := D0.out; obtain ⟨lt1, sz1, q01, q11, q21, q31, k01, k11, k21, k31, e01, e11, e21, e31, f01, f11, f21, f31, -⟩ := P1.out)
  rw [rounds_succ]
  go_wp2_with (go_at_call 90; (with_reducible refine (enclose_any a d 1 _ a1 a2 d1 d2 (by omega) (by omega) h1).mono ?_); rw [Int.ediv_one, Int.ediv_one, Int.neg_neg]; rintro e w3 ⟨rfl, B1⟩; have C1 := Bx.mk ((P1.out).call B1); have D1 := Bx.mk (C1.out.alloc (.cells #[.int .i64 (d * a), .int .i64 (d * a)] 38)); have P2 := Bx.mk ((C1.out.set1 (d * a)).alloc (.cells #[.int .i64 (d * a), .int .i64 (d * a)] 38)); obtain ⟨ltc1, szc1, q0c1, q1c1, q2c1, q3c1, k0c1, k1c1, k2c1, k3c1, e0c1, e1c1, e2c1, e3c1, f0c1, f1c1, f2c1, f3c1, -⟩ := C1.out; obtain ⟨ltd1, szd1, q0d1, q1d1, q2d1, q3d1, k0d1, k1d1, k2d1, k3d1, e0d1, e1d1, e2d1, e3d1, f0d1, f1d1, f2d1, f3d1, -⟩ := D1.out; obtain ⟨lt2, sz2, q02, q12, q22, q32, k02, k12, k22, k32, e02, e12, e22, e32, f02, f12, f22, f32, -⟩ := P2.out)
  rw [rounds_succ]
  go_wp2
  rw [rounds_succ]
  go_wp2
  refine wp_loop_rounds 3 ?_
  rw [rounds_succ]
  go_wp2_with (go_at_call 90; (with_reducible refine (enclose_any b c 1 _ b1 b2 c1 c2 (by omega) (by omega) h2).mono ?_); rw [Int.ediv_one, Int.ediv_one, Int.neg_neg]; rintro e w4 ⟨rfl, B2⟩; have C2 := Bx.mk ((P2.out).call B2); have D2 := Bx.mk (C2.out.alloc (.cells #[.int .i64 (c * b), .int .i64 (c * b)] 38)); have P3 := Bx.mk ((C2.out.set2 (c * b)).alloc (.cells #[.int .i64 (c * b), .int .i64 (c * b)] 38)); obtain ⟨ltc2, szc2, q0c2, q1c2, q2c2, q3c2, k0c2, k1c2, k2c2, k3c2, e0c2, e1c2, e2c2, e3c2, f0c2, f1c2, f2c2, f3c2, -⟩ := C2.out; obtain ⟨ltd2, szd2, q0d2, q1d2, q2d2, q3d2, k0d2, k1d2, k2d2, k3d2, e0d2, e1d2, e2d2, e3d2, f0d2, f1d2, f2d2, f3d2, -⟩ := D2.out; obtain ⟨lt3, sz3, q03, q13, q23, q33, k03, k13, k23, k33, e03, e13, e23, e33, f03, f13, f23, f33, -⟩ := P3.out)
  rw [rounds_succ]
  go_wp2_with (go_at_call 90; (with_reducible refine (enclose_any b d 1 _ b1 b2 d1 d2 (by omega) (by omega) h3).mono ?_); rw [Int.ediv_one, Int.ediv_one, Int.neg_neg]; rintro e w5 ⟨rfl, B3⟩; have C3 := Bx.mk ((P3.out).call B3); have D3 := Bx.mk (C3.out.alloc (.cells #[.int .i64 (d * b), .int .i64 (d * b)] 38)); have P4 := Bx.mk ((C3.out.set3 (d * b)).alloc (.cells #[.int .i64 (d * b), .int .i64 (d * b)] 38)); obtain ⟨ltc3, szc3, q0c3, q1c3, q2c3, q3c3, k0c3, k1c3, k2c3, k3c3, e0c3, e1c3, e2c3, e3c3, f0c3, f1c3, f2c3, f3c3, -⟩ := C3.out; obtain ⟨ltd3, szd3, q0d3, q1d3, q2d3, q3d3, k0d3, k1d3, k2d3, k3d3, e0d3, e1d3, e2d3, e3d3, f0d3, f1d3, f2d3, f3d3, -⟩ := D3.out; obtain ⟨lt4, sz4, q04, q14, q24, q34, k04, k14, k24, k34, e04, e14, e24, e34, f04, f14, f24, f34, -⟩ := P4.out)
  rw [rounds_succ]
  go_wp2
  rw [rounds_succ]
  go_wp2
  obtain ⟨r0, r1⟩ := set2 (b := w.heap.size + 1 + 1) (x := .int .i64 0) (y := .int .i64 0) (.int .i64 (min4 (c * a) (d * a) (c * b) (d * b))) (.int .i64 (max4 (c * a) (d * a) (c * b) (d * b))) k04 k14
  refine bodyPost_ret (ret_range rfl _ _ _ _ _ _ rfl rfl r0 r1) rfl ⟨rfl, ?_⟩
  exact ((P4.out.B).setCell (by show w.heap.size ≤ w.heap.size + 1 + 1; omega) _).setCell (by show w.heap.size ≤ w.heap.size + 1 + 1; omega) _

end Go.Proofs.Ytlkfkekglmjhhaa
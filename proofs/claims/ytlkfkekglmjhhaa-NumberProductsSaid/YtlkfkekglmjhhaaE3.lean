/- Walks: the reference's products of ranges. -/
import Derived.Test.YtlkfkekglmjhhaaE2
import Derived.Test.YtlkfkekglmjhhaaP3
import Derived.Deep.RegionHeld3
set_option linter.unusedVariables false
set_option linter.unusedSimpArgs false
namespace Go.Proofs.Ytlkfkekglmjhhaa
open Go.RowKit

/-- The world in which the reference begins: both ranges, the result. -/
abbrev W3 (w : World) (a b c d : Int) : World := ((w.alloc (.cells #[.int .i64 a, .int .i64 b] 38)).alloc (.cells #[.int .i64 c, .int .i64 d] 38)).alloc (.cells #[.int .i64 0, .int .i64 0] 38)
theorem QS.of {w wr : World} {a b c d : Int} (h : Below (W3 w a b c d).heap.size (W3 w a b c d) wr) : QS w wr a b c d := (QS.new w a b c d 38 38 38).call h
/-- A list of ints that the call made itself. -/
def OW (w wr : World) (v : Value) (l : List Int) : Prop := wr.ownsRow (w.heap.size + 1 + 1 + 1) 3 1 v l.length (l.map (Value.int .i64))
theorem OW.nil (w wr : World) : OW w wr (.slice none 0 0) [] := ⟨rfl, .inl ⟨rfl, rfl⟩⟩
theorem OW.form {w wr : World} {v : Value} {l : List Int} (h : OW w wr v l) (hl : 0 < l.length) : ∃ g cap, v = .slice (some ⟨g, 0, none⟩) l.length cap ∧ w.heap.size + 1 + 1 + 1 ≤ g ∧ g < wr.heap.size := by
  rcases h.2 with ⟨_, h2⟩ | ⟨g', cap', cur', h1, h2, h3, _⟩
  · exfalso
    have := h.1
    rw [List.length_map] at this
    omega
  · refine ⟨g', cap', h1, h2, ?_⟩
    rcases Nat.lt_or_ge g' wr.heap.size with h | h
    · exact h
    · rw [Array.getElem?_eq_none h] at h3; cases h3
theorem OW.at {w wr : World} {g cap : Nat} {l : List Int} (h : OW w wr (.slice (some ⟨g, 0, none⟩) l.length cap) l) (j : Nat) (hj : j < l.length) : wr.cell? ⟨g, j, none⟩ = some (.int .i64 (l.getD j 0)) := by
  have := World.ownsRow.cellAt h j (by omega)
  rw [this]
  simp [hj]
theorem one_cell (wr : World) (x : Int) : ∀ j u, ([Value.int .i64 x] : List Value)[j]? = some u → (wr.alloc (.cells #[.int .i64 x] 3)).cell? ((⟨wr.heap.size, 0, none⟩ : Addr).add j) = some u := fun j u hu => by
  have hj : j = 0 := by
    rcases j with _ | j
    · rfl
    · simp at hu
  subst hj
  simp at hu
  subst hu
  have hadd : (⟨wr.heap.size, 0, none⟩ : Addr).add 0 = ⟨wr.heap.size, 0, none⟩ := by unfold Addr.add; split <;> simp_all
  rw [hadd]; simp [go_sem]
theorem one_cell0 (w : World) (a b c d x : Int) : ∀ j u, ([Value.int .i64 x] : List Value)[j]? = some u → ((W3 w a b c d).alloc (.cells #[.int .i64 x] 3)).cell? ((⟨w.heap.size + 1 + 1 + 1, 0, none⟩ : Addr).add j) = some u := by
  have h := one_cell (W3 w a b c d) x
  rw [show (W3 w a b c d).heap.size = w.heap.size + 1 + 1 + 1 by simp] at h
  exact h
theorem keep2 {w : World} {g b j : Nat} {v x y : Value} (h : w.cell? ⟨g, j, none⟩ = some v) (hne : g ≠ b) : ((w.setCell ⟨b, 0, none⟩ x).setCell ⟨b, 1, none⟩ y).cell? ⟨g, j, none⟩ = some v := by
  rw [World.cell?_setCell_other _ _ _ _ (by simp <;> omega), World.cell?_setCell_other _ _ _ _ (by simp <;> omega)]; exact h
theorem OW.grown {w wr w1 : World} {a b c d : Int} {v : Value} {l : List Int} {o : Obj} (h : OW w wr v l) (hB : Below (W3 w a b c d).heap.size (W3 w a b c d) wr) (hg : (wr.alloc o).grownBy w1 v.ownBlock) : Below (W3 w a b c d).heap.size (W3 w a b c d) w1 :=
  (hB.alloc hB.size _).grown hg (by have := hB.size; simp at this ⊢; omega) (fun j hj => by
    rcases h.2 with ⟨h1, _⟩ | ⟨g', cap', cur', h1, h2, _⟩
    · rw [h1] at hj; simp [Value.ownBlock] at hj
    · rw [h1] at hj; simp [Value.ownBlock] at hj; simp; omega)
theorem ne_of {y : Int} (h : (y != 0) = true) : y ≠ 0 := by simpa using h
theorem sz_pos' {y : Int} (h : (y != 0) = true) : 0 < sz y := by have := ne_of h; unfold sz; omega
/-- What the reference tests: a product is too great. -/
theorem over_iff {x y : Int} (hy : y ≠ 0) : 1000000000000000 / sz y < sz x ↔ ¬ sz x * sz y ≤ 1000000000000000 * 1 := by
  have h : 0 < sz y := by unfold sz; omega
  rw [Int.ediv_lt_iff_lt_mul h]; omega
theorem fit_zero (x : Int) {y : Int} (hy : y = 0) : sz x * sz y ≤ 1000000000000000 * 1 := by subst hy; show sz x * 0 ≤ _; omega

set_option maxRecDepth 100000 in
set_option maxHeartbeats 8000000 in
theorem productR_0nn (a b c d : Int) (w : World) (a1 : -1000000000000000 ≤ a) (a2 : a ≤ 1000000000000000) (b1 : -1000000000000000 ≤ b) (b2 : b ≤ 1000000000000000) (c1 : -1000000000000000 ≤ c) (c2 : c ≤ 1000000000000000) (d1 : -1000000000000000 ≤ d) (d2 : d ≤ 1000000000000000)  (hn : Bx (¬ sz a * sz c ≤ 1000000000000000 * 1)) (yc : (c != 0) = true) (yd : (d != 0) = true) :
    Calls Try.prog 54 #[.agg #[.int .i64 a, .int .i64 b], .agg #[.int .i64 c, .int .i64 d]] w fun e w' => e = .returned (.tuple #[.agg #[.int .i64 0, .int .i64 0], .int .i64 8]) ∧ Below w.heap.size w w' := by
  obtain ⟨i0, hi0, hz0, hz1, hz2⟩ := info_intc_parts
  have ix0 : ∀ x y w, (Instr.index 104 (.agg #[.int .i64 x, .int .i64 y]) (.int .i64 0)).run Try.prog w = .ok (.int .i64 x) w := fun _ _ _ => by kernel_rfl
  have ix1 : ∀ x y w, (Instr.index 104 (.agg #[.int .i64 x, .int .i64 y]) (.int .i64 1)).run Try.prog w = .ok (.int .i64 y) w := fun _ _ _ => by kernel_rfl
  have hmin := run_min4
  have hmax := run_max4
  have sa := sz_nonneg a
  have ta := sz_le a1 a2
  have sb := sz_nonneg b
  have tb := sz_le b1 b2
  have sc := sz_nonneg c
  have tc := sz_le c1 c2
  have sd := sz_nonneg d
  have td := sz_le d1 d2
  have pc := sz_pos' yc
  have nc : ¬ sz c = 0 := by omega
  have rc : 0 ≤ 1000000000000000 / sz c := Int.ediv_nonneg (by omega) sc
  have uc : 1000000000000000 / sz c ≤ 1000000000000000 := Int.ediv_le_self _ (by omega)
  have pd := sz_pos' yd
  have nd : ¬ sz d = 0 := by omega
  have rd : 0 ≤ 1000000000000000 / sz d := Int.ediv_nonneg (by omega) sd
  have ud : 1000000000000000 / sz d ≤ 1000000000000000 := Int.ediv_le_self _ (by omega)
  have T0 : 1000000000000000 / sz c < sz a := (over_iff (ne_of yc)).2 hn.out
  have M0 := Bx.mk (Below.refl (W3 w a b c d).heap.size (W3 w a b c d))
  obtain ⟨lt0, q00, q10, q20, q30, k00, k10, k20, k30, -⟩ := QS.of M0.out
  have O0 := Bx.mk (OW.nil w (W3 w a b c d))
  go_enter Try.func54, Try.ntmps54
  go_wp2
  refine wp_loop_rounds 3 ?_
  rw [rounds_succ]
  go_wp2
  refine wp_loop_rounds 3 ?_
  rw [rounds_succ]
  go_wp2_with (first
    | (go_at_call 63; (with_reducible refine (absB_any a _ (by omega) (by omega)).mono ?_); rintro e wx ⟨rfl, rfl⟩)
    | (go_at_call 63; (with_reducible refine (absB_any b _ (by omega) (by omega)).mono ?_); rintro e wx ⟨rfl, rfl⟩)
    | (go_at_call 63; (with_reducible refine (absB_any c _ (by omega) (by omega)).mono ?_); rintro e wx ⟨rfl, rfl⟩)
    | (go_at_call 63; (with_reducible refine (absB_any d _ (by omega) (by omega)).mono ?_); rintro e wx ⟨rfl, rfl⟩))
  refine bodyPost_ret (ret_range rfl _ _ _ _ _ _ rfl rfl (by simp [go_sem]; first | done | rfl) (by simp [go_sem]; first | done | rfl)) rfl ⟨rfl, ?_⟩
  exact (((Below.refl w.heap.size w).alloc (Nat.le_refl _) _).alloc (by simp) _).alloc (by simp; omega) _

set_option maxRecDepth 100000 in
set_option maxHeartbeats 8000000 in
theorem productR_1nn (a b c d : Int) (w : World) (a1 : -1000000000000000 ≤ a) (a2 : a ≤ 1000000000000000) (b1 : -1000000000000000 ≤ b) (b2 : b ≤ 1000000000000000) (c1 : -1000000000000000 ≤ c) (c2 : c ≤ 1000000000000000) (d1 : -1000000000000000 ≤ d) (d2 : d ≤ 1000000000000000) (h0 : Bx (sz a * sz c ≤ 1000000000000000 * 1)) (hn : Bx (¬ sz a * sz d ≤ 1000000000000000 * 1)) (yc : (c != 0) = true) (yd : (d != 0) = true) :
    Calls Try.prog 54 #[.agg #[.int .i64 a, .int .i64 b], .agg #[.int .i64 c, .int .i64 d]] w fun e w' => e = .returned (.tuple #[.agg #[.int .i64 0, .int .i64 0], .int .i64 8]) ∧ Below w.heap.size w w' := by
  obtain ⟨i0, hi0, hz0, hz1, hz2⟩ := info_intc_parts
  have ix0 : ∀ x y w, (Instr.index 104 (.agg #[.int .i64 x, .int .i64 y]) (.int .i64 0)).run Try.prog w = .ok (.int .i64 x) w := fun _ _ _ => by kernel_rfl
  have ix1 : ∀ x y w, (Instr.index 104 (.agg #[.int .i64 x, .int .i64 y]) (.int .i64 1)).run Try.prog w = .ok (.int .i64 y) w := fun _ _ _ => by kernel_rfl
  have hmin := run_min4
  have hmax := run_max4
  have sa := sz_nonneg a
  have ta := sz_le a1 a2
  have sb := sz_nonneg b
  have tb := sz_le b1 b2
  have sc := sz_nonneg c
  have tc := sz_le c1 c2
  have sd := sz_nonneg d
  have td := sz_le d1 d2
  have pc := sz_pos' yc
  have nc : ¬ sz c = 0 := by omega
  have rc : 0 ≤ 1000000000000000 / sz c := Int.ediv_nonneg (by omega) sc
  have uc : 1000000000000000 / sz c ≤ 1000000000000000 := Int.ediv_le_self _ (by omega)
  have pd := sz_pos' yd
  have nd : ¬ sz d = 0 := by omega
  have rd : 0 ≤ 1000000000000000 / sz d := Int.ediv_nonneg (by omega) sd
  have ud : 1000000000000000 / sz d ≤ 1000000000000000 := Int.ediv_le_self _ (by omega)
  obtain ⟨g0, g0'⟩ := fit_bd (show fitP c a from by have := h0.out; unfold fitP; rw [Int.mul_comm]; exact this)
  have T0 : ¬ 1000000000000000 / sz c < sz a := fun h => (over_iff (ne_of yc)).1 h h0.out
  have T1 : 1000000000000000 / sz d < sz a := (over_iff (ne_of yd)).2 hn.out
  have M0 := Bx.mk (Below.refl (W3 w a b c d).heap.size (W3 w a b c d))
  obtain ⟨lt0, q00, q10, q20, q30, k00, k10, k20, k30, -⟩ := QS.of M0.out
  have O0 := Bx.mk (OW.nil w (W3 w a b c d))
  go_enter Try.func54, Try.ntmps54
  go_wp2
  refine wp_loop_rounds 3 ?_
  rw [rounds_succ]
  go_wp2
  refine wp_loop_rounds 3 ?_
  rw [rounds_succ]
  have Z0 := Bx.mk (one_cell0 w a b c d (a * c))
  go_wp2_with (first
    | (go_at_call 63; (with_reducible refine (absB_any a _ (by omega) (by omega)).mono ?_); rintro e wx ⟨rfl, rfl⟩)
    | (go_at_call 63; (with_reducible refine (absB_any b _ (by omega) (by omega)).mono ?_); rintro e wx ⟨rfl, rfl⟩)
    | (go_at_call 63; (with_reducible refine (absB_any c _ (by omega) (by omega)).mono ?_); rintro e wx ⟨rfl, rfl⟩)
    | (go_at_call 63; (with_reducible refine (absB_any d _ (by omega) (by omega)).mono ?_); rintro e wx ⟨rfl, rfl⟩)
    | (at_builtin; refine wpList_append_own _ rfl _ _ _ rfl (w.heap.size + 1 + 1 + 1) 3 i0 (.int .i64 0) 1 8 Try.underlying63 hi0 hz0 hz1 hz2 rfl (by decide) _ 0 _ rfl (World.ownsRow.alloc O0.out _) ⟨w.heap.size + 1 + 1 + 1, 0, none⟩ 1 1 [.int .i64 (a * c)] rfl rfl Z0.out (fun u hu => by simp at hu; subst hu; rfl) (by simp only [maxLen]; omega) (by omega) (by have := M0.out.size; simp at this ⊢ <;> omega) ?_))
  intro v1 w1 hown hgrow _
  have M1 := Bx.mk (OW.grown O0.out M0.out hgrow)
  have O1 : Bx (OW w w1 v1 [(a * c)]) := ⟨by simpa only [OW, List.map_cons, List.map_nil, List.length_cons, List.length_nil, List.cons_append, List.nil_append, Nat.zero_add, Nat.reduceAdd] using hown⟩
  clear hown hgrow
  obtain ⟨lt1, q01, q11, q21, q31, k01, k11, k21, k31, -⟩ := QS.of M1.out
  go_wp2
  rw [rounds_succ]
  go_wp2_with (first
    | (go_at_call 63; (with_reducible refine (absB_any a _ (by omega) (by omega)).mono ?_); rintro e wx ⟨rfl, rfl⟩)
    | (go_at_call 63; (with_reducible refine (absB_any b _ (by omega) (by omega)).mono ?_); rintro e wx ⟨rfl, rfl⟩)
    | (go_at_call 63; (with_reducible refine (absB_any c _ (by omega) (by omega)).mono ?_); rintro e wx ⟨rfl, rfl⟩)
    | (go_at_call 63; (with_reducible refine (absB_any d _ (by omega) (by omega)).mono ?_); rintro e wx ⟨rfl, rfl⟩))
  obtain ⟨r0, r1⟩ := set2 (b := w.heap.size + 1 + 1) (x := .int .i64 0) (y := .int .i64 0) (.int .i64 0) (.int .i64 0) k01 k11
  refine bodyPost_ret (ret_range rfl _ _ _ _ _ _ rfl rfl r0 r1) rfl ⟨rfl, ((((((Below.refl w.heap.size w).alloc (Nat.le_refl _) _).alloc (by simp) _).alloc (by simp; omega) _).trans (M1.out.mono (by simp; omega))).setCell (by show w.heap.size ≤ w.heap.size + 1 + 1; omega) _).setCell (by show w.heap.size ≤ w.heap.size + 1 + 1; omega) _⟩

set_option maxRecDepth 100000 in
set_option maxHeartbeats 8000000 in
theorem productR_2nn (a b c d : Int) (w : World) (a1 : -1000000000000000 ≤ a) (a2 : a ≤ 1000000000000000) (b1 : -1000000000000000 ≤ b) (b2 : b ≤ 1000000000000000) (c1 : -1000000000000000 ≤ c) (c2 : c ≤ 1000000000000000) (d1 : -1000000000000000 ≤ d) (d2 : d ≤ 1000000000000000) (h0 : Bx (sz a * sz c ≤ 1000000000000000 * 1)) (h1 : Bx (sz a * sz d ≤ 1000000000000000 * 1)) (hn : Bx (¬ sz b * sz c ≤ 1000000000000000 * 1)) (yc : (c != 0) = true) (yd : (d != 0) = true) :
    Calls Try.prog 54 #[.agg #[.int .i64 a, .int .i64 b], .agg #[.int .i64 c, .int .i64 d]] w fun e w' => e = .returned (.tuple #[.agg #[.int .i64 0, .int .i64 0], .int .i64 8]) ∧ Below w.heap.size w w' := by
  obtain ⟨i0, hi0, hz0, hz1, hz2⟩ := info_intc_parts
  have ix0 : ∀ x y w, (Instr.index 104 (.agg #[.int .i64 x, .int .i64 y]) (.int .i64 0)).run Try.prog w = .ok (.int .i64 x) w := fun _ _ _ => by kernel_rfl
  have ix1 : ∀ x y w, (Instr.index 104 (.agg #[.int .i64 x, .int .i64 y]) (.int .i64 1)).run Try.prog w = .ok (.int .i64 y) w := fun _ _ _ => by kernel_rfl
  have hmin := run_min4
  have hmax := run_max4
  have sa := sz_nonneg a
  have ta := sz_le a1 a2
  have sb := sz_nonneg b
  have tb := sz_le b1 b2
  have sc := sz_nonneg c
  have tc := sz_le c1 c2
  have sd := sz_nonneg d
  have td := sz_le d1 d2
  have pc := sz_pos' yc
  have nc : ¬ sz c = 0 := by omega
  have rc : 0 ≤ 1000000000000000 / sz c := Int.ediv_nonneg (by omega) sc
  have uc : 1000000000000000 / sz c ≤ 1000000000000000 := Int.ediv_le_self _ (by omega)
  have pd := sz_pos' yd
  have nd : ¬ sz d = 0 := by omega
  have rd : 0 ≤ 1000000000000000 / sz d := Int.ediv_nonneg (by omega) sd
  have ud : 1000000000000000 / sz d ≤ 1000000000000000 := Int.ediv_le_self _ (by omega)
  obtain ⟨g0, g0'⟩ := fit_bd (show fitP c a from by have := h0.out; unfold fitP; rw [Int.mul_comm]; exact this)
  have T0 : ¬ 1000000000000000 / sz c < sz a := fun h => (over_iff (ne_of yc)).1 h h0.out
  obtain ⟨g1, g1'⟩ := fit_bd (show fitP d a from by have := h1.out; unfold fitP; rw [Int.mul_comm]; exact this)
  have T1 : ¬ 1000000000000000 / sz d < sz a := fun h => (over_iff (ne_of yd)).1 h h1.out
  have T2 : 1000000000000000 / sz c < sz b := (over_iff (ne_of yc)).2 hn.out
  have M0 := Bx.mk (Below.refl (W3 w a b c d).heap.size (W3 w a b c d))
  obtain ⟨lt0, q00, q10, q20, q30, k00, k10, k20, k30, -⟩ := QS.of M0.out
  have O0 := Bx.mk (OW.nil w (W3 w a b c d))
  go_enter Try.func54, Try.ntmps54
  go_wp2
  refine wp_loop_rounds 3 ?_
  rw [rounds_succ]
  go_wp2
  refine wp_loop_rounds 3 ?_
  rw [rounds_succ]
  have Z0 := Bx.mk (one_cell0 w a b c d (a * c))
  go_wp2_with (first
    | (go_at_call 63; (with_reducible refine (absB_any a _ (by omega) (by omega)).mono ?_); rintro e wx ⟨rfl, rfl⟩)
    | (go_at_call 63; (with_reducible refine (absB_any b _ (by omega) (by omega)).mono ?_); rintro e wx ⟨rfl, rfl⟩)
    | (go_at_call 63; (with_reducible refine (absB_any c _ (by omega) (by omega)).mono ?_); rintro e wx ⟨rfl, rfl⟩)
    | (go_at_call 63; (with_reducible refine (absB_any d _ (by omega) (by omega)).mono ?_); rintro e wx ⟨rfl, rfl⟩)
    | (at_builtin; refine wpList_append_own _ rfl _ _ _ rfl (w.heap.size + 1 + 1 + 1) 3 i0 (.int .i64 0) 1 8 Try.underlying63 hi0 hz0 hz1 hz2 rfl (by decide) _ 0 _ rfl (World.ownsRow.alloc O0.out _) ⟨w.heap.size + 1 + 1 + 1, 0, none⟩ 1 1 [.int .i64 (a * c)] rfl rfl Z0.out (fun u hu => by simp at hu; subst hu; rfl) (by simp only [maxLen]; omega) (by omega) (by have := M0.out.size; simp at this ⊢ <;> omega) ?_))
  intro v1 w1 hown hgrow _
  have M1 := Bx.mk (OW.grown O0.out M0.out hgrow)
  have O1 : Bx (OW w w1 v1 [(a * c)]) := ⟨by simpa only [OW, List.map_cons, List.map_nil, List.length_cons, List.length_nil, List.cons_append, List.nil_append, Nat.zero_add, Nat.reduceAdd] using hown⟩
  clear hown hgrow
  obtain ⟨lt1, q01, q11, q21, q31, k01, k11, k21, k31, -⟩ := QS.of M1.out
  go_wp2
  rw [rounds_succ]
  have Z1 := Bx.mk (one_cell w1 (a * d))
  go_wp2_with (first
    | (go_at_call 63; (with_reducible refine (absB_any a _ (by omega) (by omega)).mono ?_); rintro e wx ⟨rfl, rfl⟩)
    | (go_at_call 63; (with_reducible refine (absB_any b _ (by omega) (by omega)).mono ?_); rintro e wx ⟨rfl, rfl⟩)
    | (go_at_call 63; (with_reducible refine (absB_any c _ (by omega) (by omega)).mono ?_); rintro e wx ⟨rfl, rfl⟩)
    | (go_at_call 63; (with_reducible refine (absB_any d _ (by omega) (by omega)).mono ?_); rintro e wx ⟨rfl, rfl⟩)
    | (at_builtin; refine wpList_append_own _ rfl _ _ _ rfl (w.heap.size + 1 + 1 + 1) 3 i0 (.int .i64 0) 1 8 Try.underlying63 hi0 hz0 hz1 hz2 rfl (by decide) _ 1 _ rfl (World.ownsRow.alloc O1.out _) ⟨(World.heap w1).size, 0, none⟩ 1 1 [.int .i64 (a * d)] rfl rfl Z1.out (fun u hu => by simp at hu; subst hu; rfl) (by simp only [maxLen]; omega) (by omega) (by have := M1.out.size; simp at this ⊢ <;> omega) ?_))
  intro v2 w2 hown hgrow _
  have M2 := Bx.mk (OW.grown O1.out M1.out hgrow)
  have O2 : Bx (OW w w2 v2 [(a * c), (a * d)]) := ⟨by simpa only [OW, List.map_cons, List.map_nil, List.length_cons, List.length_nil, List.cons_append, List.nil_append, Nat.zero_add, Nat.reduceAdd] using hown⟩
  clear hown hgrow
  obtain ⟨lt2, q02, q12, q22, q32, k02, k12, k22, k32, -⟩ := QS.of M2.out
  go_wp2
  rw [rounds_succ]
  go_wp2
  rw [rounds_succ]
  go_wp2
  refine wp_loop_rounds 3 ?_
  rw [rounds_succ]
  go_wp2_with (first
    | (go_at_call 63; (with_reducible refine (absB_any a _ (by omega) (by omega)).mono ?_); rintro e wx ⟨rfl, rfl⟩)
    | (go_at_call 63; (with_reducible refine (absB_any b _ (by omega) (by omega)).mono ?_); rintro e wx ⟨rfl, rfl⟩)
    | (go_at_call 63; (with_reducible refine (absB_any c _ (by omega) (by omega)).mono ?_); rintro e wx ⟨rfl, rfl⟩)
    | (go_at_call 63; (with_reducible refine (absB_any d _ (by omega) (by omega)).mono ?_); rintro e wx ⟨rfl, rfl⟩))
  obtain ⟨r0, r1⟩ := set2 (b := w.heap.size + 1 + 1) (x := .int .i64 0) (y := .int .i64 0) (.int .i64 0) (.int .i64 0) k02 k12
  refine bodyPost_ret (ret_range rfl _ _ _ _ _ _ rfl rfl r0 r1) rfl ⟨rfl, ((((((Below.refl w.heap.size w).alloc (Nat.le_refl _) _).alloc (by simp) _).alloc (by simp; omega) _).trans (M2.out.mono (by simp; omega))).setCell (by show w.heap.size ≤ w.heap.size + 1 + 1; omega) _).setCell (by show w.heap.size ≤ w.heap.size + 1 + 1; omega) _⟩

set_option maxRecDepth 100000 in
set_option maxHeartbeats 8000000 in
theorem productR_3nn (a b c d : Int) (w : World) (a1 : -1000000000000000 ≤ a) (a2 : a ≤ 1000000000000000) (b1 : -1000000000000000 ≤ b) (b2 : b ≤ 1000000000000000) (c1 : -1000000000000000 ≤ c) (c2 : c ≤ 1000000000000000) (d1 : -1000000000000000 ≤ d) (d2 : d ≤ 1000000000000000) (h0 : Bx (sz a * sz c ≤ 1000000000000000 * 1)) (h1 : Bx (sz a * sz d ≤ 1000000000000000 * 1)) (h2 : Bx (sz b * sz c ≤ 1000000000000000 * 1)) (hn : Bx (¬ sz b * sz d ≤ 1000000000000000 * 1)) (yc : (c != 0) = true) (yd : (d != 0) = true) :
    Calls Try.prog 54 #[.agg #[.int .i64 a, .int .i64 b], .agg #[.int .i64 c, .int .i64 d]] w fun e w' => e = .returned (.tuple #[.agg #[.int .i64 0, .int .i64 0], .int .i64 8]) ∧ Below w.heap.size w w' := by
  obtain ⟨i0, hi0, hz0, hz1, hz2⟩ := info_intc_parts
  have ix0 : ∀ x y w, (Instr.index 104 (.agg #[.int .i64 x, .int .i64 y]) (.int .i64 0)).run Try.prog w = .ok (.int .i64 x) w := fun _ _ _ => by kernel_rfl
  have ix1 : ∀ x y w, (Instr.index 104 (.agg #[.int .i64 x, .int .i64 y]) (.int .i64 1)).run Try.prog w = .ok (.int .i64 y) w := fun _ _ _ => by kernel_rfl
  have hmin := run_min4
  have hmax := run_max4
  have sa := sz_nonneg a
  have ta := sz_le a1 a2
  have sb := sz_nonneg b
  have tb := sz_le b1 b2
  have sc := sz_nonneg c
  have tc := sz_le c1 c2
  have sd := sz_nonneg d
  have td := sz_le d1 d2
  have pc := sz_pos' yc
  have nc : ¬ sz c = 0 := by omega
  have rc : 0 ≤ 1000000000000000 / sz c := Int.ediv_nonneg (by omega) sc
  have uc : 1000000000000000 / sz c ≤ 1000000000000000 := Int.ediv_le_self _ (by omega)
  have pd := sz_pos' yd
  have nd : ¬ sz d = 0 := by omega
  have rd : 0 ≤ 1000000000000000 / sz d := Int.ediv_nonneg (by omega) sd
  have ud : 1000000000000000 / sz d ≤ 1000000000000000 := Int.ediv_le_self _ (by omega)
  obtain ⟨g0, g0'⟩ := fit_bd (show fitP c a from by have := h0.out; unfold fitP; rw [Int.mul_comm]; exact this)
  have T0 : ¬ 1000000000000000 / sz c < sz a := fun h => (over_iff (ne_of yc)).1 h h0.out
  obtain ⟨g1, g1'⟩ := fit_bd (show fitP d a from by have := h1.out; unfold fitP; rw [Int.mul_comm]; exact this)
  have T1 : ¬ 1000000000000000 / sz d < sz a := fun h => (over_iff (ne_of yd)).1 h h1.out
  obtain ⟨g2, g2'⟩ := fit_bd (show fitP c b from by have := h2.out; unfold fitP; rw [Int.mul_comm]; exact this)
  have T2 : ¬ 1000000000000000 / sz c < sz b := fun h => (over_iff (ne_of yc)).1 h h2.out
  have T3 : 1000000000000000 / sz d < sz b := (over_iff (ne_of yd)).2 hn.out
  have M0 := Bx.mk (Below.refl (W3 w a b c d).heap.size (W3 w a b c d))
  obtain ⟨lt0, q00, q10, q20, q30, k00, k10, k20, k30, -⟩ := QS.of M0.out
  have O0 := Bx.mk (OW.nil w (W3 w a b c d))
  go_enter Try.func54, Try.ntmps54
  go_wp2
  refine wp_loop_rounds 3 ?_
  rw [rounds_succ]
  go_wp2
  refine wp_loop_rounds 3 ?_
  rw [rounds_succ]
  have Z0 := Bx.mk (one_cell0 w a b c d (a * c))
  go_wp2_with (first
    | (go_at_call 63; (with_reducible refine (absB_any a _ (by omega) (by omega)).mono ?_); rintro e wx ⟨rfl, rfl⟩)
    | (go_at_call 63; (with_reducible refine (absB_any b _ (by omega) (by omega)).mono ?_); rintro e wx ⟨rfl, rfl⟩)
    | (go_at_call 63; (with_reducible refine (absB_any c _ (by omega) (by omega)).mono ?_); rintro e wx ⟨rfl, rfl⟩)
    | (go_at_call 63; (with_reducible refine (absB_any d _ (by omega) (by omega)).mono ?_); rintro e wx ⟨rfl, rfl⟩)
    | (at_builtin; refine wpList_append_own _ rfl _ _ _ rfl (w.heap.size + 1 + 1 + 1) 3 i0 (.int .i64 0) 1 8 Try.underlying63 hi0 hz0 hz1 hz2 rfl (by decide) _ 0 _ rfl (World.ownsRow.alloc O0.out _) ⟨w.heap.size + 1 + 1 + 1, 0, none⟩ 1 1 [.int .i64 (a * c)] rfl rfl Z0.out (fun u hu => by simp at hu; subst hu; rfl) (by simp only [maxLen]; omega) (by omega) (by have := M0.out.size; simp at this ⊢ <;> omega) ?_))
  intro v1 w1 hown hgrow _
  have M1 := Bx.mk (OW.grown O0.out M0.out hgrow)
  have O1 : Bx (OW w w1 v1 [(a * c)]) := ⟨by simpa only [OW, List.map_cons, List.map_nil, List.length_cons, List.length_nil, List.cons_append, List.nil_append, Nat.zero_add, Nat.reduceAdd] using hown⟩
  clear hown hgrow
  obtain ⟨lt1, q01, q11, q21, q31, k01, k11, k21, k31, -⟩ := QS.of M1.out
  go_wp2
  rw [rounds_succ]
  have Z1 := Bx.mk (one_cell w1 (a * d))
  go_wp2_with (first
    | (go_at_call 63; (with_reducible refine (absB_any a _ (by omega) (by omega)).mono ?_); rintro e wx ⟨rfl, rfl⟩)
    | (go_at_call 63; (with_reducible refine (absB_any b _ (by omega) (by omega)).mono ?_); rintro e wx ⟨rfl, rfl⟩)
    | (go_at_call 63; (with_reducible refine (absB_any c _ (by omega) (by omega)).mono ?_); rintro e wx ⟨rfl, rfl⟩)
    | (go_at_call 63; (with_reducible refine (absB_any d _ (by omega) (by omega)).mono ?_); rintro e wx ⟨rfl, rfl⟩)
    | (at_builtin; refine wpList_append_own _ rfl _ _ _ rfl (w.heap.size + 1 + 1 + 1) 3 i0 (.int .i64 0) 1 8 Try.underlying63 hi0 hz0 hz1 hz2 rfl (by decide) _ 1 _ rfl (World.ownsRow.alloc O1.out _) ⟨(World.heap w1).size, 0, none⟩ 1 1 [.int .i64 (a * d)] rfl rfl Z1.out (fun u hu => by simp at hu; subst hu; rfl) (by simp only [maxLen]; omega) (by omega) (by have := M1.out.size; simp at this ⊢ <;> omega) ?_))
  intro v2 w2 hown hgrow _
  have M2 := Bx.mk (OW.grown O1.out M1.out hgrow)
  have O2 : Bx (OW w w2 v2 [(a * c), (a * d)]) := ⟨by simpa only [OW, List.map_cons, List.map_nil, List.length_cons, List.length_nil, List.cons_append, List.nil_append, Nat.zero_add, Nat.reduceAdd] using hown⟩
  clear hown hgrow
  obtain ⟨lt2, q02, q12, q22, q32, k02, k12, k22, k32, -⟩ := QS.of M2.out
  go_wp2
  rw [rounds_succ]
  go_wp2
  rw [rounds_succ]
  go_wp2
  refine wp_loop_rounds 3 ?_
  rw [rounds_succ]
  have Z2 := Bx.mk (one_cell w2 (b * c))
  go_wp2_with (first
    | (go_at_call 63; (with_reducible refine (absB_any a _ (by omega) (by omega)).mono ?_); rintro e wx ⟨rfl, rfl⟩)
    | (go_at_call 63; (with_reducible refine (absB_any b _ (by omega) (by omega)).mono ?_); rintro e wx ⟨rfl, rfl⟩)
    | (go_at_call 63; (with_reducible refine (absB_any c _ (by omega) (by omega)).mono ?_); rintro e wx ⟨rfl, rfl⟩)
    | (go_at_call 63; (with_reducible refine (absB_any d _ (by omega) (by omega)).mono ?_); rintro e wx ⟨rfl, rfl⟩)
    | (at_builtin; refine wpList_append_own _ rfl _ _ _ rfl (w.heap.size + 1 + 1 + 1) 3 i0 (.int .i64 0) 1 8 Try.underlying63 hi0 hz0 hz1 hz2 rfl (by decide) _ 2 _ rfl (World.ownsRow.alloc O2.out _) ⟨(World.heap w2).size, 0, none⟩ 1 1 [.int .i64 (b * c)] rfl rfl Z2.out (fun u hu => by simp at hu; subst hu; rfl) (by simp only [maxLen]; omega) (by omega) (by have := M2.out.size; simp at this ⊢ <;> omega) ?_))
  intro v3 w3 hown hgrow _
  have M3 := Bx.mk (OW.grown O2.out M2.out hgrow)
  have O3 : Bx (OW w w3 v3 [(a * c), (a * d), (b * c)]) := ⟨by simpa only [OW, List.map_cons, List.map_nil, List.length_cons, List.length_nil, List.cons_append, List.nil_append, Nat.zero_add, Nat.reduceAdd] using hown⟩
  clear hown hgrow
  obtain ⟨lt3, q03, q13, q23, q33, k03, k13, k23, k33, -⟩ := QS.of M3.out
  go_wp2
  rw [rounds_succ]
  go_wp2_with (first
    | (go_at_call 63; (with_reducible refine (absB_any a _ (by omega) (by omega)).mono ?_); rintro e wx ⟨rfl, rfl⟩)
    | (go_at_call 63; (with_reducible refine (absB_any b _ (by omega) (by omega)).mono ?_); rintro e wx ⟨rfl, rfl⟩)
    | (go_at_call 63; (with_reducible refine (absB_any c _ (by omega) (by omega)).mono ?_); rintro e wx ⟨rfl, rfl⟩)
    | (go_at_call 63; (with_reducible refine (absB_any d _ (by omega) (by omega)).mono ?_); rintro e wx ⟨rfl, rfl⟩))
  obtain ⟨r0, r1⟩ := set2 (b := w.heap.size + 1 + 1) (x := .int .i64 0) (y := .int .i64 0) (.int .i64 0) (.int .i64 0) k03 k13
  refine bodyPost_ret (ret_range rfl _ _ _ _ _ _ rfl rfl r0 r1) rfl ⟨rfl, ((((((Below.refl w.heap.size w).alloc (Nat.le_refl _) _).alloc (by simp) _).alloc (by simp; omega) _).trans (M3.out.mono (by simp; omega))).setCell (by show w.heap.size ≤ w.heap.size + 1 + 1; omega) _).setCell (by show w.heap.size ≤ w.heap.size + 1 + 1; omega) _⟩

set_option maxRecDepth 100000 in
set_option maxHeartbeats 8000000 in
theorem productR_4nn (a b c d : Int) (w : World) (a1 : -1000000000000000 ≤ a) (a2 : a ≤ 1000000000000000) (b1 : -1000000000000000 ≤ b) (b2 : b ≤ 1000000000000000) (c1 : -1000000000000000 ≤ c) (c2 : c ≤ 1000000000000000) (d1 : -1000000000000000 ≤ d) (d2 : d ≤ 1000000000000000) (h0 : Bx (sz a * sz c ≤ 1000000000000000 * 1)) (h1 : Bx (sz a * sz d ≤ 1000000000000000 * 1)) (h2 : Bx (sz b * sz c ≤ 1000000000000000 * 1)) (h3 : Bx (sz b * sz d ≤ 1000000000000000 * 1)) (yc : (c != 0) = true) (yd : (d != 0) = true) :
    Calls Try.prog 54 #[.agg #[.int .i64 a, .int .i64 b], .agg #[.int .i64 c, .int .i64 d]] w fun e w' => e = .returned (.tuple #[.agg #[.int .i64 (min4 (a * c) (a * d) (b * c) (b * d)), .int .i64 (max4 (a * c) (a * d) (b * c) (b * d))], .int .i64 0]) ∧ Below w.heap.size w w' := by
  obtain ⟨i0, hi0, hz0, hz1, hz2⟩ := info_intc_parts
  have ix0 : ∀ x y w, (Instr.index 104 (.agg #[.int .i64 x, .int .i64 y]) (.int .i64 0)).run Try.prog w = .ok (.int .i64 x) w := fun _ _ _ => by kernel_rfl
  have ix1 : ∀ x y w, (Instr.index 104 (.agg #[.int .i64 x, .int .i64 y]) (.int .i64 1)).run Try.prog w = .ok (.int .i64 y) w := fun _ _ _ => by kernel_rfl
  have hmin := run_min4
  have hmax := run_max4
  have sa := sz_nonneg a
  have ta := sz_le a1 a2
  have sb := sz_nonneg b
  have tb := sz_le b1 b2
  have sc := sz_nonneg c
  have tc := sz_le c1 c2
  have sd := sz_nonneg d
  have td := sz_le d1 d2
  have pc := sz_pos' yc
  have nc : ¬ sz c = 0 := by omega
  have rc : 0 ≤ 1000000000000000 / sz c := Int.ediv_nonneg (by omega) sc
  have uc : 1000000000000000 / sz c ≤ 1000000000000000 := Int.ediv_le_self _ (by omega)
  have pd := sz_pos' yd
  have nd : ¬ sz d = 0 := by omega
  have rd : 0 ≤ 1000000000000000 / sz d := Int.ediv_nonneg (by omega) sd
  have ud : 1000000000000000 / sz d ≤ 1000000000000000 := Int.ediv_le_self _ (by omega)
  obtain ⟨g0, g0'⟩ := fit_bd (show fitP c a from by have := h0.out; unfold fitP; rw [Int.mul_comm]; exact this)
  have T0 : ¬ 1000000000000000 / sz c < sz a := fun h => (over_iff (ne_of yc)).1 h h0.out
  obtain ⟨g1, g1'⟩ := fit_bd (show fitP d a from by have := h1.out; unfold fitP; rw [Int.mul_comm]; exact this)
  have T1 : ¬ 1000000000000000 / sz d < sz a := fun h => (over_iff (ne_of yd)).1 h h1.out
  obtain ⟨g2, g2'⟩ := fit_bd (show fitP c b from by have := h2.out; unfold fitP; rw [Int.mul_comm]; exact this)
  have T2 : ¬ 1000000000000000 / sz c < sz b := fun h => (over_iff (ne_of yc)).1 h h2.out
  obtain ⟨g3, g3'⟩ := fit_bd (show fitP d b from by have := h3.out; unfold fitP; rw [Int.mul_comm]; exact this)
  have T3 : ¬ 1000000000000000 / sz d < sz b := fun h => (over_iff (ne_of yd)).1 h h3.out
  have M0 := Bx.mk (Below.refl (W3 w a b c d).heap.size (W3 w a b c d))
  obtain ⟨lt0, q00, q10, q20, q30, k00, k10, k20, k30, -⟩ := QS.of M0.out
  have O0 := Bx.mk (OW.nil w (W3 w a b c d))
  go_enter Try.func54, Try.ntmps54
  go_wp2
  refine wp_loop_rounds 3 ?_
  rw [rounds_succ]
  go_wp2
  refine wp_loop_rounds 3 ?_
  rw [rounds_succ]
  have Z0 := Bx.mk (one_cell0 w a b c d (a * c))
  go_wp2_with (first
    | (go_at_call 63; (with_reducible refine (absB_any a _ (by omega) (by omega)).mono ?_); rintro e wx ⟨rfl, rfl⟩)
    | (go_at_call 63; (with_reducible refine (absB_any b _ (by omega) (by omega)).mono ?_); rintro e wx ⟨rfl, rfl⟩)
    | (go_at_call 63; (with_reducible refine (absB_any c _ (by omega) (by omega)).mono ?_); rintro e wx ⟨rfl, rfl⟩)
    | (go_at_call 63; (with_reducible refine (absB_any d _ (by omega) (by omega)).mono ?_); rintro e wx ⟨rfl, rfl⟩)
    | (at_builtin; refine wpList_append_own _ rfl _ _ _ rfl (w.heap.size + 1 + 1 + 1) 3 i0 (.int .i64 0) 1 8 Try.underlying63 hi0 hz0 hz1 hz2 rfl (by decide) _ 0 _ rfl (World.ownsRow.alloc O0.out _) ⟨w.heap.size + 1 + 1 + 1, 0, none⟩ 1 1 [.int .i64 (a * c)] rfl rfl Z0.out (fun u hu => by simp at hu; subst hu; rfl) (by simp only [maxLen]; omega) (by omega) (by have := M0.out.size; simp at this ⊢ <;> omega) ?_))
  intro v1 w1 hown hgrow _
  have M1 := Bx.mk (OW.grown O0.out M0.out hgrow)
  have O1 : Bx (OW w w1 v1 [(a * c)]) := ⟨by simpa only [OW, List.map_cons, List.map_nil, List.length_cons, List.length_nil, List.cons_append, List.nil_append, Nat.zero_add, Nat.reduceAdd] using hown⟩
  clear hown hgrow
  obtain ⟨lt1, q01, q11, q21, q31, k01, k11, k21, k31, -⟩ := QS.of M1.out
  go_wp2
  rw [rounds_succ]
  have Z1 := Bx.mk (one_cell w1 (a * d))
  go_wp2_with (first
    | (go_at_call 63; (with_reducible refine (absB_any a _ (by omega) (by omega)).mono ?_); rintro e wx ⟨rfl, rfl⟩)
    | (go_at_call 63; (with_reducible refine (absB_any b _ (by omega) (by omega)).mono ?_); rintro e wx ⟨rfl, rfl⟩)
    | (go_at_call 63; (with_reducible refine (absB_any c _ (by omega) (by omega)).mono ?_); rintro e wx ⟨rfl, rfl⟩)
    | (go_at_call 63; (with_reducible refine (absB_any d _ (by omega) (by omega)).mono ?_); rintro e wx ⟨rfl, rfl⟩)
    | (at_builtin; refine wpList_append_own _ rfl _ _ _ rfl (w.heap.size + 1 + 1 + 1) 3 i0 (.int .i64 0) 1 8 Try.underlying63 hi0 hz0 hz1 hz2 rfl (by decide) _ 1 _ rfl (World.ownsRow.alloc O1.out _) ⟨(World.heap w1).size, 0, none⟩ 1 1 [.int .i64 (a * d)] rfl rfl Z1.out (fun u hu => by simp at hu; subst hu; rfl) (by simp only [maxLen]; omega) (by omega) (by have := M1.out.size; simp at this ⊢ <;> omega) ?_))
  intro v2 w2 hown hgrow _
  have M2 := Bx.mk (OW.grown O1.out M1.out hgrow)
  have O2 : Bx (OW w w2 v2 [(a * c), (a * d)]) := ⟨by simpa only [OW, List.map_cons, List.map_nil, List.length_cons, List.length_nil, List.cons_append, List.nil_append, Nat.zero_add, Nat.reduceAdd] using hown⟩
  clear hown hgrow
  obtain ⟨lt2, q02, q12, q22, q32, k02, k12, k22, k32, -⟩ := QS.of M2.out
  go_wp2
  rw [rounds_succ]
  go_wp2
  rw [rounds_succ]
  go_wp2
  refine wp_loop_rounds 3 ?_
  rw [rounds_succ]
  have Z2 := Bx.mk (one_cell w2 (b * c))
  go_wp2_with (first
    | (go_at_call 63; (with_reducible refine (absB_any a _ (by omega) (by omega)).mono ?_); rintro e wx ⟨rfl, rfl⟩)
    | (go_at_call 63; (with_reducible refine (absB_any b _ (by omega) (by omega)).mono ?_); rintro e wx ⟨rfl, rfl⟩)
    | (go_at_call 63; (with_reducible refine (absB_any c _ (by omega) (by omega)).mono ?_); rintro e wx ⟨rfl, rfl⟩)
    | (go_at_call 63; (with_reducible refine (absB_any d _ (by omega) (by omega)).mono ?_); rintro e wx ⟨rfl, rfl⟩)
    | (at_builtin; refine wpList_append_own _ rfl _ _ _ rfl (w.heap.size + 1 + 1 + 1) 3 i0 (.int .i64 0) 1 8 Try.underlying63 hi0 hz0 hz1 hz2 rfl (by decide) _ 2 _ rfl (World.ownsRow.alloc O2.out _) ⟨(World.heap w2).size, 0, none⟩ 1 1 [.int .i64 (b * c)] rfl rfl Z2.out (fun u hu => by simp at hu; subst hu; rfl) (by simp only [maxLen]; omega) (by omega) (by have := M2.out.size; simp at this ⊢ <;> omega) ?_))
  intro v3 w3 hown hgrow _
  have M3 := Bx.mk (OW.grown O2.out M2.out hgrow)
  have O3 : Bx (OW w w3 v3 [(a * c), (a * d), (b * c)]) := ⟨by simpa only [OW, List.map_cons, List.map_nil, List.length_cons, List.length_nil, List.cons_append, List.nil_append, Nat.zero_add, Nat.reduceAdd] using hown⟩
  clear hown hgrow
  obtain ⟨lt3, q03, q13, q23, q33, k03, k13, k23, k33, -⟩ := QS.of M3.out
  go_wp2
  rw [rounds_succ]
  have Z3 := Bx.mk (one_cell w3 (b * d))
  go_wp2_with (first
    | (go_at_call 63; (with_reducible refine (absB_any a _ (by omega) (by omega)).mono ?_); rintro e wx ⟨rfl, rfl⟩)
    | (go_at_call 63; (with_reducible refine (absB_any b _ (by omega) (by omega)).mono ?_); rintro e wx ⟨rfl, rfl⟩)
    | (go_at_call 63; (with_reducible refine (absB_any c _ (by omega) (by omega)).mono ?_); rintro e wx ⟨rfl, rfl⟩)
    | (go_at_call 63; (with_reducible refine (absB_any d _ (by omega) (by omega)).mono ?_); rintro e wx ⟨rfl, rfl⟩)
    | (at_builtin; refine wpList_append_own _ rfl _ _ _ rfl (w.heap.size + 1 + 1 + 1) 3 i0 (.int .i64 0) 1 8 Try.underlying63 hi0 hz0 hz1 hz2 rfl (by decide) _ 3 _ rfl (World.ownsRow.alloc O3.out _) ⟨(World.heap w3).size, 0, none⟩ 1 1 [.int .i64 (b * d)] rfl rfl Z3.out (fun u hu => by simp at hu; subst hu; rfl) (by simp only [maxLen]; omega) (by omega) (by have := M3.out.size; simp at this ⊢ <;> omega) ?_))
  intro v4 w4 hown hgrow _
  have M4 := Bx.mk (OW.grown O3.out M3.out hgrow)
  have O4 : Bx (OW w w4 v4 [(a * c), (a * d), (b * c), (b * d)]) := ⟨by simpa only [OW, List.map_cons, List.map_nil, List.length_cons, List.length_nil, List.cons_append, List.nil_append, Nat.zero_add, Nat.reduceAdd] using hown⟩
  clear hown hgrow
  obtain ⟨lt4, q04, q14, q24, q34, k04, k14, k24, k34, -⟩ := QS.of M4.out
  go_wp2
  rw [rounds_succ]
  go_wp2
  rw [rounds_succ]
  go_wp2
  obtain ⟨g, cap, rfl, gl, gs⟩ := O4.out.form (by simp)
  have y0 := O4.out.at 0 (by simp)
  have y1 := O4.out.at 1 (by simp)
  have y2 := O4.out.at 2 (by simp)
  have y3 := O4.out.at 3 (by simp)
  simp only [List.getD_cons_zero, List.getD_cons_succ] at y0 y1 y2 y3
  simp only [List.length_cons, List.length_nil, Nat.zero_add, Nat.reduceAdd]
  go_region_held3 (fun w' => w'.cell? ⟨g, 0, none⟩ = some (.int .i64 (a * c)) ∧ w'.cell? ⟨g, 1, none⟩ = some (.int .i64 (a * d)) ∧ w'.cell? ⟨g, 2, none⟩ = some (.int .i64 (b * c)) ∧ w'.cell? ⟨g, 3, none⟩ = some (.int .i64 (b * d))) (first | exact ⟨y0, y1, y2, y3⟩ | exact ⟨keep2 y0 (by omega), keep2 y1 (by omega), keep2 y2 (by omega), keep2 y3 (by omega)⟩) (fail)
  all_goals (try go_wp2)
  all_goals
    obtain ⟨r0, r1⟩ := set2 (b := w.heap.size + 1 + 1) (x := .int .i64 0) (y := .int .i64 0) (.int .i64 (min4 (a * c) (a * d) (b * c) (b * d))) (.int .i64 (max4 (a * c) (a * d) (b * c) (b * d))) k04 k14
    refine bodyPost_ret (ret_range rfl _ _ _ _ _ _ rfl rfl r0 r1) rfl ⟨rfl, ?_⟩
    first
    | exact ((((((Below.refl w.heap.size w).alloc (Nat.le_refl _) _).alloc (by simp) _).alloc (by simp; omega) _).trans (M4.out.mono (by simp; omega))).setCell (by show w.heap.size ≤ w.heap.size + 1 + 1; omega) _).setCell (by show w.heap.size ≤ w.heap.size + 1 + 1; omega) _
    | exact (((((((Below.refl w.heap.size w).alloc (Nat.le_refl _) _).alloc (by simp) _).alloc (by simp; omega) _).trans (M4.out.mono (by simp; omega))).drew).setCell (by show w.heap.size ≤ w.heap.size + 1 + 1; omega) _).setCell (by show w.heap.size ≤ w.heap.size + 1 + 1; omega) _
    | exact (((((((Below.refl w.heap.size w).alloc (Nat.le_refl _) _).alloc (by simp) _).alloc (by simp; omega) _).trans (M4.out.mono (by simp; omega))).setCell (by show w.heap.size ≤ w.heap.size + 1 + 1; omega) _).setCell (by show w.heap.size ≤ w.heap.size + 1 + 1; omega) _).drew

set_option maxRecDepth 100000 in
set_option maxHeartbeats 8000000 in
theorem productR_0nz (a b c d : Int) (w : World) (a1 : -1000000000000000 ≤ a) (a2 : a ≤ 1000000000000000) (b1 : -1000000000000000 ≤ b) (b2 : b ≤ 1000000000000000) (c1 : -1000000000000000 ≤ c) (c2 : c ≤ 1000000000000000) (d1 : -1000000000000000 ≤ d) (d2 : d ≤ 1000000000000000)  (hn : Bx (¬ sz a * sz c ≤ 1000000000000000 * 1)) (yc : (c != 0) = true) (yd : (d != 0) = false) :
    Calls Try.prog 54 #[.agg #[.int .i64 a, .int .i64 b], .agg #[.int .i64 c, .int .i64 d]] w fun e w' => e = .returned (.tuple #[.agg #[.int .i64 0, .int .i64 0], .int .i64 8]) ∧ Below w.heap.size w w' := by
  obtain ⟨i0, hi0, hz0, hz1, hz2⟩ := info_intc_parts
  have ix0 : ∀ x y w, (Instr.index 104 (.agg #[.int .i64 x, .int .i64 y]) (.int .i64 0)).run Try.prog w = .ok (.int .i64 x) w := fun _ _ _ => by kernel_rfl
  have ix1 : ∀ x y w, (Instr.index 104 (.agg #[.int .i64 x, .int .i64 y]) (.int .i64 1)).run Try.prog w = .ok (.int .i64 y) w := fun _ _ _ => by kernel_rfl
  have hmin := run_min4
  have hmax := run_max4
  have sa := sz_nonneg a
  have ta := sz_le a1 a2
  have sb := sz_nonneg b
  have tb := sz_le b1 b2
  have sc := sz_nonneg c
  have tc := sz_le c1 c2
  have sd := sz_nonneg d
  have td := sz_le d1 d2
  have pc := sz_pos' yc
  have nc : ¬ sz c = 0 := by omega
  have rc : 0 ≤ 1000000000000000 / sz c := Int.ediv_nonneg (by omega) sc
  have uc : 1000000000000000 / sz c ≤ 1000000000000000 := Int.ediv_le_self _ (by omega)
  have T0 : 1000000000000000 / sz c < sz a := (over_iff (ne_of yc)).2 hn.out
  have M0 := Bx.mk (Below.refl (W3 w a b c d).heap.size (W3 w a b c d))
  obtain ⟨lt0, q00, q10, q20, q30, k00, k10, k20, k30, -⟩ := QS.of M0.out
  have O0 := Bx.mk (OW.nil w (W3 w a b c d))
  go_enter Try.func54, Try.ntmps54
  go_wp2
  refine wp_loop_rounds 3 ?_
  rw [rounds_succ]
  go_wp2
  refine wp_loop_rounds 3 ?_
  rw [rounds_succ]
  go_wp2_with (first
    | (go_at_call 63; (with_reducible refine (absB_any a _ (by omega) (by omega)).mono ?_); rintro e wx ⟨rfl, rfl⟩)
    | (go_at_call 63; (with_reducible refine (absB_any b _ (by omega) (by omega)).mono ?_); rintro e wx ⟨rfl, rfl⟩)
    | (go_at_call 63; (with_reducible refine (absB_any c _ (by omega) (by omega)).mono ?_); rintro e wx ⟨rfl, rfl⟩)
    | (go_at_call 63; (with_reducible refine (absB_any d _ (by omega) (by omega)).mono ?_); rintro e wx ⟨rfl, rfl⟩))
  refine bodyPost_ret (ret_range rfl _ _ _ _ _ _ rfl rfl (by simp [go_sem]; first | done | rfl) (by simp [go_sem]; first | done | rfl)) rfl ⟨rfl, ?_⟩
  exact (((Below.refl w.heap.size w).alloc (Nat.le_refl _) _).alloc (by simp) _).alloc (by simp; omega) _

set_option maxRecDepth 100000 in
set_option maxHeartbeats 8000000 in
theorem productR_2nz (a b c d : Int) (w : World) (a1 : -1000000000000000 ≤ a) (a2 : a ≤ 1000000000000000) (b1 : -1000000000000000 ≤ b) (b2 : b ≤ 1000000000000000) (c1 : -1000000000000000 ≤ c) (c2 : c ≤ 1000000000000000) (d1 : -1000000000000000 ≤ d) (d2 : d ≤ 1000000000000000) (h0 : Bx (sz a * sz c ≤ 1000000000000000 * 1)) (h1 : Bx (sz a * sz d ≤ 1000000000000000 * 1)) (hn : Bx (¬ sz b * sz c ≤ 1000000000000000 * 1)) (yc : (c != 0) = true) (yd : (d != 0) = false) :
    Calls Try.prog 54 #[.agg #[.int .i64 a, .int .i64 b], .agg #[.int .i64 c, .int .i64 d]] w fun e w' => e = .returned (.tuple #[.agg #[.int .i64 0, .int .i64 0], .int .i64 8]) ∧ Below w.heap.size w w' := by
  obtain ⟨i0, hi0, hz0, hz1, hz2⟩ := info_intc_parts
  have ix0 : ∀ x y w, (Instr.index 104 (.agg #[.int .i64 x, .int .i64 y]) (.int .i64 0)).run Try.prog w = .ok (.int .i64 x) w := fun _ _ _ => by kernel_rfl
  have ix1 : ∀ x y w, (Instr.index 104 (.agg #[.int .i64 x, .int .i64 y]) (.int .i64 1)).run Try.prog w = .ok (.int .i64 y) w := fun _ _ _ => by kernel_rfl
  have hmin := run_min4
  have hmax := run_max4
  have sa := sz_nonneg a
  have ta := sz_le a1 a2
  have sb := sz_nonneg b
  have tb := sz_le b1 b2
  have sc := sz_nonneg c
  have tc := sz_le c1 c2
  have sd := sz_nonneg d
  have td := sz_le d1 d2
  have pc := sz_pos' yc
  have nc : ¬ sz c = 0 := by omega
  have rc : 0 ≤ 1000000000000000 / sz c := Int.ediv_nonneg (by omega) sc
  have uc : 1000000000000000 / sz c ≤ 1000000000000000 := Int.ediv_le_self _ (by omega)
  obtain ⟨g0, g0'⟩ := fit_bd (show fitP c a from by have := h0.out; unfold fitP; rw [Int.mul_comm]; exact this)
  have T0 : ¬ 1000000000000000 / sz c < sz a := fun h => (over_iff (ne_of yc)).1 h h0.out
  obtain ⟨g1, g1'⟩ := fit_bd (show fitP d a from by have := h1.out; unfold fitP; rw [Int.mul_comm]; exact this)
  have T2 : 1000000000000000 / sz c < sz b := (over_iff (ne_of yc)).2 hn.out
  have M0 := Bx.mk (Below.refl (W3 w a b c d).heap.size (W3 w a b c d))
  obtain ⟨lt0, q00, q10, q20, q30, k00, k10, k20, k30, -⟩ := QS.of M0.out
  have O0 := Bx.mk (OW.nil w (W3 w a b c d))
  go_enter Try.func54, Try.ntmps54
  go_wp2
  refine wp_loop_rounds 3 ?_
  rw [rounds_succ]
  go_wp2
  refine wp_loop_rounds 3 ?_
  rw [rounds_succ]
  have Z0 := Bx.mk (one_cell0 w a b c d (a * c))
  go_wp2_with (first
    | (go_at_call 63; (with_reducible refine (absB_any a _ (by omega) (by omega)).mono ?_); rintro e wx ⟨rfl, rfl⟩)
    | (go_at_call 63; (with_reducible refine (absB_any b _ (by omega) (by omega)).mono ?_); rintro e wx ⟨rfl, rfl⟩)
    | (go_at_call 63; (with_reducible refine (absB_any c _ (by omega) (by omega)).mono ?_); rintro e wx ⟨rfl, rfl⟩)
    | (go_at_call 63; (with_reducible refine (absB_any d _ (by omega) (by omega)).mono ?_); rintro e wx ⟨rfl, rfl⟩)
    | (at_builtin; refine wpList_append_own _ rfl _ _ _ rfl (w.heap.size + 1 + 1 + 1) 3 i0 (.int .i64 0) 1 8 Try.underlying63 hi0 hz0 hz1 hz2 rfl (by decide) _ 0 _ rfl (World.ownsRow.alloc O0.out _) ⟨w.heap.size + 1 + 1 + 1, 0, none⟩ 1 1 [.int .i64 (a * c)] rfl rfl Z0.out (fun u hu => by simp at hu; subst hu; rfl) (by simp only [maxLen]; omega) (by omega) (by have := M0.out.size; simp at this ⊢ <;> omega) ?_))
  intro v1 w1 hown hgrow _
  have M1 := Bx.mk (OW.grown O0.out M0.out hgrow)
  have O1 : Bx (OW w w1 v1 [(a * c)]) := ⟨by simpa only [OW, List.map_cons, List.map_nil, List.length_cons, List.length_nil, List.cons_append, List.nil_append, Nat.zero_add, Nat.reduceAdd] using hown⟩
  clear hown hgrow
  obtain ⟨lt1, q01, q11, q21, q31, k01, k11, k21, k31, -⟩ := QS.of M1.out
  go_wp2
  rw [rounds_succ]
  have Z1 := Bx.mk (one_cell w1 (a * d))
  go_wp2_with (first
    | (go_at_call 63; (with_reducible refine (absB_any a _ (by omega) (by omega)).mono ?_); rintro e wx ⟨rfl, rfl⟩)
    | (go_at_call 63; (with_reducible refine (absB_any b _ (by omega) (by omega)).mono ?_); rintro e wx ⟨rfl, rfl⟩)
    | (go_at_call 63; (with_reducible refine (absB_any c _ (by omega) (by omega)).mono ?_); rintro e wx ⟨rfl, rfl⟩)
    | (go_at_call 63; (with_reducible refine (absB_any d _ (by omega) (by omega)).mono ?_); rintro e wx ⟨rfl, rfl⟩)
    | (at_builtin; refine wpList_append_own _ rfl _ _ _ rfl (w.heap.size + 1 + 1 + 1) 3 i0 (.int .i64 0) 1 8 Try.underlying63 hi0 hz0 hz1 hz2 rfl (by decide) _ 1 _ rfl (World.ownsRow.alloc O1.out _) ⟨(World.heap w1).size, 0, none⟩ 1 1 [.int .i64 (a * d)] rfl rfl Z1.out (fun u hu => by simp at hu; subst hu; rfl) (by simp only [maxLen]; omega) (by omega) (by have := M1.out.size; simp at this ⊢ <;> omega) ?_))
  intro v2 w2 hown hgrow _
  have M2 := Bx.mk (OW.grown O1.out M1.out hgrow)
  have O2 : Bx (OW w w2 v2 [(a * c), (a * d)]) := ⟨by simpa only [OW, List.map_cons, List.map_nil, List.length_cons, List.length_nil, List.cons_append, List.nil_append, Nat.zero_add, Nat.reduceAdd] using hown⟩
  clear hown hgrow
  obtain ⟨lt2, q02, q12, q22, q32, k02, k12, k22, k32, -⟩ := QS.of M2.out
  go_wp2
  rw [rounds_succ]
  go_wp2
  rw [rounds_succ]
  go_wp2
  refine wp_loop_rounds 3 ?_
  rw [rounds_succ]
  go_wp2_with (first
    | (go_at_call 63; (with_reducible refine (absB_any a _ (by omega) (by omega)).mono ?_); rintro e wx ⟨rfl, rfl⟩)
    | (go_at_call 63; (with_reducible refine (absB_any b _ (by omega) (by omega)).mono ?_); rintro e wx ⟨rfl, rfl⟩)
    | (go_at_call 63; (with_reducible refine (absB_any c _ (by omega) (by omega)).mono ?_); rintro e wx ⟨rfl, rfl⟩)
    | (go_at_call 63; (with_reducible refine (absB_any d _ (by omega) (by omega)).mono ?_); rintro e wx ⟨rfl, rfl⟩))
  obtain ⟨r0, r1⟩ := set2 (b := w.heap.size + 1 + 1) (x := .int .i64 0) (y := .int .i64 0) (.int .i64 0) (.int .i64 0) k02 k12
  refine bodyPost_ret (ret_range rfl _ _ _ _ _ _ rfl rfl r0 r1) rfl ⟨rfl, ((((((Below.refl w.heap.size w).alloc (Nat.le_refl _) _).alloc (by simp) _).alloc (by simp; omega) _).trans (M2.out.mono (by simp; omega))).setCell (by show w.heap.size ≤ w.heap.size + 1 + 1; omega) _).setCell (by show w.heap.size ≤ w.heap.size + 1 + 1; omega) _⟩

set_option maxRecDepth 100000 in
set_option maxHeartbeats 8000000 in
theorem productR_4nz (a b c d : Int) (w : World) (a1 : -1000000000000000 ≤ a) (a2 : a ≤ 1000000000000000) (b1 : -1000000000000000 ≤ b) (b2 : b ≤ 1000000000000000) (c1 : -1000000000000000 ≤ c) (c2 : c ≤ 1000000000000000) (d1 : -1000000000000000 ≤ d) (d2 : d ≤ 1000000000000000) (h0 : Bx (sz a * sz c ≤ 1000000000000000 * 1)) (h1 : Bx (sz a * sz d ≤ 1000000000000000 * 1)) (h2 : Bx (sz b * sz c ≤ 1000000000000000 * 1)) (h3 : Bx (sz b * sz d ≤ 1000000000000000 * 1)) (yc : (c != 0) = true) (yd : (d != 0) = false) :
    Calls Try.prog 54 #[.agg #[.int .i64 a, .int .i64 b], .agg #[.int .i64 c, .int .i64 d]] w fun e w' => e = .returned (.tuple #[.agg #[.int .i64 (min4 (a * c) (a * d) (b * c) (b * d)), .int .i64 (max4 (a * c) (a * d) (b * c) (b * d))], .int .i64 0]) ∧ Below w.heap.size w w' := by
  obtain ⟨i0, hi0, hz0, hz1, hz2⟩ := info_intc_parts
  have ix0 : ∀ x y w, (Instr.index 104 (.agg #[.int .i64 x, .int .i64 y]) (.int .i64 0)).run Try.prog w = .ok (.int .i64 x) w := fun _ _ _ => by kernel_rfl
  have ix1 : ∀ x y w, (Instr.index 104 (.agg #[.int .i64 x, .int .i64 y]) (.int .i64 1)).run Try.prog w = .ok (.int .i64 y) w := fun _ _ _ => by kernel_rfl
  have hmin := run_min4
  have hmax := run_max4
  have sa := sz_nonneg a
  have ta := sz_le a1 a2
  have sb := sz_nonneg b
  have tb := sz_le b1 b2
  have sc := sz_nonneg c
  have tc := sz_le c1 c2
  have sd := sz_nonneg d
  have td := sz_le d1 d2
  have pc := sz_pos' yc
  have nc : ¬ sz c = 0 := by omega
  have rc : 0 ≤ 1000000000000000 / sz c := Int.ediv_nonneg (by omega) sc
  have uc : 1000000000000000 / sz c ≤ 1000000000000000 := Int.ediv_le_self _ (by omega)
  obtain ⟨g0, g0'⟩ := fit_bd (show fitP c a from by have := h0.out; unfold fitP; rw [Int.mul_comm]; exact this)
  have T0 : ¬ 1000000000000000 / sz c < sz a := fun h => (over_iff (ne_of yc)).1 h h0.out
  obtain ⟨g1, g1'⟩ := fit_bd (show fitP d a from by have := h1.out; unfold fitP; rw [Int.mul_comm]; exact this)
  obtain ⟨g2, g2'⟩ := fit_bd (show fitP c b from by have := h2.out; unfold fitP; rw [Int.mul_comm]; exact this)
  have T2 : ¬ 1000000000000000 / sz c < sz b := fun h => (over_iff (ne_of yc)).1 h h2.out
  obtain ⟨g3, g3'⟩ := fit_bd (show fitP d b from by have := h3.out; unfold fitP; rw [Int.mul_comm]; exact this)
  have M0 := Bx.mk (Below.refl (W3 w a b c d).heap.size (W3 w a b c d))
  obtain ⟨lt0, q00, q10, q20, q30, k00, k10, k20, k30, -⟩ := QS.of M0.out
  have O0 := Bx.mk (OW.nil w (W3 w a b c d))
  go_enter Try.func54, Try.ntmps54
  go_wp2
  refine wp_loop_rounds 3 ?_
  rw [rounds_succ]
  go_wp2
  refine wp_loop_rounds 3 ?_
  rw [rounds_succ]
  have Z0 := Bx.mk (one_cell0 w a b c d (a * c))
  go_wp2_with (first
    | (go_at_call 63; (with_reducible refine (absB_any a _ (by omega) (by omega)).mono ?_); rintro e wx ⟨rfl, rfl⟩)
    | (go_at_call 63; (with_reducible refine (absB_any b _ (by omega) (by omega)).mono ?_); rintro e wx ⟨rfl, rfl⟩)
    | (go_at_call 63; (with_reducible refine (absB_any c _ (by omega) (by omega)).mono ?_); rintro e wx ⟨rfl, rfl⟩)
    | (go_at_call 63; (with_reducible refine (absB_any d _ (by omega) (by omega)).mono ?_); rintro e wx ⟨rfl, rfl⟩)
    | (at_builtin; refine wpList_append_own _ rfl _ _ _ rfl (w.heap.size + 1 + 1 + 1) 3 i0 (.int .i64 0) 1 8 Try.underlying63 hi0 hz0 hz1 hz2 rfl (by decide) _ 0 _ rfl (World.ownsRow.alloc O0.out _) ⟨w.heap.size + 1 + 1 + 1, 0, none⟩ 1 1 [.int .i64 (a * c)] rfl rfl Z0.out (fun u hu => by simp at hu; subst hu; rfl) (by simp only [maxLen]; omega) (by omega) (by have := M0.out.size; simp at this ⊢ <;> omega) ?_))
  intro v1 w1 hown hgrow _
  have M1 := Bx.mk (OW.grown O0.out M0.out hgrow)
  have O1 : Bx (OW w w1 v1 [(a * c)]) := ⟨by simpa only [OW, List.map_cons, List.map_nil, List.length_cons, List.length_nil, List.cons_append, List.nil_append, Nat.zero_add, Nat.reduceAdd] using hown⟩
  clear hown hgrow
  obtain ⟨lt1, q01, q11, q21, q31, k01, k11, k21, k31, -⟩ := QS.of M1.out
  go_wp2
  rw [rounds_succ]
  have Z1 := Bx.mk (one_cell w1 (a * d))
  go_wp2_with (first
    | (go_at_call 63; (with_reducible refine (absB_any a _ (by omega) (by omega)).mono ?_); rintro e wx ⟨rfl, rfl⟩)
    | (go_at_call 63; (with_reducible refine (absB_any b _ (by omega) (by omega)).mono ?_); rintro e wx ⟨rfl, rfl⟩)
    | (go_at_call 63; (with_reducible refine (absB_any c _ (by omega) (by omega)).mono ?_); rintro e wx ⟨rfl, rfl⟩)
    | (go_at_call 63; (with_reducible refine (absB_any d _ (by omega) (by omega)).mono ?_); rintro e wx ⟨rfl, rfl⟩)
    | (at_builtin; refine wpList_append_own _ rfl _ _ _ rfl (w.heap.size + 1 + 1 + 1) 3 i0 (.int .i64 0) 1 8 Try.underlying63 hi0 hz0 hz1 hz2 rfl (by decide) _ 1 _ rfl (World.ownsRow.alloc O1.out _) ⟨(World.heap w1).size, 0, none⟩ 1 1 [.int .i64 (a * d)] rfl rfl Z1.out (fun u hu => by simp at hu; subst hu; rfl) (by simp only [maxLen]; omega) (by omega) (by have := M1.out.size; simp at this ⊢ <;> omega) ?_))
  intro v2 w2 hown hgrow _
  have M2 := Bx.mk (OW.grown O1.out M1.out hgrow)
  have O2 : Bx (OW w w2 v2 [(a * c), (a * d)]) := ⟨by simpa only [OW, List.map_cons, List.map_nil, List.length_cons, List.length_nil, List.cons_append, List.nil_append, Nat.zero_add, Nat.reduceAdd] using hown⟩
  clear hown hgrow
  obtain ⟨lt2, q02, q12, q22, q32, k02, k12, k22, k32, -⟩ := QS.of M2.out
  go_wp2
  rw [rounds_succ]
  go_wp2
  rw [rounds_succ]
  go_wp2
  refine wp_loop_rounds 3 ?_
  rw [rounds_succ]
  have Z2 := Bx.mk (one_cell w2 (b * c))
  go_wp2_with (first
    | (go_at_call 63; (with_reducible refine (absB_any a _ (by omega) (by omega)).mono ?_); rintro e wx ⟨rfl, rfl⟩)
    | (go_at_call 63; (with_reducible refine (absB_any b _ (by omega) (by omega)).mono ?_); rintro e wx ⟨rfl, rfl⟩)
    | (go_at_call 63; (with_reducible refine (absB_any c _ (by omega) (by omega)).mono ?_); rintro e wx ⟨rfl, rfl⟩)
    | (go_at_call 63; (with_reducible refine (absB_any d _ (by omega) (by omega)).mono ?_); rintro e wx ⟨rfl, rfl⟩)
    | (at_builtin; refine wpList_append_own _ rfl _ _ _ rfl (w.heap.size + 1 + 1 + 1) 3 i0 (.int .i64 0) 1 8 Try.underlying63 hi0 hz0 hz1 hz2 rfl (by decide) _ 2 _ rfl (World.ownsRow.alloc O2.out _) ⟨(World.heap w2).size, 0, none⟩ 1 1 [.int .i64 (b * c)] rfl rfl Z2.out (fun u hu => by simp at hu; subst hu; rfl) (by simp only [maxLen]; omega) (by omega) (by have := M2.out.size; simp at this ⊢ <;> omega) ?_))
  intro v3 w3 hown hgrow _
  have M3 := Bx.mk (OW.grown O2.out M2.out hgrow)
  have O3 : Bx (OW w w3 v3 [(a * c), (a * d), (b * c)]) := ⟨by simpa only [OW, List.map_cons, List.map_nil, List.length_cons, List.length_nil, List.cons_append, List.nil_append, Nat.zero_add, Nat.reduceAdd] using hown⟩
  clear hown hgrow
  obtain ⟨lt3, q03, q13, q23, q33, k03, k13, k23, k33, -⟩ := QS.of M3.out
  go_wp2
  rw [rounds_succ]
  have Z3 := Bx.mk (one_cell w3 (b * d))
  go_wp2_with (first
    | (go_at_call 63; (with_reducible refine (absB_any a _ (by omega) (by omega)).mono ?_); rintro e wx ⟨rfl, rfl⟩)
    | (go_at_call 63; (with_reducible refine (absB_any b _ (by omega) (by omega)).mono ?_); rintro e wx ⟨rfl, rfl⟩)
    | (go_at_call 63; (with_reducible refine (absB_any c _ (by omega) (by omega)).mono ?_); rintro e wx ⟨rfl, rfl⟩)
    | (go_at_call 63; (with_reducible refine (absB_any d _ (by omega) (by omega)).mono ?_); rintro e wx ⟨rfl, rfl⟩)
    | (at_builtin; refine wpList_append_own _ rfl _ _ _ rfl (w.heap.size + 1 + 1 + 1) 3 i0 (.int .i64 0) 1 8 Try.underlying63 hi0 hz0 hz1 hz2 rfl (by decide) _ 3 _ rfl (World.ownsRow.alloc O3.out _) ⟨(World.heap w3).size, 0, none⟩ 1 1 [.int .i64 (b * d)] rfl rfl Z3.out (fun u hu => by simp at hu; subst hu; rfl) (by simp only [maxLen]; omega) (by omega) (by have := M3.out.size; simp at this ⊢ <;> omega) ?_))
  intro v4 w4 hown hgrow _
  have M4 := Bx.mk (OW.grown O3.out M3.out hgrow)
  have O4 : Bx (OW w w4 v4 [(a * c), (a * d), (b * c), (b * d)]) := ⟨by simpa only [OW, List.map_cons, List.map_nil, List.length_cons, List.length_nil, List.cons_append, List.nil_append, Nat.zero_add, Nat.reduceAdd] using hown⟩
  clear hown hgrow
  obtain ⟨lt4, q04, q14, q24, q34, k04, k14, k24, k34, -⟩ := QS.of M4.out
  go_wp2
  rw [rounds_succ]
  go_wp2
  rw [rounds_succ]
  go_wp2
  obtain ⟨g, cap, rfl, gl, gs⟩ := O4.out.form (by simp)
  have y0 := O4.out.at 0 (by simp)
  have y1 := O4.out.at 1 (by simp)
  have y2 := O4.out.at 2 (by simp)
  have y3 := O4.out.at 3 (by simp)
  simp only [List.getD_cons_zero, List.getD_cons_succ] at y0 y1 y2 y3
  simp only [List.length_cons, List.length_nil, Nat.zero_add, Nat.reduceAdd]
  go_region_held3 (fun w' => w'.cell? ⟨g, 0, none⟩ = some (.int .i64 (a * c)) ∧ w'.cell? ⟨g, 1, none⟩ = some (.int .i64 (a * d)) ∧ w'.cell? ⟨g, 2, none⟩ = some (.int .i64 (b * c)) ∧ w'.cell? ⟨g, 3, none⟩ = some (.int .i64 (b * d))) (first | exact ⟨y0, y1, y2, y3⟩ | exact ⟨keep2 y0 (by omega), keep2 y1 (by omega), keep2 y2 (by omega), keep2 y3 (by omega)⟩) (fail)
  all_goals (try go_wp2)
  all_goals
    obtain ⟨r0, r1⟩ := set2 (b := w.heap.size + 1 + 1) (x := .int .i64 0) (y := .int .i64 0) (.int .i64 (min4 (a * c) (a * d) (b * c) (b * d))) (.int .i64 (max4 (a * c) (a * d) (b * c) (b * d))) k04 k14
    refine bodyPost_ret (ret_range rfl _ _ _ _ _ _ rfl rfl r0 r1) rfl ⟨rfl, ?_⟩
    first
    | exact ((((((Below.refl w.heap.size w).alloc (Nat.le_refl _) _).alloc (by simp) _).alloc (by simp; omega) _).trans (M4.out.mono (by simp; omega))).setCell (by show w.heap.size ≤ w.heap.size + 1 + 1; omega) _).setCell (by show w.heap.size ≤ w.heap.size + 1 + 1; omega) _
    | exact (((((((Below.refl w.heap.size w).alloc (Nat.le_refl _) _).alloc (by simp) _).alloc (by simp; omega) _).trans (M4.out.mono (by simp; omega))).drew).setCell (by show w.heap.size ≤ w.heap.size + 1 + 1; omega) _).setCell (by show w.heap.size ≤ w.heap.size + 1 + 1; omega) _
    | exact (((((((Below.refl w.heap.size w).alloc (Nat.le_refl _) _).alloc (by simp) _).alloc (by simp; omega) _).trans (M4.out.mono (by simp; omega))).setCell (by show w.heap.size ≤ w.heap.size + 1 + 1; omega) _).setCell (by show w.heap.size ≤ w.heap.size + 1 + 1; omega) _).drew

set_option maxRecDepth 100000 in
set_option maxHeartbeats 8000000 in
theorem productR_1zn (a b c d : Int) (w : World) (a1 : -1000000000000000 ≤ a) (a2 : a ≤ 1000000000000000) (b1 : -1000000000000000 ≤ b) (b2 : b ≤ 1000000000000000) (c1 : -1000000000000000 ≤ c) (c2 : c ≤ 1000000000000000) (d1 : -1000000000000000 ≤ d) (d2 : d ≤ 1000000000000000) (h0 : Bx (sz a * sz c ≤ 1000000000000000 * 1)) (hn : Bx (¬ sz a * sz d ≤ 1000000000000000 * 1)) (yc : (c != 0) = false) (yd : (d != 0) = true) :
    Calls Try.prog 54 #[.agg #[.int .i64 a, .int .i64 b], .agg #[.int .i64 c, .int .i64 d]] w fun e w' => e = .returned (.tuple #[.agg #[.int .i64 0, .int .i64 0], .int .i64 8]) ∧ Below w.heap.size w w' := by
  obtain ⟨i0, hi0, hz0, hz1, hz2⟩ := info_intc_parts
  have ix0 : ∀ x y w, (Instr.index 104 (.agg #[.int .i64 x, .int .i64 y]) (.int .i64 0)).run Try.prog w = .ok (.int .i64 x) w := fun _ _ _ => by kernel_rfl
  have ix1 : ∀ x y w, (Instr.index 104 (.agg #[.int .i64 x, .int .i64 y]) (.int .i64 1)).run Try.prog w = .ok (.int .i64 y) w := fun _ _ _ => by kernel_rfl
  have hmin := run_min4
  have hmax := run_max4
  have sa := sz_nonneg a
  have ta := sz_le a1 a2
  have sb := sz_nonneg b
  have tb := sz_le b1 b2
  have sc := sz_nonneg c
  have tc := sz_le c1 c2
  have sd := sz_nonneg d
  have td := sz_le d1 d2
  have pd := sz_pos' yd
  have nd : ¬ sz d = 0 := by omega
  have rd : 0 ≤ 1000000000000000 / sz d := Int.ediv_nonneg (by omega) sd
  have ud : 1000000000000000 / sz d ≤ 1000000000000000 := Int.ediv_le_self _ (by omega)
  obtain ⟨g0, g0'⟩ := fit_bd (show fitP c a from by have := h0.out; unfold fitP; rw [Int.mul_comm]; exact this)
  have T1 : 1000000000000000 / sz d < sz a := (over_iff (ne_of yd)).2 hn.out
  have M0 := Bx.mk (Below.refl (W3 w a b c d).heap.size (W3 w a b c d))
  obtain ⟨lt0, q00, q10, q20, q30, k00, k10, k20, k30, -⟩ := QS.of M0.out
  have O0 := Bx.mk (OW.nil w (W3 w a b c d))
  go_enter Try.func54, Try.ntmps54
  go_wp2
  refine wp_loop_rounds 3 ?_
  rw [rounds_succ]
  go_wp2
  refine wp_loop_rounds 3 ?_
  rw [rounds_succ]
  have Z0 := Bx.mk (one_cell0 w a b c d (a * c))
  go_wp2_with (first
    | (go_at_call 63; (with_reducible refine (absB_any a _ (by omega) (by omega)).mono ?_); rintro e wx ⟨rfl, rfl⟩)
    | (go_at_call 63; (with_reducible refine (absB_any b _ (by omega) (by omega)).mono ?_); rintro e wx ⟨rfl, rfl⟩)
    | (go_at_call 63; (with_reducible refine (absB_any c _ (by omega) (by omega)).mono ?_); rintro e wx ⟨rfl, rfl⟩)
    | (go_at_call 63; (with_reducible refine (absB_any d _ (by omega) (by omega)).mono ?_); rintro e wx ⟨rfl, rfl⟩)
    | (at_builtin; refine wpList_append_own _ rfl _ _ _ rfl (w.heap.size + 1 + 1 + 1) 3 i0 (.int .i64 0) 1 8 Try.underlying63 hi0 hz0 hz1 hz2 rfl (by decide) _ 0 _ rfl (World.ownsRow.alloc O0.out _) ⟨w.heap.size + 1 + 1 + 1, 0, none⟩ 1 1 [.int .i64 (a * c)] rfl rfl Z0.out (fun u hu => by simp at hu; subst hu; rfl) (by simp only [maxLen]; omega) (by omega) (by have := M0.out.size; simp at this ⊢ <;> omega) ?_))
  intro v1 w1 hown hgrow _
  have M1 := Bx.mk (OW.grown O0.out M0.out hgrow)
  have O1 : Bx (OW w w1 v1 [(a * c)]) := ⟨by simpa only [OW, List.map_cons, List.map_nil, List.length_cons, List.length_nil, List.cons_append, List.nil_append, Nat.zero_add, Nat.reduceAdd] using hown⟩
  clear hown hgrow
  obtain ⟨lt1, q01, q11, q21, q31, k01, k11, k21, k31, -⟩ := QS.of M1.out
  go_wp2
  rw [rounds_succ]
  go_wp2_with (first
    | (go_at_call 63; (with_reducible refine (absB_any a _ (by omega) (by omega)).mono ?_); rintro e wx ⟨rfl, rfl⟩)
    | (go_at_call 63; (with_reducible refine (absB_any b _ (by omega) (by omega)).mono ?_); rintro e wx ⟨rfl, rfl⟩)
    | (go_at_call 63; (with_reducible refine (absB_any c _ (by omega) (by omega)).mono ?_); rintro e wx ⟨rfl, rfl⟩)
    | (go_at_call 63; (with_reducible refine (absB_any d _ (by omega) (by omega)).mono ?_); rintro e wx ⟨rfl, rfl⟩))
  obtain ⟨r0, r1⟩ := set2 (b := w.heap.size + 1 + 1) (x := .int .i64 0) (y := .int .i64 0) (.int .i64 0) (.int .i64 0) k01 k11
  refine bodyPost_ret (ret_range rfl _ _ _ _ _ _ rfl rfl r0 r1) rfl ⟨rfl, ((((((Below.refl w.heap.size w).alloc (Nat.le_refl _) _).alloc (by simp) _).alloc (by simp; omega) _).trans (M1.out.mono (by simp; omega))).setCell (by show w.heap.size ≤ w.heap.size + 1 + 1; omega) _).setCell (by show w.heap.size ≤ w.heap.size + 1 + 1; omega) _⟩

set_option maxRecDepth 100000 in
set_option maxHeartbeats 8000000 in
theorem productR_3zn (a b c d : Int) (w : World) (a1 : -1000000000000000 ≤ a) (a2 : a ≤ 1000000000000000) (b1 : -1000000000000000 ≤ b) (b2 : b ≤ 1000000000000000) (c1 : -1000000000000000 ≤ c) (c2 : c ≤ 1000000000000000) (d1 : -1000000000000000 ≤ d) (d2 : d ≤ 1000000000000000) (h0 : Bx (sz a * sz c ≤ 1000000000000000 * 1)) (h1 : Bx (sz a * sz d ≤ 1000000000000000 * 1)) (h2 : Bx (sz b * sz c ≤ 1000000000000000 * 1)) (hn : Bx (¬ sz b * sz d ≤ 1000000000000000 * 1)) (yc : (c != 0) = false) (yd : (d != 0) = true) :
    Calls Try.prog 54 #[.agg #[.int .i64 a, .int .i64 b], .agg #[.int .i64 c, .int .i64 d]] w fun e w' => e = .returned (.tuple #[.agg #[.int .i64 0, .int .i64 0], .int .i64 8]) ∧ Below w.heap.size w w' := by
  obtain ⟨i0, hi0, hz0, hz1, hz2⟩ := info_intc_parts
  have ix0 : ∀ x y w, (Instr.index 104 (.agg #[.int .i64 x, .int .i64 y]) (.int .i64 0)).run Try.prog w = .ok (.int .i64 x) w := fun _ _ _ => by kernel_rfl
  have ix1 : ∀ x y w, (Instr.index 104 (.agg #[.int .i64 x, .int .i64 y]) (.int .i64 1)).run Try.prog w = .ok (.int .i64 y) w := fun _ _ _ => by kernel_rfl
  have hmin := run_min4
  have hmax := run_max4
  have sa := sz_nonneg a
  have ta := sz_le a1 a2
  have sb := sz_nonneg b
  have tb := sz_le b1 b2
  have sc := sz_nonneg c
  have tc := sz_le c1 c2
  have sd := sz_nonneg d
  have td := sz_le d1 d2
  have pd := sz_pos' yd
  have nd : ¬ sz d = 0 := by omega
  have rd : 0 ≤ 1000000000000000 / sz d := Int.ediv_nonneg (by omega) sd
  have ud : 1000000000000000 / sz d ≤ 1000000000000000 := Int.ediv_le_self _ (by omega)
  obtain ⟨g0, g0'⟩ := fit_bd (show fitP c a from by have := h0.out; unfold fitP; rw [Int.mul_comm]; exact this)
  obtain ⟨g1, g1'⟩ := fit_bd (show fitP d a from by have := h1.out; unfold fitP; rw [Int.mul_comm]; exact this)
  have T1 : ¬ 1000000000000000 / sz d < sz a := fun h => (over_iff (ne_of yd)).1 h h1.out
  obtain ⟨g2, g2'⟩ := fit_bd (show fitP c b from by have := h2.out; unfold fitP; rw [Int.mul_comm]; exact this)
  have T3 : 1000000000000000 / sz d < sz b := (over_iff (ne_of yd)).2 hn.out
  have M0 := Bx.mk (Below.refl (W3 w a b c d).heap.size (W3 w a b c d))
  obtain ⟨lt0, q00, q10, q20, q30, k00, k10, k20, k30, -⟩ := QS.of M0.out
  have O0 := Bx.mk (OW.nil w (W3 w a b c d))
  go_enter Try.func54, Try.ntmps54
  go_wp2
  refine wp_loop_rounds 3 ?_
  rw [rounds_succ]
  go_wp2
  refine wp_loop_rounds 3 ?_
  rw [rounds_succ]
  have Z0 := Bx.mk (one_cell0 w a b c d (a * c))
  go_wp2_with (first
    | (go_at_call 63; (with_reducible refine (absB_any a _ (by omega) (by omega)).mono ?_); rintro e wx ⟨rfl, rfl⟩)
    | (go_at_call 63; (with_reducible refine (absB_any b _ (by omega) (by omega)).mono ?_); rintro e wx ⟨rfl, rfl⟩)
    | (go_at_call 63; (with_reducible refine (absB_any c _ (by omega) (by omega)).mono ?_); rintro e wx ⟨rfl, rfl⟩)
    | (go_at_call 63; (with_reducible refine (absB_any d _ (by omega) (by omega)).mono ?_); rintro e wx ⟨rfl, rfl⟩)
    | (at_builtin; refine wpList_append_own _ rfl _ _ _ rfl (w.heap.size + 1 + 1 + 1) 3 i0 (.int .i64 0) 1 8 Try.underlying63 hi0 hz0 hz1 hz2 rfl (by decide) _ 0 _ rfl (World.ownsRow.alloc O0.out _) ⟨w.heap.size + 1 + 1 + 1, 0, none⟩ 1 1 [.int .i64 (a * c)] rfl rfl Z0.out (fun u hu => by simp at hu; subst hu; rfl) (by simp only [maxLen]; omega) (by omega) (by have := M0.out.size; simp at this ⊢ <;> omega) ?_))
  intro v1 w1 hown hgrow _
  have M1 := Bx.mk (OW.grown O0.out M0.out hgrow)
  have O1 : Bx (OW w w1 v1 [(a * c)]) := ⟨by simpa only [OW, List.map_cons, List.map_nil, List.length_cons, List.length_nil, List.cons_append, List.nil_append, Nat.zero_add, Nat.reduceAdd] using hown⟩
  clear hown hgrow
  obtain ⟨lt1, q01, q11, q21, q31, k01, k11, k21, k31, -⟩ := QS.of M1.out
  go_wp2
  rw [rounds_succ]
  have Z1 := Bx.mk (one_cell w1 (a * d))
  go_wp2_with (first
    | (go_at_call 63; (with_reducible refine (absB_any a _ (by omega) (by omega)).mono ?_); rintro e wx ⟨rfl, rfl⟩)
    | (go_at_call 63; (with_reducible refine (absB_any b _ (by omega) (by omega)).mono ?_); rintro e wx ⟨rfl, rfl⟩)
    | (go_at_call 63; (with_reducible refine (absB_any c _ (by omega) (by omega)).mono ?_); rintro e wx ⟨rfl, rfl⟩)
    | (go_at_call 63; (with_reducible refine (absB_any d _ (by omega) (by omega)).mono ?_); rintro e wx ⟨rfl, rfl⟩)
    | (at_builtin; refine wpList_append_own _ rfl _ _ _ rfl (w.heap.size + 1 + 1 + 1) 3 i0 (.int .i64 0) 1 8 Try.underlying63 hi0 hz0 hz1 hz2 rfl (by decide) _ 1 _ rfl (World.ownsRow.alloc O1.out _) ⟨(World.heap w1).size, 0, none⟩ 1 1 [.int .i64 (a * d)] rfl rfl Z1.out (fun u hu => by simp at hu; subst hu; rfl) (by simp only [maxLen]; omega) (by omega) (by have := M1.out.size; simp at this ⊢ <;> omega) ?_))
  intro v2 w2 hown hgrow _
  have M2 := Bx.mk (OW.grown O1.out M1.out hgrow)
  have O2 : Bx (OW w w2 v2 [(a * c), (a * d)]) := ⟨by simpa only [OW, List.map_cons, List.map_nil, List.length_cons, List.length_nil, List.cons_append, List.nil_append, Nat.zero_add, Nat.reduceAdd] using hown⟩
  clear hown hgrow
  obtain ⟨lt2, q02, q12, q22, q32, k02, k12, k22, k32, -⟩ := QS.of M2.out
  go_wp2
  rw [rounds_succ]
  go_wp2
  rw [rounds_succ]
  go_wp2
  refine wp_loop_rounds 3 ?_
  rw [rounds_succ]
  have Z2 := Bx.mk (one_cell w2 (b * c))
  go_wp2_with (first
    | (go_at_call 63; (with_reducible refine (absB_any a _ (by omega) (by omega)).mono ?_); rintro e wx ⟨rfl, rfl⟩)
    | (go_at_call 63; (with_reducible refine (absB_any b _ (by omega) (by omega)).mono ?_); rintro e wx ⟨rfl, rfl⟩)
    | (go_at_call 63; (with_reducible refine (absB_any c _ (by omega) (by omega)).mono ?_); rintro e wx ⟨rfl, rfl⟩)
    | (go_at_call 63; (with_reducible refine (absB_any d _ (by omega) (by omega)).mono ?_); rintro e wx ⟨rfl, rfl⟩)
    | (at_builtin; refine wpList_append_own _ rfl _ _ _ rfl (w.heap.size + 1 + 1 + 1) 3 i0 (.int .i64 0) 1 8 Try.underlying63 hi0 hz0 hz1 hz2 rfl (by decide) _ 2 _ rfl (World.ownsRow.alloc O2.out _) ⟨(World.heap w2).size, 0, none⟩ 1 1 [.int .i64 (b * c)] rfl rfl Z2.out (fun u hu => by simp at hu; subst hu; rfl) (by simp only [maxLen]; omega) (by omega) (by have := M2.out.size; simp at this ⊢ <;> omega) ?_))
  intro v3 w3 hown hgrow _
  have M3 := Bx.mk (OW.grown O2.out M2.out hgrow)
  have O3 : Bx (OW w w3 v3 [(a * c), (a * d), (b * c)]) := ⟨by simpa only [OW, List.map_cons, List.map_nil, List.length_cons, List.length_nil, List.cons_append, List.nil_append, Nat.zero_add, Nat.reduceAdd] using hown⟩
  clear hown hgrow
  obtain ⟨lt3, q03, q13, q23, q33, k03, k13, k23, k33, -⟩ := QS.of M3.out
  go_wp2
  rw [rounds_succ]
  go_wp2_with (first
    | (go_at_call 63; (with_reducible refine (absB_any a _ (by omega) (by omega)).mono ?_); rintro e wx ⟨rfl, rfl⟩)
    | (go_at_call 63; (with_reducible refine (absB_any b _ (by omega) (by omega)).mono ?_); rintro e wx ⟨rfl, rfl⟩)
    | (go_at_call 63; (with_reducible refine (absB_any c _ (by omega) (by omega)).mono ?_); rintro e wx ⟨rfl, rfl⟩)
    | (go_at_call 63; (with_reducible refine (absB_any d _ (by omega) (by omega)).mono ?_); rintro e wx ⟨rfl, rfl⟩))
  obtain ⟨r0, r1⟩ := set2 (b := w.heap.size + 1 + 1) (x := .int .i64 0) (y := .int .i64 0) (.int .i64 0) (.int .i64 0) k03 k13
  refine bodyPost_ret (ret_range rfl _ _ _ _ _ _ rfl rfl r0 r1) rfl ⟨rfl, ((((((Below.refl w.heap.size w).alloc (Nat.le_refl _) _).alloc (by simp) _).alloc (by simp; omega) _).trans (M3.out.mono (by simp; omega))).setCell (by show w.heap.size ≤ w.heap.size + 1 + 1; omega) _).setCell (by show w.heap.size ≤ w.heap.size + 1 + 1; omega) _⟩

set_option maxRecDepth 100000 in
set_option maxHeartbeats 8000000 in
theorem productR_4zn (a b c d : Int) (w : World) (a1 : -1000000000000000 ≤ a) (a2 : a ≤ 1000000000000000) (b1 : -1000000000000000 ≤ b) (b2 : b ≤ 1000000000000000) (c1 : -1000000000000000 ≤ c) (c2 : c ≤ 1000000000000000) (d1 : -1000000000000000 ≤ d) (d2 : d ≤ 1000000000000000) (h0 : Bx (sz a * sz c ≤ 1000000000000000 * 1)) (h1 : Bx (sz a * sz d ≤ 1000000000000000 * 1)) (h2 : Bx (sz b * sz c ≤ 1000000000000000 * 1)) (h3 : Bx (sz b * sz d ≤ 1000000000000000 * 1)) (yc : (c != 0) = false) (yd : (d != 0) = true) :
    Calls Try.prog 54 #[.agg #[.int .i64 a, .int .i64 b], .agg #[.int .i64 c, .int .i64 d]] w fun e w' => e = .returned (.tuple #[.agg #[.int .i64 (min4 (a * c) (a * d) (b * c) (b * d)), .int .i64 (max4 (a * c) (a * d) (b * c) (b * d))], .int .i64 0]) ∧ Below w.heap.size w w' := by
  obtain ⟨i0, hi0, hz0, hz1, hz2⟩ := info_intc_parts
  have ix0 : ∀ x y w, (Instr.index 104 (.agg #[.int .i64 x, .int .i64 y]) (.int .i64 0)).run Try.prog w = .ok (.int .i64 x) w := fun _ _ _ => by kernel_rfl
  have ix1 : ∀ x y w, (Instr.index 104 (.agg #[.int .i64 x, .int .i64 y]) (.int .i64 1)).run Try.prog w = .ok (.int .i64 y) w := fun _ _ _ => by kernel_rfl
  have hmin := run_min4
  have hmax := run_max4
  have sa := sz_nonneg a
  have ta := sz_le a1 a2
  have sb := sz_nonneg b
  have tb := sz_le b1 b2
  have sc := sz_nonneg c
  have tc := sz_le c1 c2
  have sd := sz_nonneg d
  have td := sz_le d1 d2
  have pd := sz_pos' yd
  have nd : ¬ sz d = 0 := by omega
  have rd : 0 ≤ 1000000000000000 / sz d := Int.ediv_nonneg (by omega) sd
  have ud : 1000000000000000 / sz d ≤ 1000000000000000 := Int.ediv_le_self _ (by omega)
  obtain ⟨g0, g0'⟩ := fit_bd (show fitP c a from by have := h0.out; unfold fitP; rw [Int.mul_comm]; exact this)
  obtain ⟨g1, g1'⟩ := fit_bd (show fitP d a from by have := h1.out; unfold fitP; rw [Int.mul_comm]; exact this)
  have T1 : ¬ 1000000000000000 / sz d < sz a := fun h => (over_iff (ne_of yd)).1 h h1.out
  obtain ⟨g2, g2'⟩ := fit_bd (show fitP c b from by have := h2.out; unfold fitP; rw [Int.mul_comm]; exact this)
  obtain ⟨g3, g3'⟩ := fit_bd (show fitP d b from by have := h3.out; unfold fitP; rw [Int.mul_comm]; exact this)
  have T3 : ¬ 1000000000000000 / sz d < sz b := fun h => (over_iff (ne_of yd)).1 h h3.out
  have M0 := Bx.mk (Below.refl (W3 w a b c d).heap.size (W3 w a b c d))
  obtain ⟨lt0, q00, q10, q20, q30, k00, k10, k20, k30, -⟩ := QS.of M0.out
  have O0 := Bx.mk (OW.nil w (W3 w a b c d))
  go_enter Try.func54, Try.ntmps54
  go_wp2
  refine wp_loop_rounds 3 ?_
  rw [rounds_succ]
  go_wp2
  refine wp_loop_rounds 3 ?_
  rw [rounds_succ]
  have Z0 := Bx.mk (one_cell0 w a b c d (a * c))
  go_wp2_with (first
    | (go_at_call 63; (with_reducible refine (absB_any a _ (by omega) (by omega)).mono ?_); rintro e wx ⟨rfl, rfl⟩)
    | (go_at_call 63; (with_reducible refine (absB_any b _ (by omega) (by omega)).mono ?_); rintro e wx ⟨rfl, rfl⟩)
    | (go_at_call 63; (with_reducible refine (absB_any c _ (by omega) (by omega)).mono ?_); rintro e wx ⟨rfl, rfl⟩)
    | (go_at_call 63; (with_reducible refine (absB_any d _ (by omega) (by omega)).mono ?_); rintro e wx ⟨rfl, rfl⟩)
    | (at_builtin; refine wpList_append_own _ rfl _ _ _ rfl (w.heap.size + 1 + 1 + 1) 3 i0 (.int .i64 0) 1 8 Try.underlying63 hi0 hz0 hz1 hz2 rfl (by decide) _ 0 _ rfl (World.ownsRow.alloc O0.out _) ⟨w.heap.size + 1 + 1 + 1, 0, none⟩ 1 1 [.int .i64 (a * c)] rfl rfl Z0.out (fun u hu => by simp at hu; subst hu; rfl) (by simp only [maxLen]; omega) (by omega) (by have := M0.out.size; simp at this ⊢ <;> omega) ?_))
  intro v1 w1 hown hgrow _
  have M1 := Bx.mk (OW.grown O0.out M0.out hgrow)
  have O1 : Bx (OW w w1 v1 [(a * c)]) := ⟨by simpa only [OW, List.map_cons, List.map_nil, List.length_cons, List.length_nil, List.cons_append, List.nil_append, Nat.zero_add, Nat.reduceAdd] using hown⟩
  clear hown hgrow
  obtain ⟨lt1, q01, q11, q21, q31, k01, k11, k21, k31, -⟩ := QS.of M1.out
  go_wp2
  rw [rounds_succ]
  have Z1 := Bx.mk (one_cell w1 (a * d))
  go_wp2_with (first
    | (go_at_call 63; (with_reducible refine (absB_any a _ (by omega) (by omega)).mono ?_); rintro e wx ⟨rfl, rfl⟩)
    | (go_at_call 63; (with_reducible refine (absB_any b _ (by omega) (by omega)).mono ?_); rintro e wx ⟨rfl, rfl⟩)
    | (go_at_call 63; (with_reducible refine (absB_any c _ (by omega) (by omega)).mono ?_); rintro e wx ⟨rfl, rfl⟩)
    | (go_at_call 63; (with_reducible refine (absB_any d _ (by omega) (by omega)).mono ?_); rintro e wx ⟨rfl, rfl⟩)
    | (at_builtin; refine wpList_append_own _ rfl _ _ _ rfl (w.heap.size + 1 + 1 + 1) 3 i0 (.int .i64 0) 1 8 Try.underlying63 hi0 hz0 hz1 hz2 rfl (by decide) _ 1 _ rfl (World.ownsRow.alloc O1.out _) ⟨(World.heap w1).size, 0, none⟩ 1 1 [.int .i64 (a * d)] rfl rfl Z1.out (fun u hu => by simp at hu; subst hu; rfl) (by simp only [maxLen]; omega) (by omega) (by have := M1.out.size; simp at this ⊢ <;> omega) ?_))
  intro v2 w2 hown hgrow _
  have M2 := Bx.mk (OW.grown O1.out M1.out hgrow)
  have O2 : Bx (OW w w2 v2 [(a * c), (a * d)]) := ⟨by simpa only [OW, List.map_cons, List.map_nil, List.length_cons, List.length_nil, List.cons_append, List.nil_append, Nat.zero_add, Nat.reduceAdd] using hown⟩
  clear hown hgrow
  obtain ⟨lt2, q02, q12, q22, q32, k02, k12, k22, k32, -⟩ := QS.of M2.out
  go_wp2
  rw [rounds_succ]
  go_wp2
  rw [rounds_succ]
  go_wp2
  refine wp_loop_rounds 3 ?_
  rw [rounds_succ]
  have Z2 := Bx.mk (one_cell w2 (b * c))
  go_wp2_with (first
    | (go_at_call 63; (with_reducible refine (absB_any a _ (by omega) (by omega)).mono ?_); rintro e wx ⟨rfl, rfl⟩)
    | (go_at_call 63; (with_reducible refine (absB_any b _ (by omega) (by omega)).mono ?_); rintro e wx ⟨rfl, rfl⟩)
    | (go_at_call 63; (with_reducible refine (absB_any c _ (by omega) (by omega)).mono ?_); rintro e wx ⟨rfl, rfl⟩)
    | (go_at_call 63; (with_reducible refine (absB_any d _ (by omega) (by omega)).mono ?_); rintro e wx ⟨rfl, rfl⟩)
    | (at_builtin; refine wpList_append_own _ rfl _ _ _ rfl (w.heap.size + 1 + 1 + 1) 3 i0 (.int .i64 0) 1 8 Try.underlying63 hi0 hz0 hz1 hz2 rfl (by decide) _ 2 _ rfl (World.ownsRow.alloc O2.out _) ⟨(World.heap w2).size, 0, none⟩ 1 1 [.int .i64 (b * c)] rfl rfl Z2.out (fun u hu => by simp at hu; subst hu; rfl) (by simp only [maxLen]; omega) (by omega) (by have := M2.out.size; simp at this ⊢ <;> omega) ?_))
  intro v3 w3 hown hgrow _
  have M3 := Bx.mk (OW.grown O2.out M2.out hgrow)
  have O3 : Bx (OW w w3 v3 [(a * c), (a * d), (b * c)]) := ⟨by simpa only [OW, List.map_cons, List.map_nil, List.length_cons, List.length_nil, List.cons_append, List.nil_append, Nat.zero_add, Nat.reduceAdd] using hown⟩
  clear hown hgrow
  obtain ⟨lt3, q03, q13, q23, q33, k03, k13, k23, k33, -⟩ := QS.of M3.out
  go_wp2
  rw [rounds_succ]
  have Z3 := Bx.mk (one_cell w3 (b * d))
  go_wp2_with (first
    | (go_at_call 63; (with_reducible refine (absB_any a _ (by omega) (by omega)).mono ?_); rintro e wx ⟨rfl, rfl⟩)
    | (go_at_call 63; (with_reducible refine (absB_any b _ (by omega) (by omega)).mono ?_); rintro e wx ⟨rfl, rfl⟩)
    | (go_at_call 63; (with_reducible refine (absB_any c _ (by omega) (by omega)).mono ?_); rintro e wx ⟨rfl, rfl⟩)
    | (go_at_call 63; (with_reducible refine (absB_any d _ (by omega) (by omega)).mono ?_); rintro e wx ⟨rfl, rfl⟩)
    | (at_builtin; refine wpList_append_own _ rfl _ _ _ rfl (w.heap.size + 1 + 1 + 1) 3 i0 (.int .i64 0) 1 8 Try.underlying63 hi0 hz0 hz1 hz2 rfl (by decide) _ 3 _ rfl (World.ownsRow.alloc O3.out _) ⟨(World.heap w3).size, 0, none⟩ 1 1 [.int .i64 (b * d)] rfl rfl Z3.out (fun u hu => by simp at hu; subst hu; rfl) (by simp only [maxLen]; omega) (by omega) (by have := M3.out.size; simp at this ⊢ <;> omega) ?_))
  intro v4 w4 hown hgrow _
  have M4 := Bx.mk (OW.grown O3.out M3.out hgrow)
  have O4 : Bx (OW w w4 v4 [(a * c), (a * d), (b * c), (b * d)]) := ⟨by simpa only [OW, List.map_cons, List.map_nil, List.length_cons, List.length_nil, List.cons_append, List.nil_append, Nat.zero_add, Nat.reduceAdd] using hown⟩
  clear hown hgrow
  obtain ⟨lt4, q04, q14, q24, q34, k04, k14, k24, k34, -⟩ := QS.of M4.out
  go_wp2
  rw [rounds_succ]
  go_wp2
  rw [rounds_succ]
  go_wp2
  obtain ⟨g, cap, rfl, gl, gs⟩ := O4.out.form (by simp)
  have y0 := O4.out.at 0 (by simp)
  have y1 := O4.out.at 1 (by simp)
  have y2 := O4.out.at 2 (by simp)
  have y3 := O4.out.at 3 (by simp)
  simp only [List.getD_cons_zero, List.getD_cons_succ] at y0 y1 y2 y3
  simp only [List.length_cons, List.length_nil, Nat.zero_add, Nat.reduceAdd]
  go_region_held3 (fun w' => w'.cell? ⟨g, 0, none⟩ = some (.int .i64 (a * c)) ∧ w'.cell? ⟨g, 1, none⟩ = some (.int .i64 (a * d)) ∧ w'.cell? ⟨g, 2, none⟩ = some (.int .i64 (b * c)) ∧ w'.cell? ⟨g, 3, none⟩ = some (.int .i64 (b * d))) (first | exact ⟨y0, y1, y2, y3⟩ | exact ⟨keep2 y0 (by omega), keep2 y1 (by omega), keep2 y2 (by omega), keep2 y3 (by omega)⟩) (fail)
  all_goals (try go_wp2)
  all_goals
    obtain ⟨r0, r1⟩ := set2 (b := w.heap.size + 1 + 1) (x := .int .i64 0) (y := .int .i64 0) (.int .i64 (min4 (a * c) (a * d) (b * c) (b * d))) (.int .i64 (max4 (a * c) (a * d) (b * c) (b * d))) k04 k14
    refine bodyPost_ret (ret_range rfl _ _ _ _ _ _ rfl rfl r0 r1) rfl ⟨rfl, ?_⟩
    first
    | exact ((((((Below.refl w.heap.size w).alloc (Nat.le_refl _) _).alloc (by simp) _).alloc (by simp; omega) _).trans (M4.out.mono (by simp; omega))).setCell (by show w.heap.size ≤ w.heap.size + 1 + 1; omega) _).setCell (by show w.heap.size ≤ w.heap.size + 1 + 1; omega) _
    | exact (((((((Below.refl w.heap.size w).alloc (Nat.le_refl _) _).alloc (by simp) _).alloc (by simp; omega) _).trans (M4.out.mono (by simp; omega))).drew).setCell (by show w.heap.size ≤ w.heap.size + 1 + 1; omega) _).setCell (by show w.heap.size ≤ w.heap.size + 1 + 1; omega) _
    | exact (((((((Below.refl w.heap.size w).alloc (Nat.le_refl _) _).alloc (by simp) _).alloc (by simp; omega) _).trans (M4.out.mono (by simp; omega))).setCell (by show w.heap.size ≤ w.heap.size + 1 + 1; omega) _).setCell (by show w.heap.size ≤ w.heap.size + 1 + 1; omega) _).drew

set_option maxRecDepth 100000 in
set_option maxHeartbeats 8000000 in
theorem productR_4zz (a b c d : Int) (w : World) (a1 : -1000000000000000 ≤ a) (a2 : a ≤ 1000000000000000) (b1 : -1000000000000000 ≤ b) (b2 : b ≤ 1000000000000000) (c1 : -1000000000000000 ≤ c) (c2 : c ≤ 1000000000000000) (d1 : -1000000000000000 ≤ d) (d2 : d ≤ 1000000000000000) (h0 : Bx (sz a * sz c ≤ 1000000000000000 * 1)) (h1 : Bx (sz a * sz d ≤ 1000000000000000 * 1)) (h2 : Bx (sz b * sz c ≤ 1000000000000000 * 1)) (h3 : Bx (sz b * sz d ≤ 1000000000000000 * 1)) (yc : (c != 0) = false) (yd : (d != 0) = false) :
    Calls Try.prog 54 #[.agg #[.int .i64 a, .int .i64 b], .agg #[.int .i64 c, .int .i64 d]] w fun e w' => e = .returned (.tuple #[.agg #[.int .i64 (min4 (a * c) (a * d) (b * c) (b * d)), .int .i64 (max4 (a * c) (a * d) (b * c) (b * d))], .int .i64 0]) ∧ Below w.heap.size w w' := by
  obtain ⟨i0, hi0, hz0, hz1, hz2⟩ := info_intc_parts
  have ix0 : ∀ x y w, (Instr.index 104 (.agg #[.int .i64 x, .int .i64 y]) (.int .i64 0)).run Try.prog w = .ok (.int .i64 x) w := fun _ _ _ => by kernel_rfl
  have ix1 : ∀ x y w, (Instr.index 104 (.agg #[.int .i64 x, .int .i64 y]) (.int .i64 1)).run Try.prog w = .ok (.int .i64 y) w := fun _ _ _ => by kernel_rfl
  have hmin := run_min4
  have hmax := run_max4
  have sa := sz_nonneg a
  have ta := sz_le a1 a2
  have sb := sz_nonneg b
  have tb := sz_le b1 b2
  have sc := sz_nonneg c
  have tc := sz_le c1 c2
  have sd := sz_nonneg d
  have td := sz_le d1 d2
  obtain ⟨g0, g0'⟩ := fit_bd (show fitP c a from by have := h0.out; unfold fitP; rw [Int.mul_comm]; exact this)
  obtain ⟨g1, g1'⟩ := fit_bd (show fitP d a from by have := h1.out; unfold fitP; rw [Int.mul_comm]; exact this)
  obtain ⟨g2, g2'⟩ := fit_bd (show fitP c b from by have := h2.out; unfold fitP; rw [Int.mul_comm]; exact this)
  obtain ⟨g3, g3'⟩ := fit_bd (show fitP d b from by have := h3.out; unfold fitP; rw [Int.mul_comm]; exact this)
  have M0 := Bx.mk (Below.refl (W3 w a b c d).heap.size (W3 w a b c d))
  obtain ⟨lt0, q00, q10, q20, q30, k00, k10, k20, k30, -⟩ := QS.of M0.out
  have O0 := Bx.mk (OW.nil w (W3 w a b c d))
  go_enter Try.func54, Try.ntmps54
  go_wp2
  refine wp_loop_rounds 3 ?_
  rw [rounds_succ]
  go_wp2
  refine wp_loop_rounds 3 ?_
  rw [rounds_succ]
  have Z0 := Bx.mk (one_cell0 w a b c d (a * c))
  go_wp2_with (first
    | (go_at_call 63; (with_reducible refine (absB_any a _ (by omega) (by omega)).mono ?_); rintro e wx ⟨rfl, rfl⟩)
    | (go_at_call 63; (with_reducible refine (absB_any b _ (by omega) (by omega)).mono ?_); rintro e wx ⟨rfl, rfl⟩)
    | (go_at_call 63; (with_reducible refine (absB_any c _ (by omega) (by omega)).mono ?_); rintro e wx ⟨rfl, rfl⟩)
    | (go_at_call 63; (with_reducible refine (absB_any d _ (by omega) (by omega)).mono ?_); rintro e wx ⟨rfl, rfl⟩)
    | (at_builtin; refine wpList_append_own _ rfl _ _ _ rfl (w.heap.size + 1 + 1 + 1) 3 i0 (.int .i64 0) 1 8 Try.underlying63 hi0 hz0 hz1 hz2 rfl (by decide) _ 0 _ rfl (World.ownsRow.alloc O0.out _) ⟨w.heap.size + 1 + 1 + 1, 0, none⟩ 1 1 [.int .i64 (a * c)] rfl rfl Z0.out (fun u hu => by simp at hu; subst hu; rfl) (by simp only [maxLen]; omega) (by omega) (by have := M0.out.size; simp at this ⊢ <;> omega) ?_))
  intro v1 w1 hown hgrow _
  have M1 := Bx.mk (OW.grown O0.out M0.out hgrow)
  have O1 : Bx (OW w w1 v1 [(a * c)]) := ⟨by simpa only [OW, List.map_cons, List.map_nil, List.length_cons, List.length_nil, List.cons_append, List.nil_append, Nat.zero_add, Nat.reduceAdd] using hown⟩
  clear hown hgrow
  obtain ⟨lt1, q01, q11, q21, q31, k01, k11, k21, k31, -⟩ := QS.of M1.out
  go_wp2
  rw [rounds_succ]
  have Z1 := Bx.mk (one_cell w1 (a * d))
  go_wp2_with (first
    | (go_at_call 63; (with_reducible refine (absB_any a _ (by omega) (by omega)).mono ?_); rintro e wx ⟨rfl, rfl⟩)
    | (go_at_call 63; (with_reducible refine (absB_any b _ (by omega) (by omega)).mono ?_); rintro e wx ⟨rfl, rfl⟩)
    | (go_at_call 63; (with_reducible refine (absB_any c _ (by omega) (by omega)).mono ?_); rintro e wx ⟨rfl, rfl⟩)
    | (go_at_call 63; (with_reducible refine (absB_any d _ (by omega) (by omega)).mono ?_); rintro e wx ⟨rfl, rfl⟩)
    | (at_builtin; refine wpList_append_own _ rfl _ _ _ rfl (w.heap.size + 1 + 1 + 1) 3 i0 (.int .i64 0) 1 8 Try.underlying63 hi0 hz0 hz1 hz2 rfl (by decide) _ 1 _ rfl (World.ownsRow.alloc O1.out _) ⟨(World.heap w1).size, 0, none⟩ 1 1 [.int .i64 (a * d)] rfl rfl Z1.out (fun u hu => by simp at hu; subst hu; rfl) (by simp only [maxLen]; omega) (by omega) (by have := M1.out.size; simp at this ⊢ <;> omega) ?_))
  intro v2 w2 hown hgrow _
  have M2 := Bx.mk (OW.grown O1.out M1.out hgrow)
  have O2 : Bx (OW w w2 v2 [(a * c), (a * d)]) := ⟨by simpa only [OW, List.map_cons, List.map_nil, List.length_cons, List.length_nil, List.cons_append, List.nil_append, Nat.zero_add, Nat.reduceAdd] using hown⟩
  clear hown hgrow
  obtain ⟨lt2, q02, q12, q22, q32, k02, k12, k22, k32, -⟩ := QS.of M2.out
  go_wp2
  rw [rounds_succ]
  go_wp2
  rw [rounds_succ]
  go_wp2
  refine wp_loop_rounds 3 ?_
  rw [rounds_succ]
  have Z2 := Bx.mk (one_cell w2 (b * c))
  go_wp2_with (first
    | (go_at_call 63; (with_reducible refine (absB_any a _ (by omega) (by omega)).mono ?_); rintro e wx ⟨rfl, rfl⟩)
    | (go_at_call 63; (with_reducible refine (absB_any b _ (by omega) (by omega)).mono ?_); rintro e wx ⟨rfl, rfl⟩)
    | (go_at_call 63; (with_reducible refine (absB_any c _ (by omega) (by omega)).mono ?_); rintro e wx ⟨rfl, rfl⟩)
    | (go_at_call 63; (with_reducible refine (absB_any d _ (by omega) (by omega)).mono ?_); rintro e wx ⟨rfl, rfl⟩)
    | (at_builtin; refine wpList_append_own _ rfl _ _ _ rfl (w.heap.size + 1 + 1 + 1) 3 i0 (.int .i64 0) 1 8 Try.underlying63 hi0 hz0 hz1 hz2 rfl (by decide) _ 2 _ rfl (World.ownsRow.alloc O2.out _) ⟨(World.heap w2).size, 0, none⟩ 1 1 [.int .i64 (b * c)] rfl rfl Z2.out (fun u hu => by simp at hu; subst hu; rfl) (by simp only [maxLen]; omega) (by omega) (by have := M2.out.size; simp at this ⊢ <;> omega) ?_))
  intro v3 w3 hown hgrow _
  have M3 := Bx.mk (OW.grown O2.out M2.out hgrow)
  have O3 : Bx (OW w w3 v3 [(a * c), (a * d), (b * c)]) := ⟨by simpa only [OW, List.map_cons, List.map_nil, List.length_cons, List.length_nil, List.cons_append, List.nil_append, Nat.zero_add, Nat.reduceAdd] using hown⟩
  clear hown hgrow
  obtain ⟨lt3, q03, q13, q23, q33, k03, k13, k23, k33, -⟩ := QS.of M3.out
  go_wp2
  rw [rounds_succ]
  have Z3 := Bx.mk (one_cell w3 (b * d))
  go_wp2_with (first
    | (go_at_call 63; (with_reducible refine (absB_any a _ (by omega) (by omega)).mono ?_); rintro e wx ⟨rfl, rfl⟩)
    | (go_at_call 63; (with_reducible refine (absB_any b _ (by omega) (by omega)).mono ?_); rintro e wx ⟨rfl, rfl⟩)
    | (go_at_call 63; (with_reducible refine (absB_any c _ (by omega) (by omega)).mono ?_); rintro e wx ⟨rfl, rfl⟩)
    | (go_at_call 63; (with_reducible refine (absB_any d _ (by omega) (by omega)).mono ?_); rintro e wx ⟨rfl, rfl⟩)
    | (at_builtin; refine wpList_append_own _ rfl _ _ _ rfl (w.heap.size + 1 + 1 + 1) 3 i0 (.int .i64 0) 1 8 Try.underlying63 hi0 hz0 hz1 hz2 rfl (by decide) _ 3 _ rfl (World.ownsRow.alloc O3.out _) ⟨(World.heap w3).size, 0, none⟩ 1 1 [.int .i64 (b * d)] rfl rfl Z3.out (fun u hu => by simp at hu; subst hu; rfl) (by simp only [maxLen]; omega) (by omega) (by have := M3.out.size; simp at this ⊢ <;> omega) ?_))
  intro v4 w4 hown hgrow _
  have M4 := Bx.mk (OW.grown O3.out M3.out hgrow)
  have O4 : Bx (OW w w4 v4 [(a * c), (a * d), (b * c), (b * d)]) := ⟨by simpa only [OW, List.map_cons, List.map_nil, List.length_cons, List.length_nil, List.cons_append, List.nil_append, Nat.zero_add, Nat.reduceAdd] using hown⟩
  clear hown hgrow
  obtain ⟨lt4, q04, q14, q24, q34, k04, k14, k24, k34, -⟩ := QS.of M4.out
  go_wp2
  rw [rounds_succ]
  go_wp2
  rw [rounds_succ]
  go_wp2
  obtain ⟨g, cap, rfl, gl, gs⟩ := O4.out.form (by simp)
  have y0 := O4.out.at 0 (by simp)
  have y1 := O4.out.at 1 (by simp)
  have y2 := O4.out.at 2 (by simp)
  have y3 := O4.out.at 3 (by simp)
  simp only [List.getD_cons_zero, List.getD_cons_succ] at y0 y1 y2 y3
  simp only [List.length_cons, List.length_nil, Nat.zero_add, Nat.reduceAdd]
  go_region_held3 (fun w' => w'.cell? ⟨g, 0, none⟩ = some (.int .i64 (a * c)) ∧ w'.cell? ⟨g, 1, none⟩ = some (.int .i64 (a * d)) ∧ w'.cell? ⟨g, 2, none⟩ = some (.int .i64 (b * c)) ∧ w'.cell? ⟨g, 3, none⟩ = some (.int .i64 (b * d))) (first | exact ⟨y0, y1, y2, y3⟩ | exact ⟨keep2 y0 (by omega), keep2 y1 (by omega), keep2 y2 (by omega), keep2 y3 (by omega)⟩) (fail)
  all_goals (try go_wp2)
  all_goals
    obtain ⟨r0, r1⟩ := set2 (b := w.heap.size + 1 + 1) (x := .int .i64 0) (y := .int .i64 0) (.int .i64 (min4 (a * c) (a * d) (b * c) (b * d))) (.int .i64 (max4 (a * c) (a * d) (b * c) (b * d))) k04 k14
    refine bodyPost_ret (ret_range rfl _ _ _ _ _ _ rfl rfl r0 r1) rfl ⟨rfl, ?_⟩
    first
    | exact ((((((Below.refl w.heap.size w).alloc (Nat.le_refl _) _).alloc (by simp) _).alloc (by simp; omega) _).trans (M4.out.mono (by simp; omega))).setCell (by show w.heap.size ≤ w.heap.size + 1 + 1; omega) _).setCell (by show w.heap.size ≤ w.heap.size + 1 + 1; omega) _
    | exact (((((((Below.refl w.heap.size w).alloc (Nat.le_refl _) _).alloc (by simp) _).alloc (by simp; omega) _).trans (M4.out.mono (by simp; omega))).drew).setCell (by show w.heap.size ≤ w.heap.size + 1 + 1; omega) _).setCell (by show w.heap.size ≤ w.heap.size + 1 + 1; omega) _
    | exact (((((((Below.refl w.heap.size w).alloc (Nat.le_refl _) _).alloc (by simp) _).alloc (by simp; omega) _).trans (M4.out.mono (by simp; omega))).setCell (by show w.heap.size ≤ w.heap.size + 1 + 1; omega) _).setCell (by show w.heap.size ≤ w.heap.size + 1 + 1; omega) _).drew

end Go.Proofs.Ytlkfkekglmjhhaa
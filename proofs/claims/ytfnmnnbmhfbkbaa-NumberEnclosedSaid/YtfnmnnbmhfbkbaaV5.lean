/- The reference's lists of wide numbers, in memory. -/
import Derived.Test.YtfnmnnbmhfbkbaaV4
import Derived.Test.YtfnmnnbmhfbkbaaBf
set_option linter.unusedVariables false
set_option linter.unusedSimpArgs false
namespace Go.Proofs.Ytfnmnnbmhfbkbaa
open Go.RowKit

/-- Block g is a row of wide numbers. -/
def WideRow (w : World) (g : Nat) : Prop := ∃ cs, w.heap[g]? = some (.cells cs 138 (0, 0))
theorem WideRow.lt {w : World} {b : Nat} (h : WideRow w b) : b < w.heap.size := by
  obtain ⟨cs, h⟩ := h
  exact (Array.getElem?_eq_some_iff.1 h).1
theorem WideRow.below {w w' : World} {b B : Nat} (h : WideRow w b) (hB : w.heap.size ≤ B) (hb : Below B w w') : WideRow w' b := by
  have hl := h.lt
  obtain ⟨cs, h⟩ := h
  exact ⟨cs, (hb.block b (by omega)).trans h⟩
theorem WideRow.set {w : World} {b : Nat} (h : WideRow w b) (p : Addr) (v : Value) (hp0 : p.spot = none := by rfl) : WideRow (w.setCell p v) b := by
  obtain ⟨cs, h⟩ := h
  by_cases hp : p.block = b
  · exact ⟨cs.setIfInBounds p.off v, by simp [World.setCell, Array.getElem?_modify, h, hp, hp0]⟩
  · exact ⟨cs, by simp [World.setCell, Array.getElem?_modify, h, hp]⟩
theorem wide_new (w : World) (cs : Array Value) : WideRow (w.alloc (.cells cs 138)) w.heap.size := by
  obtain ⟨c, h, _⟩ := World.rowIs_alloc w cs 138 (fun i => cs.getD i undef) (fun i hi => by simp [Array.getD, hi])
  exact ⟨c, h⟩
theorem WideRow.ne {w : World} {g k : Nat} (h : WideRow w g) (hk : IntRow w k) : k ≠ g := by
  rintro rfl
  obtain ⟨cs, h⟩ := h
  obtain ⟨cs', h'⟩ := hk
  rw [h] at h'
  simp at h'
theorem WG.setIn {w : World} {b : Int} {sv : Value} {z : Int} {L g : Nat} (h : WG w b sv z L) (hb : WideRow w g) (i j : Nat) (u v : Value) : WG ((w.setCell ⟨g, i, none⟩ u).setCell ⟨g, j, none⟩ v) b sv z L := by
  obtain ⟨A, n, c, f, e, h1, h2⟩ := h
  refine ⟨A, n, c, f, e, ⟨h1.1, fun hn => ?_⟩, h2⟩
  obtain ⟨k, e, hl, hc⟩ := h1.2 hn
  have hne : k ≠ g := hb.ne hl
  refine ⟨k, e, (hl.set _ _ (Ne.symm hne)).set _ _ (Ne.symm hne), fun j' hj => ?_⟩
  rw [World.cell?_setCell_other _ _ _ _ (by simp <;> omega), World.cell?_setCell_other _ _ _ _ (by simp <;> omega)]
  exact hc j' hj
theorem WG.form {w : World} {b : Int} {sv : Value} {z : Int} {L : Nat} (h : WG w b sv z L) : ∃ A n c, sv = .slice A n c := by
  obtain ⟨A, n, c, f, e, _⟩ := h
  exact ⟨A, n, c, e⟩
theorem WG.drew {w : World} {b : Int} {sv : Value} {z : Int} {L : Nat} (h : WG w b sv z L) : WG w.drew b sv z L := h
theorem WG.zero (w : World) (L : Nat) : WG w 0 (.slice none 0 0) 0 L := ⟨none, 0, 0, fun _ => 0, rfl, ⟨fun _ h => by omega, fun h => by omega⟩, fun h => by omega, by omega, by omega, by omega, by simp, by simp, by omega, by omega⟩
theorem WG.grown {w w' : World} {b : Int} {sv : Value} {z : Int} {L : Nat} {row : Option Nat} (h : WG w b sv z L) (hg : w.grownBy w' row) (hr : ∀ g, row = some g → WideRow w g) : WG w' b sv z L := by
  obtain ⟨A, n, c, f, e, h1, h2⟩ := h
  refine ⟨A, n, c, f, e, ⟨h1.1, fun hn => ?_⟩, h2⟩
  obtain ⟨k, e, hl, hc⟩ := h1.2 hn
  have hb : w'.heap[k]? = w.heap[k]? := hg.block k hl.lt (fun e => (hr k e.symm).ne hl rfl)
  refine ⟨k, e, ?_, fun j hj => ?_⟩
  · obtain ⟨cs, h⟩ := hl
    exact ⟨cs, hb.trans h⟩
  · rw [World.cell?_of_block (a := ⟨k, j, none⟩) hb]; exact hc j hj

/-- Block g holds the n coefficients z. -/
def WPR (w : World) (g n : Nat) (z : Row) (L : Nat) : Prop :=
  WideRow w g ∧ ∀ i, i < n → ∃ b sv, w.cell? ⟨g, i * 2, none⟩ = some (.int .i64 b) ∧ w.cell? ⟨g, i * 2 + 1, none⟩ = some sv ∧ w.frozen? ⟨g, i * 2, none⟩ = false ∧ w.frozen? ⟨g, i * 2 + 1, none⟩ = false ∧ WG w b sv (z i) L

/-- The slice at A does. -/
def WPA (w : World) (A : Option Addr) (n : Nat) (z : Row) (L : Nat) : Prop := 0 < n → ∃ g, A = some ⟨g, 0, none⟩ ∧ WPR w g n z L

theorem WPR.below {w w' : World} {g n : Nat} {z : Row} {L B : Nat} (h : WPR w g n z L) (hB : w.heap.size ≤ B) (hb : Below B w w') : WPR w' g n z L :=
  ⟨h.1.below hB hb, fun i hi => by
    have hg := h.1.lt
    obtain ⟨b, sv, h1, h2, h3, h4, h5⟩ := h.2 i hi
    exact ⟨b, sv, (hb.cell (p := ⟨g, i * 2, none⟩) (by show g < B; omega)).trans h1, (hb.cell (p := ⟨g, i * 2 + 1, none⟩) (by show g < B; omega)).trans h2,
      (hb.frozen (p := ⟨g, i * 2, none⟩) (by show g < B; omega)).trans h3, (hb.frozen (p := ⟨g, i * 2 + 1, none⟩) (by show g < B; omega)).trans h4, h5.below hB hb⟩⟩

theorem WPA.below {w w' : World} {A : Option Addr} {n : Nat} {z : Row} {L B : Nat} (h : WPA w A n z L) (hB : w.heap.size ≤ B) (hb : Below B w w') : WPA w' A n z L := fun hn => by
  obtain ⟨g, e, hp⟩ := h hn
  exact ⟨g, e, hp.below hB hb⟩

theorem WPR.congr {w : World} {g n : Nat} {z y : Row} {L : Nat} (h : WPR w g n z L) (e : ∀ i, i < n → z i = y i) : WPR w g n y L :=
  ⟨h.1, fun i hi => by rw [← e i hi]; exact h.2 i hi⟩

theorem WPR.more {w : World} {g n : Nat} {z : Row} {L L' : Nat} (h : WPR w g n z L) (hL : L ≤ L') : WPR w g n z L' :=
  ⟨h.1, fun i hi => by
    obtain ⟨b, sv, h1, h2, h3, h4, h5⟩ := h.2 i hi
    exact ⟨b, sv, h1, h2, h3, h4, h5.more hL⟩⟩

theorem WPR.less {w : World} {g n m : Nat} {z : Row} {L : Nat} (h : WPR w g n z L) (hm : m ≤ n) : WPR w g m z L := ⟨h.1, fun i hi => h.2 i (by omega)⟩

theorem WPA.more {w : World} {A : Option Addr} {n : Nat} {z : Row} {L L' : Nat} (h : WPA w A n z L) (hL : L ≤ L') : WPA w A n z L' := fun hn => by
  obtain ⟨g, e, hp⟩ := h hn
  exact ⟨g, e, hp.more hL⟩

theorem WPA.of {w : World} {g n : Nat} {z : Row} {L : Nat} (h : WPR w g n z L) : WPA w (some ⟨g, 0, none⟩) n z L := fun _ => ⟨g, rfl, h⟩

/-- One coefficient set. -/
theorem WPR.set {w : World} {g n : Nat} {z : Row} {L : Nat} (h : WPR w g n z L) {k : Nat} (hk : k < n) {b : Int} {sv : Value} {v : Int} (hv : WG w b sv v L) :
    WPR ((w.setCell ⟨g, k * 2, none⟩ (.int .i64 b)).setCell ⟨g, k * 2 + 1, none⟩ sv) g n (upd z k v) L := by
  obtain ⟨b0, sv0, c0, -, -, -, -⟩ := h.2 0 (by omega)
  have c0' : w.cell? ⟨g, 0, none⟩ = some (.int .i64 b0) := c0
  refine ⟨(h.1.set _ _).set _ _, fun i hi => ?_⟩
  obtain ⟨b1, sv1, h1, h2, h3, h4, h5⟩ := h.2 i hi
  obtain ⟨b2, sv2, k1, k2, k3, k4, k5⟩ := h.2 k hk
  have e1 : (w.setCell ⟨g, k * 2, none⟩ (.int .i64 b)).cell? ⟨g, k * 2, none⟩ = some (.int .i64 b) := World.cell?_setCell_same' _ _ _ (by rw [k1]; rfl)
  have e2 : (w.setCell ⟨g, k * 2, none⟩ (.int .i64 b)).cell? ⟨g, k * 2 + 1, none⟩ = some sv2 := by rw [World.cell?_setCell_other _ _ _ _ (by simp)]; exact k2
  by_cases e : i = k
  · subst e
    refine ⟨b, sv, ?_, World.cell?_setCell_same' _ _ _ (by rw [e2]; rfl), by simp only [World.frozen?_setCell]; exact h3, by simp only [World.frozen?_setCell]; exact h4, ?_⟩
    · rw [World.cell?_setCell_other _ _ _ _ (by simp)]; exact e1
    · rw [upd_same]; exact hv.setIn h.1 _ _ _ _
  · refine ⟨b1, sv1, ?_, ?_, by simp only [World.frozen?_setCell]; exact h3, by simp only [World.frozen?_setCell]; exact h4, ?_⟩
    · rw [World.cell?_setCell_other _ _ _ _ (by simp <;> omega), World.cell?_setCell_other _ _ _ _ (by simp <;> omega)]; exact h1
    · rw [World.cell?_setCell_other _ _ _ _ (by simp <;> omega), World.cell?_setCell_other _ _ _ _ (by simp <;> omega)]; exact h2
    · rw [upd_other e]; exact h5.setIn h.1 _ _ _ _


/-- A whole number in a block of its own. -/
def WB (w : World) (g : Nat) (z : Int) (L : Nat) : Prop := WPR w g 1 (fun _ => z) L

theorem WB.open {w : World} {g : Nat} {z : Int} {L : Nat} (h : WB w g z L) : ∃ b A n c, w.cell? ⟨g, 0, none⟩ = some (.int .i64 b) ∧ w.cell? ⟨g, 1, none⟩ = some (.slice A n c) ∧ w.frozen? ⟨g, 0, none⟩ = false ∧ w.frozen? ⟨g, 1, none⟩ = false ∧ WG w b (.slice A n c) z L := by
  obtain ⟨b, sv, h1, h2, h3, h4, h5⟩ := h.2 0 (by omega)
  obtain ⟨A, n, c, rfl⟩ := h5.form
  exact ⟨b, A, n, c, h1, h2, h3, h4, h5⟩

theorem WB.below {w w' : World} {g : Nat} {z : Int} {L B : Nat} (h : WB w g z L) (hB : w.heap.size ≤ B) (hb : Below B w w') : WB w' g z L := WPR.below h hB hb

theorem WB.put {w : World} {g : Nat} {z v : Int} {L : Nat} {b : Int} {sv : Value} (h : WB w g z L) (hv : WG w b sv v L) : WB ((w.setCell ⟨g, 0, none⟩ (.int .i64 b)).setCell ⟨g, 1, none⟩ sv) g v L :=
  (WPR.set h (k := 0) (by omega) hv).congr (y := fun _ => v) fun i hi => by
    obtain rfl : i = 0 := by omega
    exact upd_same _ _ _

theorem WB.more' {w : World} {g : Nat} {z : Int} {L L' : Nat} (h : WB w g z L) (hL : L ≤ L') : WB w g z L' := WPR.more h hL

theorem WPR.other {w : World} {g k n : Nat} {z : Row} {y : Int} {L L' : Nat} (h : WPR w g n z L) (hk : WB w k y L') (hne : g ≠ k) (i j : Nat) (u v : Value) : WPR ((w.setCell ⟨k, i, none⟩ u).setCell ⟨k, j, none⟩ v) g n z L := by
  obtain ⟨b0, A0, n0, c0, k0, -, -, -, -⟩ := hk.open
  refine ⟨(h.1.set _ _).set _ _, fun t ht => ?_⟩
  obtain ⟨b1, sv1, h1, h2, h3, h4, h5⟩ := h.2 t ht
  refine ⟨b1, sv1, ?_, ?_, by simp only [World.frozen?_setCell]; exact h3, by simp only [World.frozen?_setCell]; exact h4, h5.setIn hk.1 _ _ _ _⟩
  · rw [World.cell?_setCell_other _ _ _ _ (by simp <;> omega), World.cell?_setCell_other _ _ _ _ (by simp <;> omega)]; exact h1
  · rw [World.cell?_setCell_other _ _ _ _ (by simp <;> omega), World.cell?_setCell_other _ _ _ _ (by simp <;> omega)]; exact h2

theorem WB.new {w : World} {b : Int} {sv : Value} {z : Int} {L : Nat} (h : WG w b sv z L) : WB (w.alloc (.cells #[.int .i64 b, sv] 138)) w.heap.size z L := by
  refine ⟨wide_new w _, fun i hi => ?_⟩
  obtain rfl : i = 0 := by omega
  exact ⟨b, sv, by simp [go_sem], by simp [go_sem], by simp [go_sem], by simp [go_sem], h.below (Nat.le_refl _) ((Below.refl _ _).alloc (Nat.le_refl _) _)⟩

theorem WPR.alloc {w : World} {g n : Nat} {z : Row} {L : Nat} (h : WPR w g n z L) (o : Obj) : WPR (w.alloc o) g n z L := h.below (Nat.le_refl _) ((Below.refl _ _).alloc (Nat.le_refl _) o)

theorem WB.alloc {w : World} {g : Nat} {z : Int} {L : Nat} (h : WB w g z L) (o : Obj) : WB (w.alloc o) g z L := WPR.alloc h o

theorem WPA.alloc {w : World} {A : Option Addr} {n : Nat} {z : Row} {L : Nat} (h : WPA w A n z L) (o : Obj) : WPA (w.alloc o) A n z L := h.below (Nat.le_refl _) ((Below.refl _ _).alloc (Nat.le_refl _) o)

/-- The slice value dv owns the m coefficients z. -/
def WPO (w : World) (base : Nat) (dv : Value) (m : Nat) (z : Row) (L : Nat) : Prop :=
  (m = 0 → dv = .slice none 0 0) ∧ ∃ xs, w.ownsRow base 138 2 dv m xs ∧ ∀ i, i < m → ∃ b sv, xs[i * 2]? = some (.int .i64 b) ∧ xs[i * 2 + 1]? = some sv ∧ WG w b sv (z i) L

theorem WPO.nil (w : World) (base : Nat) (z : Row) (L : Nat) : WPO w base (.slice none 0 0) 0 z L := ⟨fun _ => rfl, [], ⟨by simp, .inl ⟨rfl, rfl⟩⟩, fun i h => by omega⟩

theorem WPO.below {w w' : World} {base : Nat} {dv : Value} {m : Nat} {z : Row} {L : Nat} (h : WPO w base dv m z L) (hb : Below w.heap.size w w') : WPO w' base dv m z L := by
  obtain ⟨h0, xs, ho, hx⟩ := h
  refine ⟨h0, xs, owns_below ho hb, fun i hi => ?_⟩
  obtain ⟨b, sv, h1, h2, h3⟩ := hx i hi
  exact ⟨b, sv, h1, h2, h3.below (Nat.le_refl _) hb⟩

theorem WPO.form {w : World} {base : Nat} {dv : Value} {m : Nat} {z : Row} {L : Nat} (h : WPO w base dv m z L) : ∃ A c, dv = .slice A m c := by
  obtain ⟨h0, xs, ho, hx⟩ := h
  rcases ho.2 with ⟨rfl, rfl⟩ | ⟨g, cap, cur, rfl, _⟩
  · exact ⟨none, 0, rfl⟩
  · exact ⟨_, cap, rfl⟩

theorem WPO.pa {w : World} {base : Nat} {A : Option Addr} {c m : Nat} {z : Row} {L : Nat} (h : WPO w base (.slice A m c) m z L) : WPA w A m z L := fun hm => by
  obtain ⟨h0, xs, ho, hx⟩ := h
  obtain ⟨g, cap, hv, hb, hlt⟩ := ho.form hm
  have hW : WideRow w g := by
    rcases ho.2 with ⟨h1, _⟩ | ⟨g', cap', cur, h1, _, h3, _⟩
    · rw [h1] at hv; cases hv
    · rw [h1] at hv; injection hv with e; injection e with e; injection e with e; subst e; exact ⟨_, h3⟩
  injection hv with hA _ hc
  subst hA; subst hc
  refine ⟨g, rfl, hW, fun i hi => ?_⟩
  obtain ⟨b, sv, h1, h2, h3⟩ := hx i hi
  exact ⟨b, sv, by rw [ho.cellAt _ (by omega)]; exact h1, by rw [ho.cellAt _ (by omega)]; exact h2, ho.frozenAt _, ho.frozenAt _, h3⟩

/-- The row's first cell. -/
theorem WPO.first {w : World} {base : Nat} {dv : Value} {m : Nat} {z : Row} {L : Nat} (h : WPO w base dv m z L) : ∀ g, dv.ownBlock = some g → WideRow w g := fun g hg => by
  obtain ⟨A, c, rfl⟩ := h.form
  rcases Nat.eq_zero_or_pos m with h0 | h0
  · have := h.1 h0; rw [this] at hg; simp [Value.ownBlock] at hg
  · obtain ⟨g', e, hp⟩ := h.pa h0
    subst e
    simp only [Value.ownBlock, Option.some.injEq] at hg
    subst hg
    exact hp.1

/-- One more. -/
theorem WPO.more1 {w w' : World} {base : Nat} {dv : Value} {m : Nat} {z : Row} {L g cap : Nat} {b : Int} {sv : Value} {v : Int} (h : WPO w base dv m z L) (hv : WG w b sv v L) (hz : z m = v) (xs : List Value) (ho : w.ownsRow base 138 2 dv m xs)
    (hx : ∀ i, i < m → ∃ b sv, xs[i * 2]? = some (.int .i64 b) ∧ xs[i * 2 + 1]? = some sv ∧ WG w b sv (z i) L)
    (hown : w'.ownsRow base 138 2 (.slice (some ⟨g, 0, none⟩) (m + 1) cap) (m + 1) (xs ++ [.int .i64 b, sv])) (hg : w.grownBy w' dv.ownBlock) : WPO w' base (.slice (some ⟨g, 0, none⟩) (m + 1) cap) (m + 1) z L := by
  have hl := ho.1
  refine ⟨fun h => by omega, _, hown, fun i hi => ?_⟩
  rcases Nat.lt_or_ge i m with h1 | h1
  · obtain ⟨b1, sv1, k1, k2, k3⟩ := hx i h1
    exact ⟨b1, sv1, by rw [List.getElem?_append_left (by omega)]; exact k1, by rw [List.getElem?_append_left (by omega)]; exact k2, k3.grown hg h.first⟩
  · obtain rfl : i = m := by omega
    refine ⟨b, sv, by rw [List.getElem?_append_right (by omega), hl]; simp, by rw [List.getElem?_append_right (by omega), hl, show i * 2 + 1 - i * 2 = 1 by omega]; simp, ?_⟩
    rw [hz]; exact hv.grown hg h.first



theorem info_wide_parts : ∃ i, Try.prog.info? 138 = some i ∧ i.zero = some (.agg #[.int .i64 0, .slice none 0 0]) ∧ i.size = 2 ∧ i.bytes = 32 := by
  have h : (Try.prog.info? 138).map (fun i => (i.zero, i.size, i.bytes)) = some (some (.agg #[.int .i64 0, .slice none 0 0]), 2, 32) := by kernel_rfl
  obtain ⟨i, hi, hzz⟩ := Option.map_eq_some_iff.1 h
  simp only [Prod.mk.injEq] at hzz
  exact ⟨i, hi, hzz.1, hzz.2.1, hzz.2.2⟩

end Go.Proofs.Ytfnmnnbmhfbkbaa
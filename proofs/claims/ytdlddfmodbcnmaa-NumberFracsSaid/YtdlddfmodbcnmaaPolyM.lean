/- Polynomials in memory. -/
import Derived.Test.YtdlddfmodbcnmaaW13
import Derived.Test.YtdlddfmodbcnmaaPoly0
set_option linter.unusedVariables false
set_option linter.unusedSimpArgs false
namespace Go.Proofs.Ytdlddfmodbcnmaa
open Go.RowKit

theorem LG.setIn {w : World} {b : Bool} {sv : Value} {z : Int} {L g : Nat} {x : Bool} (h : LG w b sv z L) (hb : w.cell? ⟨g, 0, none⟩ = some (.bool x)) (i j : Nat) (u v : Value) : LG ((w.setCell ⟨g, i, none⟩ u).setCell ⟨g, j, none⟩ v) b sv z L := by
  obtain ⟨A, n, c, f, e, h1, h2, h3, h4⟩ := h
  refine ⟨A, n, c, f, e, ⟨h1.1, fun hn => ?_⟩, h2, h3, h4⟩
  obtain ⟨k, e, hl, hc⟩ := h1.2 hn
  have hne : g ≠ k := by rintro rfl; have h0 := hc 0 hn; rw [hb] at h0; cases h0
  refine ⟨k, e, by simpa [World.setCell] using hl, fun j' hj => ?_⟩
  rw [World.cell?_setCell_other _ _ _ _ (by simp <;> omega), World.cell?_setCell_other _ _ _ _ (by simp <;> omega)]
  exact hc j' hj

/-- Block g holds the n coefficients z. -/
def PR (w : World) (g n : Nat) (z : Row) (L : Nat) : Prop :=
  g < w.heap.size ∧ ∀ i, i < n → ∃ b sv, w.cell? ⟨g, i * 2, none⟩ = some (.bool b) ∧ w.cell? ⟨g, i * 2 + 1, none⟩ = some sv ∧ w.frozen? ⟨g, i * 2, none⟩ = false ∧ w.frozen? ⟨g, i * 2 + 1, none⟩ = false ∧ LG w b sv (z i) L
/-- The slice at A does. -/
def PA (w : World) (A : Option Addr) (n : Nat) (z : Row) (L : Nat) : Prop := 0 < n → ∃ g, A = some ⟨g, 0, none⟩ ∧ PR w g n z L
theorem PR.below {w w' : World} {g n : Nat} {z : Row} {L B : Nat} (h : PR w g n z L) (hB : w.heap.size ≤ B) (hb : Below B w w') : PR w' g n z L :=
  ⟨Nat.lt_of_lt_of_le h.1 hb.size, fun i hi => by
    have hg := h.1
    obtain ⟨b, sv, h1, h2, h3, h4, h5⟩ := h.2 i hi
    exact ⟨b, sv, (hb.cell (p := ⟨g, i * 2, none⟩) (by show g < B; omega)).trans h1, (hb.cell (p := ⟨g, i * 2 + 1, none⟩) (by show g < B; omega)).trans h2,
      (hb.frozen (p := ⟨g, i * 2, none⟩) (by show g < B; omega)).trans h3, (hb.frozen (p := ⟨g, i * 2 + 1, none⟩) (by show g < B; omega)).trans h4, h5.below hB hb⟩⟩
theorem PA.below {w w' : World} {A : Option Addr} {n : Nat} {z : Row} {L B : Nat} (h : PA w A n z L) (hB : w.heap.size ≤ B) (hb : Below B w w') : PA w' A n z L := fun hn => by
  obtain ⟨g, e, hp⟩ := h hn
  exact ⟨g, e, hp.below hB hb⟩
theorem PR.congr {w : World} {g n : Nat} {z y : Row} {L : Nat} (h : PR w g n z L) (e : ∀ i, i < n → z i = y i) : PR w g n y L :=
  ⟨h.1, fun i hi => by rw [← e i hi]; exact h.2 i hi⟩
theorem PR.more {w : World} {g n : Nat} {z : Row} {L L' : Nat} (h : PR w g n z L) (hL : L ≤ L') : PR w g n z L' :=
  ⟨h.1, fun i hi => by
    obtain ⟨b, sv, h1, h2, h3, h4, h5⟩ := h.2 i hi
    exact ⟨b, sv, h1, h2, h3, h4, h5.more hL⟩⟩
theorem PR.less {w : World} {g n m : Nat} {z : Row} {L : Nat} (h : PR w g n z L) (hm : m ≤ n) : PR w g m z L := ⟨h.1, fun i hi => h.2 i (by omega)⟩
theorem PA.more {w : World} {A : Option Addr} {n : Nat} {z : Row} {L L' : Nat} (h : PA w A n z L) (hL : L ≤ L') : PA w A n z L' := fun hn => by
  obtain ⟨g, e, hp⟩ := h hn
  exact ⟨g, e, hp.more hL⟩
theorem PA.of {w : World} {g n : Nat} {z : Row} {L : Nat} (h : PR w g n z L) : PA w (some ⟨g, 0, none⟩) n z L := fun _ => ⟨g, rfl, h⟩
/-- One coefficient set. -/
theorem PR.set {w : World} {g n : Nat} {z : Row} {L : Nat} (h : PR w g n z L) {k : Nat} (hk : k < n) {b : Bool} {sv : Value} {v : Int} (hv : LG w b sv v L) :
    PR ((w.setCell ⟨g, k * 2, none⟩ (.bool b)).setCell ⟨g, k * 2 + 1, none⟩ sv) g n (upd z k v) L := by
  obtain ⟨b0, sv0, c0, -, -, -, -⟩ := h.2 0 (by omega)
  have c0' : w.cell? ⟨g, 0, none⟩ = some (.bool b0) := c0
  refine ⟨by simpa [World.setCell] using h.1, fun i hi => ?_⟩
  obtain ⟨b1, sv1, h1, h2, h3, h4, h5⟩ := h.2 i hi
  obtain ⟨b2, sv2, k1, k2, k3, k4, k5⟩ := h.2 k hk
  have e1 : (w.setCell ⟨g, k * 2, none⟩ (.bool b)).cell? ⟨g, k * 2, none⟩ = some (.bool b) := World.cell?_setCell_same' _ _ _ (by rw [k1]; rfl)
  have e2 : (w.setCell ⟨g, k * 2, none⟩ (.bool b)).cell? ⟨g, k * 2 + 1, none⟩ = some sv2 := by rw [World.cell?_setCell_other _ _ _ _ (by simp)]; exact k2
  by_cases e : i = k
  · subst e
    refine ⟨b, sv, ?_, World.cell?_setCell_same' _ _ _ (by rw [e2]; rfl), by simp only [World.frozen?_setCell]; exact h3, by simp only [World.frozen?_setCell]; exact h4, ?_⟩
    · rw [World.cell?_setCell_other _ _ _ _ (by simp)]; exact e1
    · rw [upd_same]; exact hv.setIn c0' _ _ _ _
  · refine ⟨b1, sv1, ?_, ?_, by simp only [World.frozen?_setCell]; exact h3, by simp only [World.frozen?_setCell]; exact h4, ?_⟩
    · rw [World.cell?_setCell_other _ _ _ _ (by simp <;> omega), World.cell?_setCell_other _ _ _ _ (by simp <;> omega)]; exact h1
    · rw [World.cell?_setCell_other _ _ _ _ (by simp <;> omega), World.cell?_setCell_other _ _ _ _ (by simp <;> omega)]; exact h2
    · rw [upd_other e]; exact h5.setIn c0' _ _ _ _

theorem LG.form {w : World} {b : Bool} {sv : Value} {z : Int} {L : Nat} (h : LG w b sv z L) : ∃ A n c, sv = .slice A n c := by
  obtain ⟨A, n, c, f, e, _⟩ := h
  exact ⟨A, n, c, e⟩
theorem LG.drew {w : World} {b : Bool} {sv : Value} {z : Int} {L : Nat} (h : LG w b sv z L) : LG w.drew b sv z L := h
/-- A whole number in a block of its own. -/
def LB (w : World) (g : Nat) (z : Int) (L : Nat) : Prop := PR w g 1 (fun _ => z) L
theorem LB.open {w : World} {g : Nat} {z : Int} {L : Nat} (h : LB w g z L) : ∃ b A n c, w.cell? ⟨g, 0, none⟩ = some (.bool b) ∧ w.cell? ⟨g, 1, none⟩ = some (.slice A n c) ∧ w.frozen? ⟨g, 0, none⟩ = false ∧ w.frozen? ⟨g, 1, none⟩ = false ∧ LG w b (.slice A n c) z L := by
  obtain ⟨b, sv, h1, h2, h3, h4, h5⟩ := h.2 0 (by omega)
  obtain ⟨A, n, c, rfl⟩ := h5.form
  exact ⟨b, A, n, c, h1, h2, h3, h4, h5⟩
theorem LB.below {w w' : World} {g : Nat} {z : Int} {L B : Nat} (h : LB w g z L) (hB : w.heap.size ≤ B) (hb : Below B w w') : LB w' g z L := PR.below h hB hb
theorem LB.put {w : World} {g : Nat} {z v : Int} {L : Nat} {b : Bool} {sv : Value} (h : LB w g z L) (hv : LG w b sv v L) : LB ((w.setCell ⟨g, 0, none⟩ (.bool b)).setCell ⟨g, 1, none⟩ sv) g v L :=
  (PR.set h (k := 0) (by omega) hv).congr fun i hi => by obtain rfl : i = 0 := by omega
                                                         exact upd_same _ _ _
theorem LB.more' {w : World} {g : Nat} {z : Int} {L L' : Nat} (h : LB w g z L) (hL : L ≤ L') : LB w g z L' := PR.more h hL
theorem PR.other {w : World} {g k n : Nat} {z : Row} {y : Int} {L L' : Nat} (h : PR w g n z L) (hk : LB w k y L') (hne : g ≠ k) (i j : Nat) (u v : Value) : PR ((w.setCell ⟨k, i, none⟩ u).setCell ⟨k, j, none⟩ v) g n z L := by
  obtain ⟨b0, A0, n0, c0, k0, -, -, -, -⟩ := hk.open
  refine ⟨by simpa [World.setCell] using h.1, fun t ht => ?_⟩
  obtain ⟨b1, sv1, h1, h2, h3, h4, h5⟩ := h.2 t ht
  refine ⟨b1, sv1, ?_, ?_, by simp only [World.frozen?_setCell]; exact h3, by simp only [World.frozen?_setCell]; exact h4, h5.setIn k0 _ _ _ _⟩
  · rw [World.cell?_setCell_other _ _ _ _ (by simp <;> omega), World.cell?_setCell_other _ _ _ _ (by simp <;> omega)]; exact h1
  · rw [World.cell?_setCell_other _ _ _ _ (by simp <;> omega), World.cell?_setCell_other _ _ _ _ (by simp <;> omega)]; exact h2
theorem LB.new {w : World} {b : Bool} {sv : Value} {z : Int} {L : Nat} (h : LG w b sv z L) : LB (w.alloc (.cells #[.bool b, sv] 130)) w.heap.size z L := by
  refine ⟨by simp, fun i hi => ?_⟩
  obtain rfl : i = 0 := by omega
  exact ⟨b, sv, by simp [go_sem], by simp [go_sem], by simp [go_sem], by simp [go_sem], h.below (Nat.le_refl _) ((Below.refl _ _).alloc (Nat.le_refl _) _)⟩
theorem PR.alloc {w : World} {g n : Nat} {z : Row} {L : Nat} (h : PR w g n z L) (o : Obj) : PR (w.alloc o) g n z L := h.below (Nat.le_refl _) ((Below.refl _ _).alloc (Nat.le_refl _) o)
theorem LB.alloc {w : World} {g : Nat} {z : Int} {L : Nat} (h : LB w g z L) (o : Obj) : LB (w.alloc o) g z L := PR.alloc h o
theorem PA.alloc {w : World} {A : Option Addr} {n : Nat} {z : Row} {L : Nat} (h : PA w A n z L) (o : Obj) : PA (w.alloc o) A n z L := h.below (Nat.le_refl _) ((Below.refl _ _).alloc (Nat.le_refl _) o)
theorem LG.kept {w w' : World} {b : Bool} {sv : Value} {z : Int} {L : Nat} {row : Option Nat} (h : LG w b sv z L) (hg : w.grownBy w' row) (hr : ∀ r, row = some r → ∃ o : Obj, w.heap[r]? = some o ∧ o.isCells = false) : LG w' b sv z L := by
  obtain ⟨A, n, c, f, e, h1, h2, h3, h4⟩ := h
  refine ⟨A, n, c, f, e, ⟨h1.1, fun hn => ?_⟩, h2, h3, h4⟩
  obtain ⟨k, e, hl, hc⟩ := h1.2 hn
  exact ⟨k, e, Nat.lt_of_lt_of_le hl hg.size, fun j hj => cell_kept (hc j hj) hg hr⟩
theorem PR.kept {w w' : World} {g n : Nat} {z : Row} {L : Nat} {row : Option Nat} (h : PR w g n z L) (hg : w.grownBy w' row) (hr : ∀ r, row = some r → ∃ o : Obj, w.heap[r]? = some o ∧ o.isCells = false) : PR w' g n z L :=
  ⟨Nat.lt_of_lt_of_le h.1 hg.size, fun i hi => by
    obtain ⟨b, sv, h1, h2, h3, h4, h5⟩ := h.2 i hi
    exact ⟨b, sv, cell_kept h1 hg hr, cell_kept h2 hg hr, (frozen_kept h1 hg hr).trans h3, (frozen_kept h2 hg hr).trans h4, h5.kept hg hr⟩⟩
theorem keepsFrom_below {B : Nat} {W W' : World} (h : Below W.heap.size W W') : KeepsFrom B W W' := ⟨h.size, fun i o _ hi _ => (h.block i (by
  rcases Nat.lt_or_ge i W.heap.size with h1 | h1
  · exact h1
  · rw [Array.getElem?_eq_none h1] at hi; cases hi)).trans hi⟩

/-- The ints in a slice. -/
def IS (w : World) (A : Option Addr) (n : Nat) (p : Row) : Prop :=
  (∀ i, i < n → I64 (p i)) ∧ (0 < n → ∃ b off, A = some ⟨b, off, none⟩ ∧ b < w.heap.size ∧ ∀ j, j < n → w.cell? ⟨b, off + j, none⟩ = some (.int .i64 (p j)))
theorem IS.below {w w' : World} {A : Option Addr} {n : Nat} {p : Row} {B : Nat} (h : IS w A n p) (hB : w.heap.size ≤ B) (hb : Below B w w') : IS w' A n p :=
  ⟨h.1, fun hn => by
    obtain ⟨b, off, e, hl, hc⟩ := h.2 hn
    exact ⟨b, off, e, Nat.lt_of_lt_of_le hl hb.size, fun j hj => (hb.cell (p := ⟨b, off + j, none⟩) (by show b < B; omega)).trans (hc j hj)⟩⟩

theorem info_long : (Try.prog.info? 130).map (fun i => (i.zero, i.size, i.bytes)) = some (some (.agg #[.bool false, .slice none 0 0]), 2, 32) := by kernel_rfl

theorem run_make_rowN {P : Program} (t e : TypeId) (i : TypeInfo) (z : Value) (ht : P.underlying t = some (.slice e)) (hi : P.info? e = some i) (hz : i.zero = some z)
    (kl kc : IntKind) (n c : Nat) (hnc : n ≤ c) (hbytes : i.bytes * c ≤ 281474976710656) (h63 : c ≤ 9223372036854775807) (w : World) :
    (Instr.makeSlice t (.int kl (n : Int)) (.int kc (c : Int))).run P w = .ok (.slice (some ⟨w.heap.size, 0, none⟩) n c) (w.alloc (.cells (madeCells z.cells (c * i.size)) e)) := by
  have hb : (i.bytes : Int) * (c : Int) ≤ 281474976710656 := by
    have h : ((i.bytes * c : Nat) : Int) ≤ 281474976710656 := by omega
    rwa [Int.natCast_mul] at h
  have hr := run_make (P := P) w t e i z ht hi hz kl kc n c (by omega) (by omega) hb (by omega)
  simp only [Int.toNat_natCast] at hr
  exact hr
theorem run_make_poly (n : Nat) (hn : n ≤ 1000000) (w : World) :
    (Instr.makeSlice 111 (.int .i64 (n : Int)) (.int .i64 (n : Int))).run Try.prog w = .ok (.slice (some ⟨w.heap.size, 0, none⟩) n n) (w.alloc (.cells (madeCells #[.bool false, .slice none 0 0] (n * 2)) 130)) := by
  obtain ⟨i, hi, hzz⟩ := Option.map_eq_some_iff.1 info_long
  simp only [Prod.mk.injEq] at hzz
  obtain ⟨hz, hs, hb⟩ := hzz
  have := run_make_rowN (P := Try.prog) 111 130 i _ Try.underlying111 hi hz .i64 .i64 n n (Nat.le_refl _) (by rw [hb]; omega) (by omega) w
  rw [hs] at this
  exact this
theorem LG.zero (w : World) (L : Nat) : LG w false (.slice none 0 0) 0 L := ⟨none, 0, 0, fun _ => 0, rfl, ⟨fun _ h => by omega, fun h => by omega⟩, fun h => by omega, by omega, rfl⟩
/-- What make lays: zeros. -/
theorem PR.made (w : World) (n L : Nat) : PR (w.alloc (.cells (madeCells #[.bool false, .slice none 0 0] (n * 2)) 130)) w.heap.size n (fun _ => 0) L := by
  have hr : (w.alloc (.cells (madeCells #[.bool false, .slice none 0 0] (n * 2)) 130)).rowIs w.heap.size 130 (madeCells #[.bool false, .slice none 0 0] (n * 2)).size (fun j => if j % 2 = 0 then .bool false else .slice none 0 0) := by
    refine World.rowIs_alloc _ _ _ _ (fun i hi => ?_)
    have hi' : i < n * 2 := by rw [size_madeCells] at hi; exact hi
    simp only [madeCells, Array.getElem?_map, Array.getElem?_range]
    rcases Nat.mod_two_eq_zero_or_one i with h | h <;> simp [hi', h]
  rw [size_madeCells] at hr
  refine ⟨by simp, fun i hi => ⟨false, .slice none 0 0, ?_, ?_, hr.frozen _, hr.frozen _, LG.zero _ _⟩⟩
  · rw [hr.cell (by omega), if_pos (by omega)]
  · rw [hr.cell (by omega), if_neg (by omega)]

end Go.Proofs.Ytdlddfmodbcnmaa

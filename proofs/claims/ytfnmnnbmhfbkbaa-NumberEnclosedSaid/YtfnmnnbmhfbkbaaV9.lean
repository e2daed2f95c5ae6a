/- The reference's lists of lists of wide numbers, in memory. -/
import Derived.Test.YtfnmnnbmhfbkbaaV6
set_option linter.unusedVariables false
set_option linter.unusedSimpArgs false
namespace Go.Proofs.Ytfnmnnbmhfbkbaa
open Go.RowKit

/-- A list of polynomials of wide numbers in memory. -/
def WT (w : World) (A : Option Addr) (l : List (Nat × Row)) (L : Nat) : Prop :=
  0 < l.length → ∃ g, A = some ⟨g, 0, none⟩ ∧ g < w.heap.size ∧ ∀ i p, l[i]? = some p → ∃ Ai ci, w.cell? ⟨g, i, none⟩ = some (.slice Ai p.1 ci) ∧ WPA w Ai p.1 p.2 L ∧ p.1 ≤ 100
theorem WT.below {w w' : World} {A : Option Addr} {l : List (Nat × Row)} {L B : Nat} (h : WT w A l L) (hB : w.heap.size ≤ B) (hb : Below B w w') : WT w' A l L := fun hl => by
  obtain ⟨g, e, hg, hi⟩ := h hl
  refine ⟨g, e, Nat.lt_of_lt_of_le hg hb.size, fun i p hp => ?_⟩
  obtain ⟨Ai, ci, h1, h2, h3⟩ := hi i p hp
  exact ⟨Ai, ci, (hb.cell (p := ⟨g, i, none⟩) (by show g < B; omega)).trans h1, h2.below hB hb, h3⟩
theorem info_list_parts : ∃ i, Try.prog.info? 114 = some i ∧ i.zero = some (.slice none 0 0) ∧ i.size = 1 ∧ i.bytes = 24 := by
  have h : (Try.prog.info? 114).map (fun i => (i.zero, i.size, i.bytes)) = some (some (.slice none 0 0), 1, 24) := by kernel_rfl
  obtain ⟨i, hi, hzz⟩ := Option.map_eq_some_iff.1 h
  simp only [Prod.mk.injEq] at hzz
  exact ⟨i, hi, hzz.1, hzz.2.1, hzz.2.2⟩

/-- Block g is a row of lists. -/
def ListRow (w : World) (g : Nat) : Prop := ∃ cs, w.heap[g]? = some (.cells cs 114 (0, 0))
def LRow (w : World) (row : Option Nat) : Prop := ∀ g, row = some g → ListRow w g
theorem ListRow.neW {w : World} {g k : Nat} (h : ListRow w g) (hk : WideRow w k) : k ≠ g := by
  rintro rfl
  obtain ⟨cs, h⟩ := h
  obtain ⟨cs', h'⟩ := hk
  rw [h] at h'
  simp at h'
theorem ListRow.neI {w : World} {g k : Nat} (h : ListRow w g) (hk : IntRow w k) : k ≠ g := by
  rintro rfl
  obtain ⟨cs, h⟩ := h
  obtain ⟨cs', h'⟩ := hk
  rw [h] at h'
  simp at h'
theorem WG.grownL {w w' : World} {b : Int} {sv : Value} {z : Int} {L : Nat} {row : Option Nat} (h : WG w b sv z L) (hg : w.grownBy w' row) (hr : LRow w row) : WG w' b sv z L := by
  obtain ⟨A, n, c, f, e, h1, h2⟩ := h
  refine ⟨A, n, c, f, e, ⟨h1.1, fun hn => ?_⟩, h2⟩
  obtain ⟨k, e, hl, hc⟩ := h1.2 hn
  have hb : w'.heap[k]? = w.heap[k]? := hg.block k hl.lt (fun e => (hr k e.symm).neI hl rfl)
  refine ⟨k, e, ?_, fun j hj => ?_⟩
  · obtain ⟨cs, h⟩ := hl
    exact ⟨cs, hb.trans h⟩
  · rw [World.cell?_of_block (a := ⟨k, j, none⟩) hb]; exact hc j hj
theorem WPA.grownL {w w' : World} {A : Option Addr} {n : Nat} {z : Row} {L : Nat} {row : Option Nat} (h : WPA w A n z L) (hg : w.grownBy w' row) (hr : LRow w row) : WPA w' A n z L := fun hn => by
  obtain ⟨g, e, hl, hp⟩ := h hn
  have hne : some g ≠ row := fun e => (hr g e.symm).neW hl rfl
  have hb : w'.heap[g]? = w.heap[g]? := hg.block g hl.lt hne
  refine ⟨g, e, ?_, fun i hi => ?_⟩
  · obtain ⟨cs, h⟩ := hl
    exact ⟨cs, hb.trans h⟩
  · obtain ⟨b, sv, h1, h2, h3, h4, h5⟩ := hp i hi
    exact ⟨b, sv, (hg.cell_far ⟨g, i * 2, none⟩ hl.lt hne).trans h1, (hg.cell_far ⟨g, i * 2 + 1, none⟩ hl.lt hne).trans h2, (hg.frozen_far ⟨g, i * 2, none⟩ hl.lt hne).trans h3, (hg.frozen_far ⟨g, i * 2 + 1, none⟩ hl.lt hne).trans h4, h5.grownL hg hr⟩
/-- The slice value sv owns the polynomials l. -/
def WO (w : World) (base : Nat) (sv : Value) (l : List (Nat × Row)) (L : Nat) : Prop :=
  ∃ xs, w.ownsRow base 114 1 sv l.length xs ∧ ∀ (i : Nat) (p : Nat × Row), l[i]? = some p → ∃ Ai ci, xs[i]? = some (.slice Ai p.1 ci) ∧ WPA w Ai p.1 p.2 L ∧ p.1 ≤ 100
theorem WO.below {w w' : World} {base : Nat} {sv : Value} {l : List (Nat × Row)} {L : Nat} (h : WO w base sv l L) (hb : Below w.heap.size w w') : WO w' base sv l L := by
  obtain ⟨xs, ho, hx⟩ := h
  refine ⟨xs, owns_below ho hb, fun i p hp => ?_⟩
  obtain ⟨Ai, ci, h1, h2, h3⟩ := hx i p hp
  exact ⟨Ai, ci, h1, h2.below (Nat.le_refl _) hb, h3⟩
theorem WO.more {w : World} {base : Nat} {sv : Value} {l : List (Nat × Row)} {L L' : Nat} (h : WO w base sv l L) (hL : L ≤ L') : WO w base sv l L' := by
  obtain ⟨xs, ho, hx⟩ := h
  refine ⟨xs, ho, fun i p hp => ?_⟩
  obtain ⟨Ai, ci, h1, h2, h3⟩ := hx i p hp
  exact ⟨Ai, ci, h1, h2.more hL, h3⟩
theorem WO.form {w : World} {base : Nat} {sv : Value} {l : List (Nat × Row)} {L : Nat} (h : WO w base sv l L) (hl : 0 < l.length) : ∃ g c, sv = .slice (some ⟨g, 0, none⟩) l.length c := by
  obtain ⟨xs, ho, hx⟩ := h
  obtain ⟨g, cap, hv, _, _⟩ := ho.form hl
  exact ⟨g, cap, hv⟩
theorem WO.first {w : World} {base : Nat} {sv : Value} {l : List (Nat × Row)} {L : Nat} (h : WO w base sv l L) (hl : 0 < l.length) : LRow w sv.ownBlock := fun g hg => by
  obtain ⟨xs, ho, hx⟩ := h
  obtain ⟨g', cap, hv, hb, hlt⟩ := ho.form hl
  rcases ho.2 with ⟨h1, _⟩ | ⟨g2, cap', cur, h1, _, h3, _⟩
  · rw [h1] at hv; cases hv
  · rw [h1] at hg
    simp only [Value.ownBlock, Option.some.injEq] at hg
    subst hg; exact ⟨_, h3⟩
theorem WO.st {w : World} {base g c : Nat} {l : List (Nat × Row)} {L : Nat} (h : WO w base (.slice (some ⟨g, 0, none⟩) l.length c) l L) : WT w (some ⟨g, 0, none⟩) l L := fun hl => by
  obtain ⟨xs, ho, hx⟩ := h
  refine ⟨g, rfl, (ho.lt g rfl).2, fun i p hp => ?_⟩
  obtain ⟨Ai, ci, h1, h2, h3⟩ := hx i p hp
  have hi : i < l.length := by
    rcases Nat.lt_or_ge i l.length with h | h
    · exact h
    · rw [List.getElem?_eq_none h] at hp; cases hp
  exact ⟨Ai, ci, by rw [ho.cellAt i (by omega)]; exact h1, h2, h3⟩
theorem WO.more1 {w w' : World} {base : Nat} {sv : Value} {l : List (Nat × Row)} {L g cap : Nat} {A : Option Addr} {m c : Nat} {y : Row} (h : WO w base sv l L) (hl : 0 < l.length) (xs : List Value) (ho : w.ownsRow base 114 1 sv l.length xs)
    (hx : ∀ (i : Nat) (p : Nat × Row), l[i]? = some p → ∃ Ai ci, xs[i]? = some (.slice Ai p.1 ci) ∧ WPA w Ai p.1 p.2 L ∧ p.1 ≤ 100) (hy : WPA w A m y L) (hm : m ≤ 100)
    (hown : w'.ownsRow base 114 1 (.slice (some ⟨g, 0, none⟩) (l.length + 1) cap) (l.length + 1) (xs ++ [.slice A m c])) (hg : w.grownBy w' sv.ownBlock) : WO w' base (.slice (some ⟨g, 0, none⟩) (l.length + 1) cap) (l ++ [(m, y)]) L := by
  have hlen := ho.1
  have hf := h.first hl
  refine ⟨_, by rw [List.length_append]; exact hown, fun i p hp => ?_⟩
  rcases Nat.lt_or_ge i l.length with h1 | h1
  · rw [List.getElem?_append_left h1] at hp
    obtain ⟨Ai, ci, k1, k2, k3⟩ := hx i p hp
    exact ⟨Ai, ci, by rw [List.getElem?_append_left (by omega)]; exact k1, k2.grownL hg hf, k3⟩
  · rw [List.getElem?_append_right h1] at hp
    have hi : i = l.length := by
      rcases Nat.lt_or_ge (i - l.length) 1 with h2 | h2
      · omega
      · rw [List.getElem?_eq_none (by simpa using h2)] at hp; cases hp
    subst hi
    rw [Nat.sub_self] at hp
    obtain rfl := Option.some.inj hp
    exact ⟨A, c, by rw [List.getElem?_append_right (by omega), hlen]; simp, hy.grownL hg hf, hm⟩
theorem WO.new {w : World} {base : Nat} {A : Option Addr} {m c : Nat} {y : Row} {L : Nat} (hb : base ≤ w.heap.size) (hy : WPA w A m y L) (hm : m ≤ 100) :
    WO (w.alloc (.cells #[.slice A m c] 114)) base (.slice (some ⟨w.heap.size, 0, none⟩) 1 1) [(m, y)] L := by
  refine ⟨[.slice A m c], ⟨rfl, .inr ⟨w.heap.size, 1, #[.slice A m c], rfl, hb, heap_alloc_new w _, by simp, by simp [maxLen], rfl, rfl⟩⟩, fun i p hp => ?_⟩
  have hi : i = 0 := by
    rcases Nat.eq_zero_or_pos i with h | h
    · exact h
    · rw [List.getElem?_eq_none (by simp; omega)] at hp; cases hp
  subst hi
  obtain rfl := Option.some.inj hp
  exact ⟨A, c, rfl, hy.alloc _, hm⟩

/-- A list stays when another one grows. -/
theorem WPO.grownO {w w' : World} {base : Nat} {dv : Value} {m : Nat} {z : Row} {L : Nat} {row : Option Nat} (h : WPO w base dv m z L) (hg : w.grownBy w' row) (hr : ∀ g, row = some g → WideRow w g) (hne : ∀ g, dv.ownBlock = some g → row ≠ some g) : WPO w' base dv m z L := by
  obtain ⟨h0, xs, ho, hx⟩ := h
  refine ⟨h0, xs, ⟨ho.1, ?_⟩, fun i hi => ?_⟩
  · rcases ho.2 with h | ⟨g, cap, cur, e, hb, hh, hrest⟩
    · exact .inl h
    · refine .inr ⟨g, cap, cur, e, hb, ?_, hrest⟩
      have hl := (Array.getElem?_eq_some_iff.1 hh).1
      rw [hg.block g hl (fun e2 => hne g (by rw [e]; rfl) e2.symm)]; exact hh
  · obtain ⟨b, sv, h1, h2, h3⟩ := hx i hi
    exact ⟨b, sv, h1, h2, h3.grown hg hr⟩

end Go.Proofs.Ytfnmnnbmhfbkbaa

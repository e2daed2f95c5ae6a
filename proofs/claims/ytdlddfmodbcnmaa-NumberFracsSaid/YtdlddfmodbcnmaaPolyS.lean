/- Lists of polynomials that grow by append, in memory. -/
import Derived.Test.YtdlddfmodbcnmaaPolyO
import Derived.Test.YtdlddfmodbcnmaaW20
set_option linter.unusedVariables false
set_option linter.unusedSimpArgs false
namespace Go.Proofs.Ytdlddfmodbcnmaa
open Go.RowKit

theorem info_poly_parts : ∃ i, Try.prog.info? 111 = some i ∧ i.zero = some (.slice none 0 0) ∧ i.size = 1 ∧ i.bytes = 24 := by
  have h : (Try.prog.info? 111).map (fun i => (i.zero, i.size, i.bytes)) = some (some (.slice none 0 0), 1, 24) := by kernel_rfl
  obtain ⟨i, hi, hzz⟩ := Option.map_eq_some_iff.1 h
  simp only [Prod.mk.injEq] at hzz
  exact ⟨i, hi, hzz.1, hzz.2.1, hzz.2.2⟩

/-- A row whose first cell is a slice. -/
def SRow (w : World) (row : Option Nat) : Prop := ∀ g, row = some g → ∃ A n c, w.cell? ⟨g, 0, none⟩ = some (.slice A n c)
theorem LG.grownS {w w' : World} {b : Bool} {sv : Value} {z : Int} {L : Nat} {row : Option Nat} (h : LG w b sv z L) (hg : w.grownBy w' row) (hr : SRow w row) : LG w' b sv z L := by
  obtain ⟨A, n, c, f, e, h1, h2, h3, h4⟩ := h
  refine ⟨A, n, c, f, e, ⟨h1.1, fun hn => ?_⟩, h2, h3, h4⟩
  obtain ⟨k, e, hl, hc⟩ := h1.2 hn
  refine ⟨k, e, Nat.lt_of_lt_of_le hl hg.size, fun j hj => ?_⟩
  rw [hg.cell_far ⟨k, j, none⟩ hl (fun e => by
    obtain ⟨A1, n1, c1, hx⟩ := hr k e.symm
    have h0 := hc 0 hn
    rw [hx] at h0; cases h0)]
  exact hc j hj
theorem PA.grownS {w w' : World} {A : Option Addr} {n : Nat} {z : Row} {L : Nat} {row : Option Nat} (h : PA w A n z L) (hg : w.grownBy w' row) (hr : SRow w row) : PA w' A n z L := fun hn => by
  obtain ⟨g, e, hl, hp⟩ := h hn
  have hne : some g ≠ row := fun e => by
    obtain ⟨A1, n1, c1, hx⟩ := hr g e.symm
    obtain ⟨b0, sv0, h0, _⟩ := hp 0 hn
    have h0' : w.cell? ⟨g, 0, none⟩ = some (.bool b0) := h0
    rw [hx] at h0'; cases h0'
  refine ⟨g, e, Nat.lt_of_lt_of_le hl hg.size, fun i hi => ?_⟩
  obtain ⟨b, sv, h1, h2, h3, h4, h5⟩ := hp i hi
  exact ⟨b, sv, (hg.cell_far ⟨g, i * 2, none⟩ hl hne).trans h1, (hg.cell_far ⟨g, i * 2 + 1, none⟩ hl hne).trans h2, (hg.frozen_far ⟨g, i * 2, none⟩ hl hne).trans h3, (hg.frozen_far ⟨g, i * 2 + 1, none⟩ hl hne).trans h4, h5.grownS hg hr⟩

/-- The slice value sv owns the polynomials l. -/
def SO (w : World) (base : Nat) (sv : Value) (l : List (Nat × Row)) (L : Nat) : Prop :=
  ∃ xs, w.ownsRow base 111 1 sv l.length xs ∧ ∀ (i : Nat) (p : Nat × Row), l[i]? = some p → ∃ Ai ci, xs[i]? = some (.slice Ai p.1 ci) ∧ PA w Ai p.1 p.2 L ∧ p.1 ≤ 100
theorem SO.below {w w' : World} {base : Nat} {sv : Value} {l : List (Nat × Row)} {L : Nat} (h : SO w base sv l L) (hb : Below w.heap.size w w') : SO w' base sv l L := by
  obtain ⟨xs, ho, hx⟩ := h
  refine ⟨xs, owns_below ho hb, fun i p hp => ?_⟩
  obtain ⟨Ai, ci, h1, h2, h3⟩ := hx i p hp
  exact ⟨Ai, ci, h1, h2.below (Nat.le_refl _) hb, h3⟩
theorem SO.more {w : World} {base : Nat} {sv : Value} {l : List (Nat × Row)} {L L' : Nat} (h : SO w base sv l L) (hL : L ≤ L') : SO w base sv l L' := by
  obtain ⟨xs, ho, hx⟩ := h
  refine ⟨xs, ho, fun i p hp => ?_⟩
  obtain ⟨Ai, ci, h1, h2, h3⟩ := hx i p hp
  exact ⟨Ai, ci, h1, h2.more hL, h3⟩
theorem SO.form {w : World} {base : Nat} {sv : Value} {l : List (Nat × Row)} {L : Nat} (h : SO w base sv l L) (hl : 0 < l.length) : ∃ g c, sv = .slice (some ⟨g, 0, none⟩) l.length c := by
  obtain ⟨xs, ho, hx⟩ := h
  obtain ⟨g, cap, hv, _, _⟩ := ho.form hl
  exact ⟨g, cap, hv⟩
theorem SO.first {w : World} {base : Nat} {sv : Value} {l : List (Nat × Row)} {L : Nat} (h : SO w base sv l L) (hl : 0 < l.length) : SRow w sv.ownBlock := fun g hg => by
  obtain ⟨g', c, rfl⟩ := h.form hl
  obtain ⟨xs, ho, hx⟩ := h
  simp only [Value.ownBlock, Option.some.injEq] at hg
  subst hg
  obtain ⟨p, hp⟩ : ∃ p, l[0]? = some p := ⟨_, List.getElem?_eq_getElem hl⟩
  obtain ⟨Ai, ci, h1, _⟩ := hx 0 p hp
  exact ⟨Ai, _, ci, by rw [ho.cellAt 0 (by omega)]; exact h1⟩
theorem SO.st {w : World} {base g c : Nat} {l : List (Nat × Row)} {L : Nat} (h : SO w base (.slice (some ⟨g, 0, none⟩) l.length c) l L) : ST w (some ⟨g, 0, none⟩) l L := fun hl => by
  obtain ⟨xs, ho, hx⟩ := h
  refine ⟨g, rfl, (ho.lt g rfl).2, fun i p hp => ?_⟩
  obtain ⟨Ai, ci, h1, h2, h3⟩ := hx i p hp
  have hi : i < l.length := by
    rcases Nat.lt_or_ge i l.length with h | h
    · exact h
    · rw [List.getElem?_eq_none h] at hp; cases hp
  exact ⟨Ai, ci, by rw [ho.cellAt i (by omega)]; exact h1, h2, h3⟩
theorem SO.more1 {w w' : World} {base : Nat} {sv : Value} {l : List (Nat × Row)} {L g cap : Nat} {A : Option Addr} {m c : Nat} {y : Row} (h : SO w base sv l L) (hl : 0 < l.length) (xs : List Value) (ho : w.ownsRow base 111 1 sv l.length xs)
    (hx : ∀ (i : Nat) (p : Nat × Row), l[i]? = some p → ∃ Ai ci, xs[i]? = some (.slice Ai p.1 ci) ∧ PA w Ai p.1 p.2 L ∧ p.1 ≤ 100) (hy : PA w A m y L) (hm : m ≤ 100)
    (hown : w'.ownsRow base 111 1 (.slice (some ⟨g, 0, none⟩) (l.length + 1) cap) (l.length + 1) (xs ++ [.slice A m c])) (hg : w.grownBy w' sv.ownBlock) : SO w' base (.slice (some ⟨g, 0, none⟩) (l.length + 1) cap) (l ++ [(m, y)]) L := by
  have hlen := ho.1
  have hf := h.first hl
  refine ⟨_, by rw [List.length_append]; exact hown, fun i p hp => ?_⟩
  rcases Nat.lt_or_ge i l.length with h1 | h1
  · rw [List.getElem?_append_left h1] at hp
    obtain ⟨Ai, ci, k1, k2, k3⟩ := hx i p hp
    exact ⟨Ai, ci, by rw [List.getElem?_append_left (by omega)]; exact k1, k2.grownS hg hf, k3⟩
  · rw [List.getElem?_append_right h1] at hp
    have hi : i = l.length := by
      rcases Nat.lt_or_ge (i - l.length) 1 with h2 | h2
      · omega
      · rw [List.getElem?_eq_none (by simpa using h2)] at hp; cases hp
    subst hi
    rw [Nat.sub_self] at hp
    obtain rfl := Option.some.inj hp
    exact ⟨A, c, by rw [List.getElem?_append_right (by omega), hlen]; simp, hy.grownS hg hf, hm⟩

end Go.Proofs.Ytdlddfmodbcnmaa

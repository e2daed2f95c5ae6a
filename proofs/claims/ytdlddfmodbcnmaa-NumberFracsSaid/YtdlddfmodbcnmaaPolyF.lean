/- Polynomials in memory, each coefficient with a bound of its own. -/
import Derived.Test.YtdlddfmodbcnmaaPolyM
set_option linter.unusedVariables false
set_option linter.unusedSimpArgs false
namespace Go.Proofs.Ytdlddfmodbcnmaa
open Go.RowKit

def PF (w : World) (g n : Nat) (z : Row) (L : Nat → Nat) : Prop :=
  g < w.heap.size ∧ ∀ i, i < n → ∃ b sv, w.cell? ⟨g, i * 2, none⟩ = some (.bool b) ∧ w.cell? ⟨g, i * 2 + 1, none⟩ = some sv ∧ w.frozen? ⟨g, i * 2, none⟩ = false ∧ w.frozen? ⟨g, i * 2 + 1, none⟩ = false ∧ LG w b sv (z i) (L i)
theorem PF.of {w : World} {g n : Nat} {z : Row} {L : Nat} (h : PR w g n z L) : PF w g n z (fun _ => L) := h
theorem PF.to {w : World} {g n : Nat} {z : Row} {L : Nat → Nat} {M : Nat} (h : PF w g n z L) (hL : ∀ i, i < n → L i ≤ M) : PR w g n z M :=
  ⟨h.1, fun i hi => by
    obtain ⟨b, sv, h1, h2, h3, h4, h5⟩ := h.2 i hi
    exact ⟨b, sv, h1, h2, h3, h4, h5.more (hL i hi)⟩⟩
theorem PF.below {w w' : World} {g n : Nat} {z : Row} {L : Nat → Nat} {B : Nat} (h : PF w g n z L) (hB : w.heap.size ≤ B) (hb : Below B w w') : PF w' g n z L :=
  ⟨Nat.lt_of_lt_of_le h.1 hb.size, fun i hi => by
    have hg := h.1
    obtain ⟨b, sv, h1, h2, h3, h4, h5⟩ := h.2 i hi
    exact ⟨b, sv, (hb.cell (p := ⟨g, i * 2, none⟩) (by show g < B; omega)).trans h1, (hb.cell (p := ⟨g, i * 2 + 1, none⟩) (by show g < B; omega)).trans h2,
      (hb.frozen (p := ⟨g, i * 2, none⟩) (by show g < B; omega)).trans h3, (hb.frozen (p := ⟨g, i * 2 + 1, none⟩) (by show g < B; omega)).trans h4, h5.below hB hb⟩⟩
theorem PF.set {w : World} {g n : Nat} {z : Row} {L : Nat → Nat} (h : PF w g n z L) {k : Nat} (hk : k < n) {b : Bool} {sv : Value} {v : Int} {M : Nat} (hv : LG w b sv v M) :
    PF ((w.setCell ⟨g, k * 2, none⟩ (.bool b)).setCell ⟨g, k * 2 + 1, none⟩ sv) g n (upd z k v) (fun i => if i = k then M else L i) := by
  obtain ⟨b0, sv0, c0, -, -, -, -⟩ := h.2 0 (by omega)
  have c0' : w.cell? ⟨g, 0, none⟩ = some (.bool b0) := c0
  refine ⟨by simpa [World.setCell] using h.1, fun i hi => ?_⟩
  obtain ⟨b1, sv1, h1, h2, h3, h4, h5⟩ := h.2 i hi
  obtain ⟨b2, sv2, k1, k2, k3, k4, k5⟩ := h.2 k hk
  have e1 : (w.setCell ⟨g, k * 2, none⟩ (.bool b)).cell? ⟨g, k * 2, none⟩ = some (.bool b) := World.cell?_setCell_same' _ _ _ (by rw [k1]; rfl)
  have e2 : (w.setCell ⟨g, k * 2, none⟩ (.bool b)).cell? ⟨g, k * 2 + 1, none⟩ = some sv2 := by rw [World.cell?_setCell_other _ _ _ _ (by simp)]; exact k2
  by_cases e : i = k
  · subst e
    refine ⟨b, sv, ?_, World.cell?_setCell_same' _ _ _ (by rw [e2]; rfl), by simp only [World.frozen?_setCell]; exact h3, by simp only [World.frozen?_setCell]; exact h4, ?_⟩
    · rw [World.cell?_setCell_other _ _ _ _ (by simp)]; exact e1
    · rw [upd_same]; dsimp only; rw [if_pos rfl]; exact hv.setIn c0' _ _ _ _
  · refine ⟨b1, sv1, ?_, ?_, by simp only [World.frozen?_setCell]; exact h3, by simp only [World.frozen?_setCell]; exact h4, ?_⟩
    · rw [World.cell?_setCell_other _ _ _ _ (by simp <;> omega), World.cell?_setCell_other _ _ _ _ (by simp <;> omega)]; exact h1
    · rw [World.cell?_setCell_other _ _ _ _ (by simp <;> omega), World.cell?_setCell_other _ _ _ _ (by simp <;> omega)]; exact h2
    · rw [upd_other e]; dsimp only; rw [if_neg e]; exact h5.setIn c0' _ _ _ _
/-- A store into another polynomial's row leaves what lies elsewhere. -/
theorem PR.otherF {w : World} {g k n m : Nat} {z y : Row} {L : Nat} {L' : Nat → Nat} (h : PR w g n z L) (hk : PF w k m y L') (hm : 0 < m) (hne : g ≠ k) (i j : Nat) (u v : Value) : PR ((w.setCell ⟨k, i, none⟩ u).setCell ⟨k, j, none⟩ v) g n z L := by
  obtain ⟨b0, sv0, k0, -, -, -, -⟩ := hk.2 0 hm
  have k0' : w.cell? ⟨k, 0, none⟩ = some (.bool b0) := k0
  refine ⟨by simpa [World.setCell] using h.1, fun t ht => ?_⟩
  obtain ⟨b1, sv1, h1, h2, h3, h4, h5⟩ := h.2 t ht
  refine ⟨b1, sv1, ?_, ?_, by simp only [World.frozen?_setCell]; exact h3, by simp only [World.frozen?_setCell]; exact h4, h5.setIn k0' _ _ _ _⟩
  · rw [World.cell?_setCell_other _ _ _ _ (by simp <;> omega), World.cell?_setCell_other _ _ _ _ (by simp <;> omega)]; exact h1
  · rw [World.cell?_setCell_other _ _ _ _ (by simp <;> omega), World.cell?_setCell_other _ _ _ _ (by simp <;> omega)]; exact h2

end Go.Proofs.Ytdlddfmodbcnmaa

/- Polynomials that grow by append, in memory. -/
import Derived.Test.YtdlddfmodbcnmaaPolyM
import Derived.Deep.RegionLaw
import Derived.Deep.AppendLies
import Derived.Maps.AppendAt
set_option linter.unusedVariables false
set_option linter.unusedSimpArgs false
namespace Go.Proofs.Ytdlddfmodbcnmaa
open Go.RowKit

theorem grownBy_below {w w' : World} (h : Below w.heap.size w w') (row : Option Nat) : w.grownBy w' row := ⟨h.os, h.tape, h.output, h.size, fun i hi _ => h.block i hi⟩
theorem owns_below {w w' : World} {base : Nat} {e : TypeId} {size : Nat} {v : Value} {n : Nat} {xs : List Value} (h : w.ownsRow base e size v n xs) (hb : Below w.heap.size w w') : w'.ownsRow base e size v n xs :=
  h.kept (grownBy_below hb none) (by cases hv : v.ownBlock with
    | none => exact Or.inl rfl
    | some g => exact Or.inr (by simp))
theorem LG.grown {w w' : World} {b : Bool} {sv : Value} {z : Int} {L : Nat} {row : Option Nat} (h : LG w b sv z L) (hg : w.grownBy w' row) (hr : ∀ g, row = some g → ∃ x, w.cell? ⟨g, 0, none⟩ = some (.bool x)) : LG w' b sv z L := by
  obtain ⟨A, n, c, f, e, h1, h2, h3, h4⟩ := h
  refine ⟨A, n, c, f, e, ⟨h1.1, fun hn => ?_⟩, h2, h3, h4⟩
  obtain ⟨k, e, hl, hc⟩ := h1.2 hn
  refine ⟨k, e, Nat.lt_of_lt_of_le hl hg.size, fun j hj => ?_⟩
  rw [hg.cell_far ⟨k, j, none⟩ hl (fun e => by
    obtain ⟨x, hx⟩ := hr k e.symm
    have h0 := hc 0 hn
    rw [hx] at h0; cases h0)]
  exact hc j hj

/-- The slice value dv owns the m coefficients z. -/
def PO (w : World) (base : Nat) (dv : Value) (m : Nat) (z : Row) (L : Nat) : Prop :=
  (m = 0 → dv = .slice none 0 0) ∧ ∃ xs, w.ownsRow base 130 2 dv m xs ∧ ∀ i, i < m → ∃ b sv, xs[i * 2]? = some (.bool b) ∧ xs[i * 2 + 1]? = some sv ∧ LG w b sv (z i) L
theorem PO.nil (w : World) (base : Nat) (z : Row) (L : Nat) : PO w base (.slice none 0 0) 0 z L := ⟨fun _ => rfl, [], ⟨by simp, .inl ⟨rfl, rfl⟩⟩, fun i h => by omega⟩
theorem PO.below {w w' : World} {base : Nat} {dv : Value} {m : Nat} {z : Row} {L : Nat} (h : PO w base dv m z L) (hb : Below w.heap.size w w') : PO w' base dv m z L := by
  obtain ⟨h0, xs, ho, hx⟩ := h
  refine ⟨h0, xs, owns_below ho hb, fun i hi => ?_⟩
  obtain ⟨b, sv, h1, h2, h3⟩ := hx i hi
  exact ⟨b, sv, h1, h2, h3.below (Nat.le_refl _) hb⟩
theorem PO.form {w : World} {base : Nat} {dv : Value} {m : Nat} {z : Row} {L : Nat} (h : PO w base dv m z L) : ∃ A c, dv = .slice A m c := by
  obtain ⟨h0, xs, ho, hx⟩ := h
  rcases ho.2 with ⟨rfl, rfl⟩ | ⟨g, cap, cur, rfl, _⟩
  · exact ⟨none, 0, rfl⟩
  · exact ⟨_, cap, rfl⟩
theorem PO.pa {w : World} {base : Nat} {A : Option Addr} {c m : Nat} {z : Row} {L : Nat} (h : PO w base (.slice A m c) m z L) : PA w A m z L := fun hm => by
  obtain ⟨h0, xs, ho, hx⟩ := h
  obtain ⟨g, cap, hv, hb, hlt⟩ := ho.form hm
  injection hv with hA _ hc
  subst hA; subst hc
  refine ⟨g, rfl, hlt, fun i hi => ?_⟩
  obtain ⟨b, sv, h1, h2, h3⟩ := hx i hi
  exact ⟨b, sv, by rw [ho.cellAt _ (by omega)]; exact h1, by rw [ho.cellAt _ (by omega)]; exact h2, ho.frozenAt _, ho.frozenAt _, h3⟩
/-- The row's first cell. -/
theorem PO.first {w : World} {base : Nat} {dv : Value} {m : Nat} {z : Row} {L : Nat} (h : PO w base dv m z L) : ∀ g, dv.ownBlock = some g → ∃ x, w.cell? ⟨g, 0, none⟩ = some (.bool x) := fun g hg => by
  obtain ⟨A, c, rfl⟩ := h.form
  rcases Nat.eq_zero_or_pos m with h0 | h0
  · have := h.1 h0; rw [this] at hg; simp [Value.ownBlock] at hg
  · obtain ⟨g', e, hp⟩ := h.pa h0
    subst e
    simp only [Value.ownBlock, Option.some.injEq] at hg
    subst hg
    obtain ⟨b, sv, h1, _⟩ := hp.2 0 h0
    exact ⟨b, h1⟩
/-- One more. -/
theorem PO.more1 {w w' : World} {base : Nat} {dv : Value} {m : Nat} {z : Row} {L g cap : Nat} {b : Bool} {sv : Value} {v : Int} (h : PO w base dv m z L) (hv : LG w b sv v L) (hz : z m = v) (xs : List Value) (ho : w.ownsRow base 130 2 dv m xs)
    (hx : ∀ i, i < m → ∃ b sv, xs[i * 2]? = some (.bool b) ∧ xs[i * 2 + 1]? = some sv ∧ LG w b sv (z i) L)
    (hown : w'.ownsRow base 130 2 (.slice (some ⟨g, 0, none⟩) (m + 1) cap) (m + 1) (xs ++ [.bool b, sv])) (hg : w.grownBy w' dv.ownBlock) : PO w' base (.slice (some ⟨g, 0, none⟩) (m + 1) cap) (m + 1) z L := by
  have hl := ho.1
  refine ⟨fun h => by omega, _, hown, fun i hi => ?_⟩
  rcases Nat.lt_or_ge i m with h1 | h1
  · obtain ⟨b1, sv1, k1, k2, k3⟩ := hx i h1
    exact ⟨b1, sv1, by rw [List.getElem?_append_left (by omega)]; exact k1, by rw [List.getElem?_append_left (by omega)]; exact k2, k3.grown hg h.first⟩
  · obtain rfl : i = m := by omega
    refine ⟨b, sv, by rw [List.getElem?_append_right (by omega), hl]; simp, by rw [List.getElem?_append_right (by omega), hl, show i * 2 + 1 - i * 2 = 1 by omega]; simp, ?_⟩
    rw [hz]; exact hv.grown hg h.first

theorem info_long_parts : ∃ i, Try.prog.info? 130 = some i ∧ i.zero = some (.agg #[.bool false, .slice none 0 0]) ∧ i.size = 2 ∧ i.bytes = 32 := by
  obtain ⟨i, hi, hzz⟩ := Option.map_eq_some_iff.1 info_long
  simp only [Prod.mk.injEq] at hzz
  exact ⟨i, hi, hzz.1, hzz.2.1, hzz.2.2⟩

end Go.Proofs.Ytdlddfmodbcnmaa

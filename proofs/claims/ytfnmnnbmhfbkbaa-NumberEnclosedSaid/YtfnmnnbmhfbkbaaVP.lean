/- Plain facts of Sturm's chain: its tops, its signs. -/
import Derived.Test.YtfnmnnbmhfbkbaaBf
set_option linter.unusedVariables false
set_option linter.unusedSimpArgs false
namespace Go.Proofs.Ytfnmnnbmhfbkbaa
open Go.RowKit

theorem trimN_top : ∀ {m : Nat} {z : Row}, 0 < trimN m z → z (trimN m z - 1) ≠ 0
  | 0, _, h => absurd h (by simp [trimN])
  | m + 1, z, h => by
    by_cases e : z m = 0
    · have e1 : trimN (m + 1) z = trimN m z := by show (if z m = 0 then _ else _) = _; rw [if_pos e]
      rw [e1] at h ⊢
      exact trimN_top h
    · have e1 : trimN (m + 1) z = m + 1 := by show (if z m = 0 then _ else _) = _; rw [if_neg e]
      rw [e1]; exact e
theorem trimN_drop {m : Nat} {z : Row} (h : z m = 0) : trimN (m + 1) z = trimN m z := by
  show (if z m = 0 then _ else _) = _; rw [if_pos h]
theorem step_small {mr : Nat} {r : Row} {m : Nat} {q : Row} (h : m ≤ mr) (hm : 1 ≤ m) : trimN mr (stepR mr r m q) ≤ mr - 1 := by
  obtain ⟨t, rfl⟩ : ∃ t, mr = t + 1 := ⟨mr - 1, by omega⟩
  have h0 := stepR_top (m := t + 1) (r := r) (nq := m) (q := q) h (by omega)
  simp only [Nat.add_sub_cancel] at h0 ⊢
  rw [trimN_drop h0]
  exact trimN_le _ _
theorem restR_top {nq : Nat} {q : Row} (h1 : 1 ≤ nq) : ∀ (f m : Nat) (r : Row), nq ≤ m → m ≤ f → 0 < (restR nq q f m r).1 → (restR nq q f m r).2 ((restR nq q f m r).1 - 1) ≠ 0
  | 0, m, r, h, hf, _ => by omega
  | f + 1, m, r, h, hf, hp => by
    have hs := step_small (r := r) (q := q) h h1
    have e : restR nq q (f + 1) m r = restR nq q f (trimN m (stepR m r nq q)) (stepR m r nq q) := by show (if nq ≤ m then _ else _) = _; rw [if_pos h]
    rw [e] at hp ⊢
    by_cases c : nq ≤ trimN m (stepR m r nq q)
    · exact restR_top h1 f _ _ c (by omega) hp
    · have e2 := restR_end (rfl : restR nq q f (trimN m (stepR m r nq q)) (stepR m r nq q) = _) c
      rw [e2] at hp ⊢
      exact trimN_top hp
theorem dRow_top {n : Nat} {z : Row} (h : z (n + 1) ≠ 0) : dRow z n ≠ 0 := by
  show z (n + 1) * ((n : Int) + 1) ≠ 0
  intro e
  rcases Int.mul_eq_zero.1 e with e | e
  · exact h e
  · omega
theorem cmpI_ne {x : Int} (h : x ≠ 0) : cmpI x 0 ≠ 0 := by
  rcases Int.lt_or_le x 0 with c | c
  · rw [cmpI_lt c]; decide
  · rw [cmpI_gt (by omega)]; decide
theorem sgBehind_ne (N D : Int) : ∀ (n : Nat) (z : Row), z n ≠ 0 → sgBehind N D (n + 1) z ≠ 0
  | 0, z, h => by
    have e : sgAt (0 + 1) z N D ≠ 0 := by
      show cmpI (0 * N + z 0 * 1) 0 ≠ 0
      rw [Int.zero_mul, Int.zero_add, Int.mul_one]
      exact cmpI_ne h
    rw [sgBehind_yes e]; exact e
  | n + 1, z, h => by
    by_cases e : sgAt (n + 1 + 1) z N D = 0
    · rw [sgBehind_no e]; exact sgBehind_ne N D n (dRow z) (dRow_top h)
    · rw [sgBehind_yes e]; exact e
/-- A polynomial with a last coefficient that is not 0. -/
def TopP (p : Nat × Row) : Prop := 1 ≤ p.1 ∧ p.2 (p.1 - 1) ≠ 0
theorem TopP.ne {p : Nat × Row} (h : TopP p) (N D : Int) : sgBehind N D p.1 p.2 ≠ 0 := by
  obtain ⟨n, z⟩ := p
  obtain ⟨h1, h2⟩ := h
  obtain ⟨m, rfl⟩ : ∃ m, n = m + 1 := ⟨n - 1, by dsimp only at h1; omega⟩
  exact sgBehind_ne N D m z h2
theorem chainR_top : ∀ (f n : Nat) (z : Row) (m : Nat) (y : Row), m ≤ n → (0 < m → y (m - 1) ≠ 0) → ∀ p, p ∈ chainR f n z m y → TopP p
  | 0, n, z, m, y, _, _, p, hp => by cases hp
  | f + 1, n, z, m, y, hm, hy, p, hp => by
    rcases Nat.eq_zero_or_pos m with h0 | h0
    · subst h0; rw [chainR_zero] at hp; cases hp
    · rw [chainR_step f n m z y h0] at hp
      rcases List.mem_cons.1 hp with e | e
      · subst e; exact ⟨h0, hy h0⟩
      · have hl := restR_lt (q := y) h0 n n z (Nat.le_refl _)
        refine chainR_top f m y _ _ (by omega) (fun hq => ?_) p e
        have := restR_top (q := y) h0 n n z hm (Nat.le_refl _) hq
        intro e2
        exact this (by omega)
theorem sturmR_top {n : Nat} {z : Row} (h : z n ≠ 0) : ∀ p, p ∈ sturmR (n + 1) z → TopP p := fun p hp => by
  rcases List.mem_cons.1 hp with e | e
  · subst e; exact ⟨by show 1 ≤ n + 1; omega, h⟩
  · exact chainR_top _ _ _ _ _ (by omega) (fun h1 => by
      obtain ⟨t, rfl⟩ : ∃ t, n = t + 1 := ⟨n - 1, by omega⟩
      exact dRow_top h) p e

end Go.Proofs.Ytfnmnnbmhfbkbaa

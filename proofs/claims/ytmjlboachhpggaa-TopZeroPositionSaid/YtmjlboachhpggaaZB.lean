/- Maps that a mirror and an instrument make: the loops. Plain. -/
import Derived.Test.YtmjlboachhpggaaZA
set_option linter.unusedVariables false
set_option linter.unusedSimpArgs false
namespace Go.Proofs.Ytmjlboachhpggaa.Vg
open Go Go.Proofs.Ytmjlboachhpggaa.Ev Go.Proofs.Ytmjlboachhpggaa.Vv
theorem mod_iv (k : Nat) {n s t i : Nat} (h1 : t * s ≤ n) (hn : n ≤ 24) (hi : i < n) : nspeculumbase_Mod k ((i : Int) - ((t * s : Nat) : Int)) (n : Int) = some (ivI n s t i : Int) := by
  unfold nspeculumbase_Mod ivI
  rw [if_pos (by omega)]
  by_cases h : t * s ≤ i
  · rw [if_pos h, show (i : Int) - ((t * s : Nat) : Int) = ((i - t * s : Nat) : Int) by omega, ← Int.ofNat_tmod, Nat.mod_eq_of_lt (by omega), if_neg (by omega)]
  · rw [if_neg h, show (i : Int) - ((t * s : Nat) : Int) = -((t * s - i : Nat) : Int) by omega, Int.neg_tmod, ← Int.ofNat_tmod]
    by_cases h2 : t * s - i = n
    · rw [h2, Nat.mod_self, show -((0 : Nat) : Int) = 0 by rfl, if_neg (by omega)]
      congr 1; omega
    · rw [Nat.mod_eq_of_lt (by omega), if_pos (by omega), w64_id (by omega) (by omega)]
      congr 1; omega
section
variable {k : Nat} {x : SMade} {n s T : Nat}
theorem maps_l1 (hM : x.Mirror.length = n) (hI : x.Instrument.length = n) (hn : 1 ≤ n ∧ n ≤ 24) (hT : x.Turns = (T : Int)) (hT1 : 1 ≤ T ∧ T ≤ 12) (hst : n = s * T) (y3 : List (List Int)) {t : Nat} (ht : t < T) : ∀ (d fuel i : Nat), n = i + d → d < fuel →
    ∃ r, n_speculumlaw05_Made_Maps_l1_0 k x y3 (t : Int) fuel ((List.range i).map (cellW x.Mirror x.Instrument n s t)) (i : Int) = some r ∧ (r = .inl () ∨ r = .inr (rowW x.Mirror x.Instrument n s t) ∧ ∀ j, i ≤ j → j < n → (-50000 ≤ x.Mirror.getD j 0 ∧ x.Mirror.getD j 0 ≤ 50000) ∧ -50000 ≤ x.Instrument.getD j 0 ∧ x.Instrument.getD j 0 ≤ 50000) := by
  have hts : t * s + s ≤ n := by rw [hst, Nat.mul_comm s T, ← ts_succ]; exact Nat.mul_le_mul_right s (by omega)
  have hdiv : (n : Int).tdiv (T : Int) = (s : Int) := by
    rw [hst, Int.natCast_mul]; exact Int.mul_tdiv_cancel _ (by omega)
  have hsn : s ≤ 24 := by omega
  have htsb : t * s ≤ 24 := by omega
  intro d
  induction d with
  | zero =>
    intro fuel i h hf
    obtain ⟨g, rfl⟩ : ∃ g, fuel = g + 1 := ⟨fuel - 1, by omega⟩
    refine ⟨_, by rw [n_speculumlaw05_Made_Maps_l1_0.eq_2, if_neg (by omega)], .inr ⟨by rw [show n = i by omega]; rfl, fun j h1 h2 => by omega⟩⟩
  | succ d ih =>
    intro fuel i h hf
    obtain ⟨g, rfl⟩ : ∃ g, fuel = g + 1 := ⟨fuel - 1, by omega⟩
    have hi : i < n := by omega
    have hiv : ivI n s t i < n := by unfold ivI; split <;> omega
    rw [n_speculumlaw05_Made_Maps_l1_0.eq_2, if_pos (by omega), if_pos (by omega), within_base, Option.bind_some, Int.toNat_natCast]
    by_cases c1 : -50000 ≤ x.Mirror.getD i 0 ∧ x.Mirror.getD i 0 ≤ 50000
    · rw [if_pos (decide_eq_true c1), if_pos (by omega), within_base, Option.bind_some]
      by_cases c2 : -50000 ≤ x.Instrument.getD i 0 ∧ x.Instrument.getD i 0 ≤ 50000
      · have em : w64 ((i : Int) - w64 ((t : Int) * w64 ((x.Mirror.length : Int).tdiv x.Turns))) = (i : Int) - ((t * s : Nat) : Int) := by
          rw [hM, hT, hdiv, w64_id (n := (s : Int)) (by omega) (by omega), ← Int.natCast_mul, w64_id (n := ((t * s : Nat) : Int)) (by omega) (by omega), w64_id (by omega) (by omega)]
        rw [if_pos (decide_eq_true c2), if_pos (by omega), em, hM, mod_iv k (by omega) hn.2 hi, Option.bind_some, if_pos (by omega), if_pos (by simp; omega), Int.toNat_natCast, w64_succ (by omega)]
        have ea : (List.range i).map (cellW x.Mirror x.Instrument n s t) ++ [w64 (x.Mirror.getD (ivI n s t i) 0 + x.Instrument.getD i 0)] = (List.range (i + 1)).map (cellW x.Mirror x.Instrument n s t) := by
          rw [List.range_succ, List.map_append]; rfl
        rw [ea]
        obtain ⟨r, e1, e2⟩ := ih g (i + 1) (by omega) (by omega)
        refine ⟨r, e1, ?_⟩
        rcases e2 with e2 | ⟨e2, e3⟩
        · exact .inl e2
        · refine .inr ⟨e2, fun j h1 h2 => ?_⟩
          by_cases e : j = i
          · rw [e]; exact ⟨c1, c2⟩
          · exact e3 j (by omega) h2
      · rw [decide_eq_false c2, if_neg (by simp)]; exact ⟨_, rfl, .inl rfl⟩
    · rw [decide_eq_false c1, if_neg (by simp)]; exact ⟨_, rfl, .inl rfl⟩
theorem maps_l0 (hk : 100 < k) (hM : x.Mirror.length = n) (hI : x.Instrument.length = n) (hn : 1 ≤ n ∧ n ≤ 24) (hT : x.Turns = (T : Int)) (hT1 : 1 ≤ T ∧ T ≤ 12) (hst : n = s * T) : ∀ (d fuel t : Nat), T = t + d → d < fuel →
    ∃ r, n_speculumlaw05_Made_Maps_l0_0 k x fuel ((List.range t).map (rowW x.Mirror x.Instrument n s)) (t : Int) = some r ∧ (r = .inl () ∨ r = .inr ((List.range T).map (rowW x.Mirror x.Instrument n s)) ∧ (1 ≤ d → ∀ j, j < n → (-50000 ≤ x.Mirror.getD j 0 ∧ x.Mirror.getD j 0 ≤ 50000) ∧ -50000 ≤ x.Instrument.getD j 0 ∧ x.Instrument.getD j 0 ≤ 50000)) := by
  intro d
  induction d with
  | zero =>
    intro fuel t h hf
    obtain ⟨g, rfl⟩ : ∃ g, fuel = g + 1 := ⟨fuel - 1, by omega⟩
    refine ⟨_, by rw [n_speculumlaw05_Made_Maps_l0_0.eq_2, if_neg (by omega)], .inr ⟨by rw [show T = t by omega], fun h => by omega⟩⟩
  | succ d ih =>
    intro fuel t h hf
    obtain ⟨g, rfl⟩ : ∃ g, fuel = g + 1 := ⟨fuel - 1, by omega⟩
    obtain ⟨r, e1, e2⟩ := maps_l1 (k := k) hM hI hn hT hT1 hst ((List.range t).map (rowW x.Mirror x.Instrument n s)) (t := t) (by omega) n k 0 (by omega) (by omega)
    rw [n_speculumlaw05_Made_Maps_l0_0.eq_2, if_pos (by omega), show n_speculumlaw05_Made_Maps_l1_0 k x ((List.range t).map (rowW x.Mirror x.Instrument n s)) (t : Int) k [] 0 = _ from e1, Option.bind_some]
    rcases e2 with rfl | ⟨rfl, e3⟩
    · exact ⟨_, rfl, .inl rfl⟩
    · dsimp only
      rw [if_pos (by simp; omega), w64_succ (by omega)]
      have ea : (List.range t).map (rowW x.Mirror x.Instrument n s) ++ [rowW x.Mirror x.Instrument n s t] = (List.range (t + 1)).map (rowW x.Mirror x.Instrument n s) := by
        rw [List.range_succ, List.map_append]; rfl
      rw [ea]
      obtain ⟨r, f1, f2⟩ := ih g (t + 1) (by omega) (by omega)
      refine ⟨r, f1, ?_⟩
      rcases f2 with f2 | ⟨f2, f3⟩
      · exact .inl f2
      · exact .inr ⟨f2, fun _ j hj => e3 j (Nat.zero_le _) hj⟩
theorem maps_p (hk : 100 < k) (x : SMade) : ∃ r, n_speculumlaw05_Made_Maps k x = some r ∧ (r.2 = false ∨ ∃ n s T, r = (mk x.Mirror x.Instrument n s T, true) ∧ x.Turns = (T : Int) ∧ BD x.Mirror x.Instrument n s T) := by
  unfold n_speculumlaw05_Made_Maps
  rw [within_base, Option.bind_some]
  by_cases c1 : 1 ≤ (x.Mirror.length : Int) ∧ (x.Mirror.length : Int) ≤ 24
  case neg => rw [decide_eq_false c1, if_neg (by simp)]; exact ⟨_, rfl, .inl rfl⟩
  rw [if_pos (decide_eq_true c1)]
  by_cases c2 : (x.Instrument.length : Int) = (x.Mirror.length : Int)
  case neg => rw [if_neg c2]; exact ⟨_, rfl, .inl rfl⟩
  rw [if_pos c2, within_base, Option.bind_some]
  by_cases c3 : 1 ≤ x.Turns ∧ x.Turns ≤ 12
  case neg => rw [decide_eq_false c3, if_neg (by simp)]; exact ⟨_, rfl, .inl rfl⟩
  rw [if_pos (decide_eq_true c3), if_pos (by omega)]
  by_cases c4 : (x.Mirror.length : Int).tmod x.Turns = 0
  case neg => rw [if_neg c4]; exact ⟨_, rfl, .inl rfl⟩
  rw [if_pos c4]
  obtain ⟨T, hT⟩ : ∃ T : Nat, x.Turns = (T : Int) := ⟨x.Turns.toNat, by omega⟩
  obtain ⟨s, hs⟩ : ∃ s : Nat, x.Mirror.length = s * T := by
    rw [hT, ← Int.ofNat_tmod] at c4
    have : x.Mirror.length % T = 0 := by omega
    exact ⟨x.Mirror.length / T, (Nat.div_mul_cancel (Nat.dvd_of_mod_eq_zero this)).symm⟩
  obtain ⟨r, e1, e2⟩ := maps_l0 (k := k) (x := x) (n := x.Mirror.length) (s := s) (T := T) hk rfl (by omega) (by omega) hT (by omega) hs T k 0 (by omega) (by omega)
  rw [show n_speculumlaw05_Made_Maps_l0_0 k x k [] 0 = _ from e1, Option.bind_some]
  rcases e2 with rfl | ⟨rfl, e3⟩
  · exact ⟨_, rfl, .inl rfl⟩
  · have e4 := e3 (by omega)
    exact ⟨_, rfl, .inr ⟨x.Mirror.length, s, T, rfl, hT, rfl, by omega, by omega, by omega, by omega, by omega, hs, fun i hi => (e4 i hi).1, fun i hi => (e4 i hi).2⟩⟩
end
end Go.Proofs.Ytmjlboachhpggaa.Vg

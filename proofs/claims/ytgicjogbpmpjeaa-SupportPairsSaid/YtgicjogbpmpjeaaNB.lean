/- Pairs of gears by how much they miss a ratio: the least one, and where it lies. Plain. -/
import Derived.Test.YtgicjogbpmpjeaaP1
import Derived.Test.YtgicjogbpmpjeaaWb
set_option linter.unusedVariables false
set_option linter.unusedSimpArgs false
namespace Go.Proofs.Ytgicjogbpmpjeaa.Vg
open Go Go.Proofs.Ytgicjogbpmpjeaa.Ev Go.Proofs.Ytgicjogbpmpjeaa.Vv
/-- by how much a pair misses p / q, times both denominators. -/
def ofI (p q : Int) (g : SGearPair) : Int := ((g.Driver * q - g.Driven * p).natAbs : Int)
def nea (p q : Int) (a b : SGearPair) : Prop := ofI p q a * b.Driven < ofI p q b * a.Driven
def neaE (p q : Int) (a b : SGearPair) : Prop := ofI p q a * b.Driven = ofI p q b * a.Driven
instance (p q : Int) (a b : SGearPair) : Decidable (nea p q a b) := by unfold nea; exact inferInstance
instance (p q : Int) (a b : SGearPair) : Decidable (neaE p q a b) := by unfold neaE; exact inferInstance
def ahead (a b : SGearPair) : Prop := a.Driver + a.Driven < b.Driver + b.Driven ∨ (a.Driver + a.Driven = b.Driver + b.Driven ∧ a.Driver < b.Driver)
instance (a b : SGearPair) : Decidable (ahead a b) := by unfold ahead; exact inferInstance
def bet (p q : Int) (a b : SGearPair) : Prop := nea p q a b ∨ (neaE p q a b ∧ ahead a b)
instance (p q : Int) (a b : SGearPair) : Decidable (bet p q a b) := by unfold bet; exact inferInstance
theorem ofI_nn (p q : Int) (g : SGearPair) : 0 ≤ ofI p q g := by unfold ofI; omega
section
variable {p q : Int} {a b c : SGearPair}
theorem mul_lt_r {x y z : Int} (h : x < y) (hz : 0 < z) : x * z < y * z := Int.mul_lt_mul_of_pos_right h hz
theorem nea_le_trans (ha : 0 < a.Driven) (hb : 0 < b.Driven) (hc : 0 < c.Driven) (h1 : nea p q a b) (h2 : ¬ nea p q c b) : nea p q a c := by
  unfold nea at *
  have e1 := mul_lt_r h1 hc
  have e2 := Int.mul_le_mul_of_nonneg_right (Int.not_lt.1 h2) (Int.le_of_lt ha)
  have e3 : ofI p q a * b.Driven * c.Driven = (ofI p q a * c.Driven) * b.Driven := by grind
  have e4 : ofI p q b * a.Driven * c.Driven = ofI p q b * c.Driven * a.Driven := by grind
  have e5 : ofI p q c * b.Driven * a.Driven = (ofI p q c * a.Driven) * b.Driven := by grind
  rw [e3, e4] at e1
  rw [e5] at e2
  exact Int.lt_of_mul_lt_mul_right (Int.lt_of_lt_of_le e1 e2) (Int.le_of_lt hb)
theorem le_nea_trans (ha : 0 < a.Driven) (hb : 0 < b.Driven) (hc : 0 < c.Driven) (h1 : ¬ nea p q b a) (h2 : nea p q b c) : nea p q a c := by
  unfold nea at *
  have e1 := Int.mul_le_mul_of_nonneg_right (Int.not_lt.1 h1) (Int.le_of_lt hc)
  have e2 := mul_lt_r h2 ha
  have e3 : ofI p q a * b.Driven * c.Driven = (ofI p q a * c.Driven) * b.Driven := by grind
  have e4 : ofI p q b * a.Driven * c.Driven = ofI p q b * c.Driven * a.Driven := by grind
  have e5 : ofI p q c * b.Driven * a.Driven = (ofI p q c * a.Driven) * b.Driven := by grind
  rw [e3, e4] at e1
  rw [e5] at e2
  exact Int.lt_of_mul_lt_mul_right (Int.lt_of_le_of_lt e1 e2) (Int.le_of_lt hb)
theorem nea_irr : ¬ nea p q a a := by unfold nea; omega
theorem nea_asymm (h : nea p q a b) : ¬ nea p q b a := by unfold nea at *; omega
theorem nea_tri : nea p q a b ∨ neaE p q a b ∨ nea p q b a := by unfold nea neaE; omega
theorem neaE_symm (h : neaE p q a b) : neaE p q b a := by unfold neaE at *; omega
theorem neaE_iff : neaE p q a b ↔ ¬ nea p q a b ∧ ¬ nea p q b a := by unfold nea neaE; omega
theorem nle_trans (ha : 0 < a.Driven) (hb : 0 < b.Driven) (hc : 0 < c.Driven) (h1 : ¬ nea p q b a) (h2 : ¬ nea p q c b) : ¬ nea p q c a := fun h => h2 (nea_le_trans hc ha hb h h1)
theorem bet_asymm (h : bet p q a b) : ¬ bet p q b a := by
  unfold bet ahead nea neaE at *; omega
theorem bet_total (h : a ≠ b) : bet p q a b ∨ bet p q b a := by
  rcases nea_tri (p := p) (q := q) (a := a) (b := b) with h1 | h1 | h1
  · exact .inl (.inl h1)
  · by_cases h2 : ahead a b
    · exact .inl (.inr ⟨h1, h2⟩)
    · refine .inr (.inr ⟨neaE_symm h1, ?_⟩)
      unfold ahead at *
      rcases Int.lt_trichotomy (a.Driver + a.Driven) (b.Driver + b.Driven) with h3 | h3 | h3
      · omega
      · rcases Int.lt_trichotomy a.Driver b.Driver with h4 | h4 | h4
        · omega
        · exfalso; apply h
          obtain ⟨x, y⟩ := a; obtain ⟨x', y'⟩ := b
          simp only at h3 h4
          have : y = y' := by omega
          rw [h4, this]
        · omega
      · omega
  · exact .inr (.inl h1)
theorem bet_nle (h : bet p q a b) : ¬ nea p q b a := by
  rcases h with h | ⟨h, _⟩
  · exact nea_asymm h
  · exact (neaE_iff.1 h).2
theorem bet_trans (ha : 0 < a.Driven) (hb : 0 < b.Driven) (hc : 0 < c.Driven) (h1 : bet p q a b) (h2 : bet p q b c) : bet p q a c := by
  rcases h1 with h1 | ⟨h1, h1'⟩
  · exact .inl (nea_le_trans ha hb hc h1 (bet_nle h2))
  · rcases h2 with h2 | ⟨h2, h2'⟩
    · exact .inl (le_nea_trans ha hb hc (neaE_iff.1 h1).2 h2)
    · have e1 := neaE_iff.1 h1
      have e2 := neaE_iff.1 h2
      exact .inr ⟨neaE_iff.2 ⟨nle_trans hc hb ha e2.1 e1.1, nle_trans ha hb hc e1.2 e2.2⟩, by unfold ahead at *; omega⟩
end
/-- the best of a list and what is known already. -/
def bestL (p q : Int) : List SGearPair → SGearPair → SGearPair
  | [], b => b
  | g :: gs, b => bestL p q gs (if bet p q g b then g else b)
theorem bestL_ok {p q : Int} : ∀ (l : List SGearPair) (b : SGearPair), 0 < b.Driven → (∀ g ∈ l, 0 < g.Driven) → (bestL p q l b = b ∨ bestL p q l b ∈ l) ∧ ¬ bet p q b (bestL p q l b) ∧ ∀ g ∈ l, ¬ bet p q g (bestL p q l b)
  | [], b, hb, _ => ⟨.inl rfl, fun h => bet_asymm h h, fun g hg => by cases hg⟩
  | g :: gs, b, hb, hl => by
    have hg := hl g (by simp)
    have hgs := fun x (hx : x ∈ gs) => hl x (by simp [hx])
    unfold bestL
    by_cases c : bet p q g b
    · rw [if_pos c]
      obtain ⟨h1, h2, h3⟩ := bestL_ok gs g hg hgs
      have hr : 0 < (bestL p q gs g).Driven := by rcases h1 with h | h; rw [h]; exact hg; exact hgs _ h
      refine ⟨.inr (by rcases h1 with h | h; rw [h]; simp; simp [h]), fun h => ?_, fun x hx => ?_⟩
      · exact h2 (bet_trans hg hb hr c h)
      · rcases List.mem_cons.1 hx with rfl | hx
        · exact h2
        · exact h3 x hx
    · rw [if_neg c]
      obtain ⟨h1, h2, h3⟩ := bestL_ok gs b hb hgs
      have hr : 0 < (bestL p q gs b).Driven := by rcases h1 with h | h; rw [h]; exact hb; exact hgs _ h
      refine ⟨by rcases h1 with h | h; exact .inl h; exact .inr (by simp [h]), h2, fun x hx => ?_⟩
      rcases List.mem_cons.1 hx with rfl | hx
      · intro h
        by_cases e : x = b
        · rw [e] at h; exact h2 h
        · rcases bet_total (p := p) (q := q) e with h4 | h4
          · exact c h4
          · exact h2 (bet_trans hb hg hr h4 h)
      · exact h3 x hx
/-- all pairs of allowed teeth. -/
def okG (lo hi : Int) (g : SGearPair) : Prop := (lo ≤ g.Driver ∧ g.Driver ≤ hi) ∧ lo ≤ g.Driven ∧ g.Driven ≤ hi
def clp (lo hi n : Int) : Int := if hi < (if n < lo then lo else n) then hi else (if n < lo then lo else n)
theorem clp_in {lo hi n : Int} (h : lo ≤ hi) : lo ≤ clp lo hi n ∧ clp lo hi n ≤ hi := by unfold clp; split <;> split <;> omega
/-- Beside each pair there is one of the two drivers next to the ratio that is as good, or it is one of them. -/
theorem near_ok {p q lo hi : Int} (hp : 0 < p) (hq : 0 < q) (hlo : 1 ≤ lo) {g : SGearPair} (hg : okG lo hi g) (f : Int) (hf : f * q ≤ g.Driven * p) (hf2 : g.Driven * p < (f + 1) * q) :
    (g = ⟨clp lo hi f, g.Driven⟩ ∨ g = ⟨clp lo hi (f + 1), g.Driven⟩) ∨ nea p q ⟨clp lo hi f, g.Driven⟩ g ∨ nea p q ⟨clp lo hi (f + 1), g.Driven⟩ g := by
  obtain ⟨x, y⟩ := g
  obtain ⟨⟨h1, h2⟩, h3, h4⟩ := hg
  simp only at h1 h2 h3 h4 hf hf2 ⊢
  have key : ∀ z : Int, ((z * q - y * p).natAbs : Int) < ((x * q - y * p).natAbs : Int) → nea p q ⟨z, y⟩ ⟨x, y⟩ := fun z hz => by
    unfold nea ofI
    exact mul_lt_r hz (show (0 : Int) < y by omega)
  have e0 : (f + 1) * q = f * q + q := by grind
  rw [e0] at hf2
  rcases Int.lt_trichotomy x f with c | c | c
  · -- below
    by_cases cc : f ≤ hi
    · have e : clp lo hi f = f := by unfold clp; rw [if_neg (show ¬ f < lo by omega), if_neg (by omega)]
      refine .inr (.inl ?_)
      rw [e]
      have m := mul_lt_r c hq
      exact key f (by omega)
    · have e : clp lo hi f = hi := by unfold clp; rw [if_neg (show ¬ f < lo by omega), if_pos (by omega)]
      by_cases ex : x = hi
      · exact .inl (.inl (by rw [e, ex]))
      · refine .inr (.inl ?_)
        rw [e]
        have m := mul_lt_r (show x < hi by omega) hq
        have m2 := mul_lt_r (show hi < f by omega) hq
        exact key hi (by omega)
  · subst c
    have e : clp lo hi x = x := by unfold clp; rw [if_neg (show ¬ x < lo by omega), if_neg (by omega)]
    exact .inl (.inl (by rw [e]))
  · by_cases ex : x = f + 1
    · have e : clp lo hi (f + 1) = x := by unfold clp; rw [if_neg (show ¬ f + 1 < lo by omega), if_neg (by omega), ex]
      exact .inl (.inr (by rw [e]))
    · by_cases cc : lo ≤ f + 1
      · have e : clp lo hi (f + 1) = f + 1 := by unfold clp; rw [if_neg (show ¬ f + 1 < lo by omega), if_neg (by omega)]
        refine .inr (.inr ?_)
        rw [e]
        have m := mul_lt_r (show f + 1 < x by omega) hq
        rw [e0] at m
        exact key (f + 1) (by rw [e0]; omega)
      · have e : clp lo hi (f + 1) = lo := by unfold clp; rw [if_pos (show f + 1 < lo by omega), if_neg (by omega)]
        by_cases exl : x = lo
        · exact .inl (.inr (by rw [e, exl]))
        · refine .inr (.inr ?_)
          rw [e]
          have m := mul_lt_r (show lo < x by omega) hq
          have m2 := mul_lt_r (show f + 1 < lo by omega) hq
          rw [e0] at m2
          exact key lo (by omega)
/-- what is known while all pairs are gone through by their sums, then by the driver. -/
def InvB (p q lo hi s d : Int) (b : SGearPair) : Prop := okG lo hi b ∧ (b = ⟨lo, lo⟩ ∨ b.Driver + b.Driven < s ∨ (b.Driver + b.Driven = s ∧ b.Driver < d)) ∧ ∀ g, okG lo hi g → (g.Driver + g.Driven < s ∨ (g.Driver + g.Driven = s ∧ g.Driver < d)) → ¬ bet p q g b
theorem inv_start {p q lo hi : Int} (h : lo ≤ hi) : InvB p q lo hi (2 * lo) lo ⟨lo, lo⟩ := by
  refine ⟨⟨⟨Int.le_refl _, h⟩, Int.le_refl _, h⟩, .inl rfl, fun g hg hc => ?_⟩
  obtain ⟨⟨h1, h2⟩, h3, h4⟩ := hg
  omega
theorem inv_next {p q lo hi s : Int} {b : SGearPair} (h : InvB p q lo hi s (hi + 1) b) : InvB p q lo hi (s + 1) lo b := by
  obtain ⟨h1, h2, h3⟩ := h
  refine ⟨h1, ?_, fun g hg hc => h3 g hg ?_⟩
  · rcases h2 with h2 | h2 | h2
    · exact .inl h2
    · exact .inr (.inl (by omega))
    · exact .inr (.inl (by omega))
  · obtain ⟨⟨g1, g2⟩, g3, g4⟩ := hg
    omega
theorem inv_step {p q lo hi s d : Int} {b : SGearPair} (hlo : 1 ≤ lo) (hs : 2 * lo ≤ s) (hd : lo ≤ d) (hd2 : d ≤ hi) (h : InvB p q lo hi s d b) : InvB p q lo hi s (d + 1) (if (lo ≤ s - d ∧ s - d ≤ hi) ∧ nea p q ⟨d, s - d⟩ b then ⟨d, s - d⟩ else b) := by
  obtain ⟨h1, h2, h3⟩ := h
  have hb : 0 < b.Driven := by have := h1.2.1; omega
  by_cases c : (lo ≤ s - d ∧ s - d ≤ hi) ∧ nea p q ⟨d, s - d⟩ b
  · rw [if_pos c]
    obtain ⟨c1, c2⟩ := c
    refine ⟨⟨⟨hd, hd2⟩, c1⟩, .inr (.inr ⟨by dsimp only; omega, by dsimp only; omega⟩), fun g hg hc => ?_⟩
    have hg0 : 0 < g.Driven := by have := hg.2.1; omega
    have hn : 0 < (⟨d, s - d⟩ : SGearPair).Driven := by dsimp only; omega
    by_cases e : g.Driver + g.Driven < s ∨ (g.Driver + g.Driven = s ∧ g.Driver < d)
    · have h4 := h3 g hg e
      exact fun h5 => bet_asymm h5 (.inl (nea_le_trans hn hb hg0 c2 (fun h6 => h4 (.inl h6))))
    · have : g = ⟨d, s - d⟩ := by
        obtain ⟨x, y⟩ := g
        simp only at hc e
        have e1 : x = d := by omega
        have e2 : y = s - d := by omega
        rw [e1, e2]
      rw [this]; exact fun h5 => bet_asymm h5 h5
  · rw [if_neg c]
    refine ⟨h1, ?_, fun g hg hc => ?_⟩
    · rcases h2 with h2 | h2 | h2
      · exact .inl h2
      · exact .inr (.inl h2)
      · exact .inr (.inr (by omega))
    · by_cases e : g.Driver + g.Driven < s ∨ (g.Driver + g.Driven = s ∧ g.Driver < d)
      · exact h3 g hg e
      · have e1 : g.Driver = d := by omega
        have e2 : g.Driven = s - d := by omega
        have eg : g = ⟨d, s - d⟩ := by obtain ⟨x, y⟩ := g; simp only at e1 e2; rw [e1, e2]
        have hgo := hg.2
        rw [e2] at hgo
        rintro (h5 | ⟨h5, h6⟩)
        · exact c ⟨hgo, eg ▸ h5⟩
        · unfold ahead at h6
          rcases h2 with h2 | h2 | h2
          · rw [h2] at h6; simp only at h6; omega
          · omega
          · omega
/-- what both find is the same. -/
theorem best_same {p q lo hi : Int} (hp : 0 < p) (hq : 0 < q) (hlo : 1 ≤ lo) (hh : lo ≤ hi) (cs : List SGearPair) (hcs : ∀ g ∈ cs, okG lo hi g) (hall : ∀ y, lo ≤ y → y ≤ hi → ∃ f, f * q ≤ y * p ∧ y * p < (f + 1) * q ∧ ⟨clp lo hi f, y⟩ ∈ cs ∧ ⟨clp lo hi (f + 1), y⟩ ∈ cs) {r : SGearPair} (hr : InvB p q lo hi (2 * hi + 1) lo r) :
    bestL p q cs ⟨lo, lo⟩ = r ∧ okG lo hi r ∧ (∀ g, okG lo hi g → ¬ nea p q g r) ∧ ∀ g, 0 < g.Driven → nea p q r g → ∃ c, c ∈ cs ∧ nea p q c g := by
  obtain ⟨h1, _, h3⟩ := hr
  have hmin : ∀ g, okG lo hi g → ¬ bet p q g r := fun g hg => h3 g hg (by obtain ⟨⟨g1, g2⟩, g3, g4⟩ := hg; omega)
  have pos : ∀ g, okG lo hi g → 0 < g.Driven := fun g hg => by have := hg.2.1; omega
  have hin : okG lo hi ⟨lo, lo⟩ := ⟨⟨Int.le_refl _, hh⟩, Int.le_refl _, hh⟩
  obtain ⟨b1, b2, b3⟩ := bestL_ok (p := p) (q := q) cs ⟨lo, lo⟩ (by dsimp only; omega) (fun g hg => pos g (hcs g hg))
  have hb : okG lo hi (bestL p q cs ⟨lo, lo⟩) := by
    rcases b1 with h | h
    · rw [h]; exact hin
    · exact hcs _ h
  obtain ⟨f, f1, f2, f3, f4⟩ := hall r.Driven h1.2.1 h1.2.2
  have near := near_ok hp hq hlo h1 f f1 f2
  have hc : ∃ c, c ∈ cs ∧ (c = r ∨ nea p q c r) := by
    rcases near with (h | h) | h | h
    · exact ⟨_, f3, .inl h.symm⟩
    · exact ⟨_, f4, .inl h.symm⟩
    · exact ⟨_, f3, .inr h⟩
    · exact ⟨_, f4, .inr h⟩
  have hcr : r ∈ cs := by
    obtain ⟨c, c1, c2 | c2⟩ := hc
    · rw [← c2]; exact c1
    · exact absurd (.inl c2) (hmin c (hcs c c1))
  refine ⟨?_, h1, fun g hg h => hmin g hg (.inl h), fun g _ h => ⟨r, hcr, h⟩⟩
  by_cases e : bestL p q cs ⟨lo, lo⟩ = r
  · exact e
  · rcases bet_total (p := p) (q := q) e with h | h
    · exact absurd h (hmin _ hb)
    · exact absurd h (b3 r hcr)
end Go.Proofs.Ytgicjogbpmpjeaa.Vg

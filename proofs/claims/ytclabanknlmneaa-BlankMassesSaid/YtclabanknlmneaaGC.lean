/- BlankMasses, plain. -/
import Derived.Test.YtclabanknlmneaaGA
import Derived.Test.YtclabanknlmneaaG3
set_option linter.unusedVariables false
set_option linter.unusedSimpArgs false
namespace Go.Proofs.Ytclabanknlmneaa.Vg
open Go Go.Proofs.Ytclabanknlmneaa.Ev Go.Proofs.Ytclabanknlmneaa.Vv
theorem tsum_le {α : Type} {f h : α → Int} : ∀ {l : List α}, (∀ x ∈ l, f x ≤ h x) → tsum f l ≤ tsum h l
  | [], _ => by simp [tsum]
  | x :: l, hl => by
    have h1 := hl x (by simp)
    have h2 := tsum_le (l := l) (fun y hy => hl y (by simp [hy]))
    simp only [tsum]; omega
theorem tsum_mul {α : Type} (c : Int) (f : α → Int) : ∀ (l : List α), tsum (fun x => c * f x) l = c * tsum f l
  | [] => by simp [tsum]
  | x :: l => by simp only [tsum, tsum_mul c f l, Int.mul_add]
theorem rnd_props {n d : Int} (hd : 0 < d) : n / d ≤ cdiv n d ∧ cdiv n d ≤ n / d + 1 ∧ (n / d) * d ≤ n ∧ n ≤ cdiv n d * d := by
  have h1 : (n / d) * d ≤ n := Int.ediv_mul_le n (by omega)
  have h2 : n ≤ cdiv n d * d := (cdiv_le hd).1 (Int.le_refl _)
  refine ⟨Int.le_of_mul_le_mul_right (Int.le_trans h1 h2) hd, ?_, h1, h2⟩
  rw [cdiv_le hd]
  have := Int.lt_ediv_add_one_mul_self n hd
  omega
theorem twice_props {n d : Int} (hd : 0 < d) : 2 * (n / d) ≤ (2 * n) / d ∧ cdiv (2 * n) d ≤ 2 * cdiv n d := by
  obtain ⟨_, _, h1, h2⟩ := rnd_props (n := n) hd
  constructor
  · exact Int.le_ediv_of_mul_le hd (by rw [Int.mul_assoc]; omega)
  · rw [cdiv_le hd, Int.mul_assoc]; omega
def foldM : List SGlassPart → Bool → Int → Int → Bool × Int × Int
  | [], b, lo, hi => (b, lo, hi)
  | p :: l, b, lo, hi => foldM l (b && !p.Cut) (minI lo p.From) (maxI hi p.To)
theorem fold_l (k : Nat) (g : SGlass) (r s : SRange × Int) (hl : g.Parts.length < 1000000000) : ∀ (d fuel i : Nat) (b : Bool) (lo hi : Int), g.Parts.length = i + d → d < fuel →
    nspeculumlaw03_BlankMasses_l0_0 k g r s fuel (i : Int) b lo hi = some (foldM (g.Parts.drop i) b lo hi) := by
  intro d
  induction d with
  | zero =>
    intro fuel i b lo hi h hf
    obtain ⟨f, rfl⟩ : ∃ f, fuel = f + 1 := ⟨fuel - 1, by omega⟩
    rw [nspeculumlaw03_BlankMasses_l0_0.eq_2, if_neg (by omega), List.drop_of_length_le (by omega)]; rfl
  | succ d ih =>
    intro fuel i b lo hi h hf
    obtain ⟨f, rfl⟩ : ∃ f, fuel = f + 1 := ⟨fuel - 1, by omega⟩
    rw [nspeculumlaw03_BlankMasses_l0_0.eq_2, if_pos (by omega), drop_get (show i < g.Parts.length by omega) default, foldM]
    cases b with
    | true => rw [if_pos rfl, if_pos (by omega), w64_succ (by omega), Int.toNat_natCast, Bool.true_and]; exact ih f (i + 1) _ _ _ (by omega) (by omega)
    | false => rw [if_neg (by decide), if_pos (by omega), w64_succ (by omega), Int.toNat_natCast, Bool.false_and]; exact ih f (i + 1) _ _ _ (by omega) (by omega)
theorem fold_ok {t : Int} : ∀ (l : List SGlassPart) (b : Bool) (lo hi : Int), (∀ p ∈ l, PartOK p t) → 0 ≤ lo ∧ lo ≤ t → 0 ≤ hi ∧ hi ≤ t →
    ((foldM l b lo hi).1 = true → b = true ∧ ∀ p ∈ l, p.Cut = false) ∧ (0 ≤ (foldM l b lo hi).2.1 ∧ (foldM l b lo hi).2.1 ≤ lo ∧ ∀ p ∈ l, (foldM l b lo hi).2.1 ≤ p.From) ∧ (hi ≤ (foldM l b lo hi).2.2 ∧ (foldM l b lo hi).2.2 ≤ t ∧ ∀ p ∈ l, p.To ≤ (foldM l b lo hi).2.2)
  | [], b, lo, hi, _, h1, h2 => ⟨fun h => ⟨h, fun p hp => by cases hp⟩, ⟨h1.1, Int.le_refl _, fun p hp => by cases hp⟩, ⟨Int.le_refl _, h2.2, fun p hp => by cases hp⟩⟩
  | p :: l, b, lo, hi, h, h1, h2 => by
    have hp := h p (by simp)
    have hf := hp.f
    have ht := hp.t
    have m1 : 0 ≤ minI lo p.From ∧ minI lo p.From ≤ lo ∧ minI lo p.From ≤ p.From := by unfold minI; split <;> omega
    have m2 : 0 ≤ maxI hi p.To ∧ maxI hi p.To ≤ t ∧ hi ≤ maxI hi p.To ∧ p.To ≤ maxI hi p.To := by unfold maxI; split <;> omega
    obtain ⟨g1, ⟨g2, g3, g4⟩, g5, g6, g7⟩ := fold_ok l (b && !p.Cut) (minI lo p.From) (maxI hi p.To) (fun q hq => h q (by simp [hq])) ⟨by omega, by omega⟩ ⟨by omega, by omega⟩
    rw [foldM]
    refine ⟨fun e => ?_, ⟨g2, by omega, fun q hq => ?_⟩, by omega, g6, fun q hq => ?_⟩
    · obtain ⟨e1, e2⟩ := g1 e
      simp only [Bool.and_eq_true, Bool.not_eq_true'] at e1
      refine ⟨e1.1, fun q hq => ?_⟩
      rcases List.mem_cons.1 hq with rfl | hq
      · exact e1.2
      · exact e2 q hq
    · rcases List.mem_cons.1 hq with rfl | hq
      · omega
      · exact g4 q hq
    · rcases List.mem_cons.1 hq with rfl | hq
      · omega
      · exact g7 q hq
theorem centre_in {g : SGlass} (h : Gl g) (hc : g.Caps = []) {lo hi : Int} (hcut : ∀ p ∈ g.Parts, p.Cut = false) (hlo : ∀ p ∈ g.Parts, lo ≤ p.From) (hhi : ∀ p ∈ g.Parts, p.To ≤ hi) : 1000 * lo ≤ (cenV g).Lo ∧ (cenV g).Hi ≤ 1000 * hi := by
  have hv := h.v
  have hS : ∀ p ∈ g.Parts, 0 ≤ partS p := fun p hp => by
    have := ((h.o.pa p hp).bd h.o.th.2).b5
    unfold partS; rw [hcut p hp]; exact this.1
  have e1 : volV g = tsum partS g.Parts := by unfold volV; rw [hc]; simp [tsum]
  have e2 : momV g = tsum partM g.Parts := by unfold momV; rw [hc]; simp [tsum]
  have l1 : (2 * lo) * tsum partS g.Parts ≤ tsum partM g.Parts := by
    rw [← tsum_mul]
    refine tsum_le (fun p hp => ?_)
    have hft := (h.o.pa p hp).ft
    have := hlo p hp
    have := Int.mul_le_mul_of_nonneg_left (show 2 * lo ≤ p.From + p.To by omega) (hS p hp)
    unfold partM; rw [Int.mul_comm (2 * lo)]; exact this
  have l2 : tsum partM g.Parts ≤ (2 * hi) * tsum partS g.Parts := by
    rw [← tsum_mul]
    refine tsum_le (fun p hp => ?_)
    have hft := (h.o.pa p hp).ft
    have := hhi p hp
    have := Int.mul_le_mul_of_nonneg_left (show p.From + p.To ≤ 2 * hi by omega) (hS p hp)
    unfold partM; rw [Int.mul_comm (2 * hi)]; exact this
  rw [← e1, ← e2] at l1 l2
  constructor
  · show 1000 * lo ≤ (1000 * momV g) / (2 * volV g)
    refine Int.le_ediv_of_mul_le (by omega) ?_
    have : 1000 * lo * (2 * volV g) = 1000 * (2 * lo * volV g) := by grind
    omega
  · show cdiv (1000 * momV g) (2 * volV g) ≤ 1000 * hi
    rw [cdiv_le (by omega)]
    have : 1000 * hi * (2 * volV g) = 1000 * (2 * hi * volV g) := by grind
    omega
theorem masses (k : Nat) (hk : 1000 < k) (g : SGlass) : nspeculumlaw03_BlankMasses k g = some true := by
  unfold nspeculumlaw03_BlankMasses
  rw [show nawake k = some true from rfl, Option.bind_some, if_pos rfl, few_any, Option.bind_some]
  cases hF : fewB g with
  | false => rfl
  | true =>
  have hl := Lk.of hF hk
  have hl1 := hl.l1
  rw [if_pos rfl]
  by_cases h8 : 8 < (g.Parts.length : Int)
  · rw [if_pos h8]
  rw [if_neg h8, copied_any k g hl.l1 hl.l2, Option.bind_some, centre_b hl, Option.bind_some, mass_b hl, Option.bind_some]
  by_cases c : glE g = 0
  · have hg := Gl.of c
    have ho := hg.o
    have hv := hg.v
    simp only [c, if_true]
    rw [show nspeculumlaw03_BlankMasses_l0_0 k g (cenV g, 0) (massV g, 0) k 0 _ g.Thick 0 = _ from fold_l k g _ _ (by omega) g.Parts.length k 0 _ _ _ (by omega) (by omega), Option.bind_some, List.drop_zero]
    obtain ⟨f1, ⟨f2, f3, f4⟩, f5, f6, f7⟩ := fold_ok g.Parts (decide ((g.Caps.length : Int) = 0)) g.Thick 0 ho.pa ⟨by have := ho.th; omega, by omega⟩ ⟨by omega, by have := ho.th; omega⟩
    generalize foldM g.Parts (decide ((g.Caps.length : Int) = 0)) g.Thick 0 = R at *
    have ht := ho.th
    have hde := ho.de
    have hdv := ho.dv
    have hdp : 0 < g.Density * volV g := Int.mul_pos (by omega) hv
    have m1 := rnd_props (n := g.Density * volV g) (d := 1000000000) (by omega)
    have m2 := rnd_props (n := 1000 * momV g) (d := 2 * volV g) (by omega)
    have hb1 := div_bound (n := 1000 * momV g) (d := 2 * volV g) (by have := ho.mom; omega) (by omega)
    have m3 := twice_props (n := g.Density * volV g) (d := 1000000000) (by omega)
    have q1 : 0 ≤ (massV g).Lo := Int.ediv_nonneg (by omega) (by omega)
    have q2 : (massV g).Lo ≤ (massV g).Hi := m1.1
    have q3 : (massV g).Hi ≤ (massV g).Lo + 1 := m1.2.1
    have q4 : (massV g).Hi ≤ 1000000000 := by show cdiv _ _ ≤ _; rw [cdiv_le (by omega)]; omega
    have q5 : (cenV g).Lo ≤ (cenV g).Hi := m2.1
    have q6 : (cenV g).Hi ≤ (cenV g).Lo + 1 := m2.2.1
    have q7 : -9000000000000000000 ≤ (cenV g).Lo ∧ (cenV g).Lo ≤ 9000000000000000000 := hb1
    have hl2 : Lk (⟨w64 (2 * g.Density), g.Thick, g.Parts, g.Caps⟩ : SGlass) k := ⟨hl.l1, hl.l2, hk⟩
    rw [w64_id (n := (massV g).Lo + 1) (by omega) (by omega), w64_id (n := (cenV g).Lo + 1) (by omega) (by omega), mass_b hl2, w64_id (n := 2 * g.Density) (by omega) (by omega)] at *
    have tail : ((some (if glE (⟨2 * g.Density, g.Thick, g.Parts, g.Caps⟩ : SGlass) = 0 then (massV ⟨2 * g.Density, g.Thick, g.Parts, g.Caps⟩, 0) else ((⟨0, 0⟩ : SRange), glE ⟨2 * g.Density, g.Thick, g.Parts, g.Caps⟩))).bind fun r1503 => (if r1503.2 = 2 then (if 10000 < 2 * g.Density then (some true) else (if r1503.2 = 0 then (if (w64 (2 * (massV g).Lo)) ≤ r1503.1.Lo then (some (decide (r1503.1.Hi ≤ (w64 (2 * (massV g).Hi))))) else (some false)) else (some false))) else (if r1503.2 = 0 then (if (w64 (2 * (massV g).Lo)) ≤ r1503.1.Lo then (some (decide (r1503.1.Hi ≤ (w64 (2 * (massV g).Hi))))) else (some false)) else (some false)) : Option Bool)) = some true := by
      by_cases h2 : 10000 < 2 * g.Density
      · have : glE (⟨2 * g.Density, g.Thick, g.Parts, g.Caps⟩ : SGlass) = 2 := by
          have : glE0 (⟨2 * g.Density, g.Thick, g.Parts, g.Caps⟩ : SGlass) = 2 := by
            unfold glE0
            rw [show inR 1 10000 (2 * g.Density) = false from inR_f.2 (by omega)]; rfl
          unfold glE; rw [this]; rfl
        rw [this, Option.bind_some]
        simp only [h2, if_true]
        rfl
      · have : glE (⟨2 * g.Density, g.Thick, g.Parts, g.Caps⟩ : SGlass) = 0 := by
          have e0 : glE0 (⟨2 * g.Density, g.Thick, g.Parts, g.Caps⟩ : SGlass) = glE0 g := by
            unfold glE0
            rw [show inR 1 10000 (2 * g.Density) = true from inR_t.2 (by omega), show inR 1 10000 g.Density = true from inR_t.2 (by omega)]
          unfold glE at c ⊢
          rw [e0]
          exact c
        rw [this, if_pos rfl, Option.bind_some, if_neg (show ¬ (0 : Int) = 2 by decide), if_pos rfl, w64_id (by omega) (by omega), w64_id (by omega) (by omega)]
        have e3 : massV (⟨2 * g.Density, g.Thick, g.Parts, g.Caps⟩ : SGlass) = rnd (2 * (g.Density * volV g)) 1000000000 := by
          show rnd (2 * g.Density * volV g) 1000000000 = _
          rw [Int.mul_assoc]
        rw [e3]
        dsimp only
        rw [if_pos (show 2 * (massV g).Lo ≤ (rnd (2 * (g.Density * volV g)) 1000000000).Lo from m3.1)]
        congr 1
        exact decide_eq_true m3.2
    cases hp : R.1 with
    | true =>
      obtain ⟨p1, p2⟩ := f1 hp
      have hcaps : g.Caps = [] := by
        have := of_decide_eq_true p1
        exact List.length_eq_zero_iff.1 (by omega)
      obtain ⟨w1, w2⟩ := centre_in hg hcaps p2 f4 f7
      rw [if_pos rfl, w64_id (n := 1000 * R.2.1) (by omega) (by omega), w64_id (n := 1000 * R.2.2) (by omega) (by omega), if_neg (by omega), if_neg (by omega), if_neg (by omega), if_neg (by omega), if_neg (by omega), if_neg (by omega), if_neg (by omega), if_neg (by omega)]
      exact tail
    | false =>
      rw [if_neg (by decide), if_neg (by omega), if_neg (by omega), if_neg (by omega), if_neg (by omega), if_neg (by omega), if_neg (by omega)]
      exact tail
  · simp only [if_neg c]
    simp
theorem vc_masses (g : SGlass) : VC Try.prog 5 [VV.ag (c_SGlass g)] (vb true) :=
  nspeculumlaw03_BlankMasses_ok 10000 g true (masses 10000 (by decide) g)
end Go.Proofs.Ytclabanknlmneaa.Vg

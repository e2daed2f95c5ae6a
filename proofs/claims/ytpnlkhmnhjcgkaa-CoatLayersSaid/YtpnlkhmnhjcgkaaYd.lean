/- Law of layers. -/
import Derived.Test.YtpnlkhmnhjcgkaaO5
import Derived.Test.YtpnlkhmnhjcgkaaYa
set_option linter.unusedVariables false
set_option linter.unusedSimpArgs false
namespace Go.Proofs.Ytpnlkhmnhjcgkaa.Vg
open Go Go.Proofs.Ytpnlkhmnhjcgkaa.Ev Go.Proofs.Ytpnlkhmnhjcgkaa.Vv
abbrev gl (r : List SCoatLayer) (i : Nat) : SCoatLayer := r.getD i default
/-- the error of layers. -/
def rcL (l : List SMaterial) (r : List SCoatLayer) : Nat → Nat → Sum Int Unit
  | 0, _ => .inr ()
  | d + 1, i => if fmI l (gl r i).Material < 0 then .inl 6 else match inR 1 100000 (gl r i).Counts with
    | true => rcL l r d (i + 1)
    | false => .inl 2
theorem rcL_succ (l : List SMaterial) (r : List SCoatLayer) (d i : Nat) : rcL l r (d + 1) i = if fmI l (gl r i).Material < 0 then .inl 6 else match inR 1 100000 (gl r i).Counts with
    | true => rcL l r d (i + 1)
    | false => .inl 2 := rfl
theorem rec_coat (k : Nat) (hk : 100 < k) (hk2 : k ≤ 100000000) (l : List SMaterial) (hl : l.length < 100) (r : List SCoatLayer) (hr : r.length < 100) : ∀ (d fuel i : Nat), r.length = i + d → d < fuel →
    ncoat_CheckRecipe_l0_0 k l r fuel (i : Int) = some (rcL l r d i) := by
  intro d
  induction d with
  | zero =>
    intro fuel i h hf
    obtain ⟨g, rfl⟩ : ∃ g, fuel = g + 1 := ⟨fuel - 1, by omega⟩
    rw [ncoat_CheckRecipe_l0_0.eq_2, if_neg (by omega)]; rfl
  | succ d ih =>
    intro fuel i h hf
    obtain ⟨g, rfl⟩ : ∃ g, fuel = g + 1 := ⟨fuel - 1, by omega⟩
    rw [ncoat_CheckRecipe_l0_0.eq_2, if_pos (by omega), if_pos (by omega), find_coat k l (by omega) hk2, Option.bind_some, areWithin_1 k _ _ _ (by omega) (by omega), Option.bind_some, w64_succ (by omega), ih g (i + 1) (by omega) (by omega), rcL_succ]
    simp only [Int.toNat_natCast]
    by_cases c : fmI l (gl r i).Material < 0
    · rw [if_pos c, if_pos c]
    · rw [if_neg c, if_neg c]
      by_cases c2 : inR 1 100000 (gl r i).Counts = true
      · rw [if_pos c2, c2]
      · rw [if_neg c2, eq_false_of_ne_true c2]
theorem rec_ref (k : Nat) (hk : 100 < k) (hk2 : k ≤ 100000000) (l : List SMaterial) (hl : l.length < 100) (r : List SCoatLayer) (hr : r.length < 100) : ∀ (d fuel i : Nat), r.length = i + d → d < fuel →
    nspeculumref08_CheckRecipe_l0_0 k l r fuel (i : Int) = some (rcL l r d i) := by
  intro d
  induction d with
  | zero =>
    intro fuel i h hf
    obtain ⟨g, rfl⟩ : ∃ g, fuel = g + 1 := ⟨fuel - 1, by omega⟩
    rw [nspeculumref08_CheckRecipe_l0_0.eq_2, if_neg (by omega)]; rfl
  | succ d ih =>
    intro fuel i h hf
    obtain ⟨g, rfl⟩ : ∃ g, fuel = g + 1 := ⟨fuel - 1, by omega⟩
    rw [nspeculumref08_CheckRecipe_l0_0.eq_2, if_pos (by omega), if_pos (by omega), find_ref k l (by omega) hk2, Option.bind_some, within_base, Option.bind_some, w64_succ (by omega), ih g (i + 1) (by omega) (by omega), rcL_succ]
    simp only [Int.toNat_natCast]
    by_cases c : fmI l (gl r i).Material < 0
    · rw [if_pos c, if_pos c]
    · rw [if_neg c, if_neg c]
      by_cases c2 : inR 1 100000 (gl r i).Counts = true
      · rw [if_pos c2, c2]
      · rw [if_neg c2, eq_false_of_ne_true c2]
def reE (l : List SMaterial) (r : List SCoatLayer) : Int := if 40 < (r.length : Int) then 8 else match rcL l r r.length 0 with
  | .inl e => e
  | .inr _ => 0
def reA (l : List SMaterial) (r : List SCoatLayer) : Int := if maE l = 0 then reE l r else maE l
theorem recipe_coat (k : Nat) (hk : 100 < k) (hk2 : k ≤ 100000000) (l : List SMaterial) (hl : l.length < 100) (r : List SCoatLayer) : ncoat_CheckRecipe k l r = some (reA l r) := by
  unfold ncoat_CheckRecipe reA reE
  rw [materials_coat k hk hk2, Option.bind_some]
  by_cases c0 : maE l = 0
  · rw [if_pos c0, if_pos c0]
    by_cases c : 40 < (r.length : Int)
    · rw [if_pos c, if_pos c]
    · rw [if_neg c, if_neg c, show ncoat_CheckRecipe_l0_0 k l r k 0 = _ from rec_coat k hk hk2 l hl r (by omega) r.length k 0 (by omega) (by omega), Option.bind_some]
      cases rcL l r r.length 0 <;> rfl
  · rw [if_neg c0, if_neg c0]
theorem recipe_ref (k : Nat) (hk : 100 < k) (hk2 : k ≤ 100000000) (l : List SMaterial) (hl : l.length < 100) (r : List SCoatLayer) : nspeculumref08_CheckRecipe k l r = some (reE l r) := by
  unfold nspeculumref08_CheckRecipe reE
  by_cases c : 40 < (r.length : Int)
  · rw [if_pos c, if_pos c]
  · rw [if_neg c, if_neg c, show nspeculumref08_CheckRecipe_l0_0 k l r k 0 = _ from rec_ref k hk hk2 l hl r (by omega) r.length k 0 (by omega) (by omega), Option.bind_some]
    cases rcL l r r.length 0 <;> rfl
theorem rcL_ok (l : List SMaterial) (r : List SCoatLayer) : ∀ (d i : Nat), (∀ e, rcL l r d i = .inl e → e ≠ 0) ∧ (rcL l r d i = .inr () → ∀ j, i ≤ j → j < i + d → 0 ≤ fmI l (gl r j).Material ∧ 1 ≤ (gl r j).Counts ∧ (gl r j).Counts ≤ 100000)
  | 0, i => ⟨fun e h => (by cases h), fun _ j h1 h2 => by omega⟩
  | d + 1, i => by
    rw [rcL_succ]
    by_cases c : fmI l (gl r i).Material < 0
    · rw [if_pos c]; exact ⟨fun e h => by injection h with h; subst h; decide, fun h => (by cases h)⟩
    · rw [if_neg c]
      cases hp : inR 1 100000 (gl r i).Counts with
      | false => exact ⟨fun e h => by injection h with h; subst h; decide, fun h => (by cases h)⟩
      | true =>
        refine ⟨(rcL_ok l r d (i + 1)).1, fun h j h1 h2 => ?_⟩
        by_cases e : j = i
        · subst e; exact ⟨by omega, inR_t.1 hp⟩
        · exact (rcL_ok l r d (i + 1)).2 h j (by omega) (by omega)
theorem reE_zero {l : List SMaterial} {r : List SCoatLayer} (h : reE l r = 0) : r.length ≤ 40 ∧ ∀ j, j < r.length → 0 ≤ fmI l (gl r j).Material ∧ 1 ≤ (gl r j).Counts ∧ (gl r j).Counts ≤ 100000 := by
  unfold reE at h
  by_cases c : 40 < (r.length : Int)
  · rw [if_pos c] at h; exact absurd h (by decide)
  · rw [if_neg c] at h
    cases hc : rcL l r r.length 0 with
    | inl e => rw [hc] at h; exact absurd h ((rcL_ok l r r.length 0).1 e hc)
    | inr u => exact ⟨by omega, fun j hj => (rcL_ok l r r.length 0).2 hc j (by omega) (by omega)⟩
/-- the thickness of a layer; of layers. -/
def th (l : List SMaterial) (x : SCoatLayer) : SRange := ⟨x.Counts * (gm l (fmI l x.Material).toNat).PerCount.Lo, (x.Counts + 1) * (gm l (fmI l x.Material).toNat).PerCount.Hi⟩
def toL (l : List SMaterial) : List SCoatLayer → Int → Int → SRange
  | [], a, b => ⟨a, b⟩
  | x :: xs, a, b => toL l xs (a + (th l x).Lo) (b + (th l x).Hi)
theorem th_in {l : List SMaterial} (h0 : maE l = 0) {x : SCoatLayer} (h1 : 0 ≤ fmI l x.Material) (h2 : 1 ≤ x.Counts ∧ x.Counts ≤ 100000) : (0 ≤ (th l x).Lo ∧ (th l x).Lo ≤ 200000000000) ∧ 0 ≤ (th l x).Hi ∧ (th l x).Hi ≤ 200000000000 := by
  obtain ⟨g1, g2⟩ := maE_zero h0
  have hi := fmI_in l x.Material
  have hp := g2 (fmI l x.Material).toNat (by omega)
  have m1 := mb (a := x.Counts) (A := 100000) (b := (gm l (fmI l x.Material).toNat).PerCount.Lo) (B := 1000000) (by omega) (by omega) (by omega) (by omega)
  have m2 := mb (a := x.Counts + 1) (A := 100001) (b := (gm l (fmI l x.Material).toNat).PerCount.Hi) (B := 1000000) (by omega) (by omega) (by omega) (by omega)
  unfold th
  dsimp only
  omega
theorem total_coat (k : Nat) (hk : 100 < k) (hk2 : k ≤ 100000000) {l : List SMaterial} (h0 : maE l = 0) {r : List SCoatLayer} (hr : r.length ≤ 40) (hok : ∀ j, j < r.length → 0 ≤ fmI l (gl r j).Material ∧ 1 ≤ (gl r j).Counts ∧ (gl r j).Counts ≤ 100000) : ∀ (d fuel i : Nat) (a b : Int), r.length = i + d → d < fuel → 0 ≤ a ∧ a ≤ 200000000000 * i → 0 ≤ b ∧ b ≤ 200000000000 * i →
    ncoat_Total_l0_0 k l r fuel a b (i : Int) = some ((toL l (r.drop i) a b).Lo, (toL l (r.drop i) a b).Hi) := by
  obtain ⟨g1, g2⟩ := maE_zero h0
  intro d
  induction d with
  | zero =>
    intro fuel i a b h hf _ _
    obtain ⟨g, rfl⟩ : ∃ g, fuel = g + 1 := ⟨fuel - 1, by omega⟩
    rw [ncoat_Total_l0_0.eq_2, if_neg (by omega), List.drop_eq_nil_of_le (by omega)]; rfl
  | succ d ih =>
    intro fuel i a b h hf ha hb
    obtain ⟨g, rfl⟩ : ∃ g, fuel = g + 1 := ⟨fuel - 1, by omega⟩
    have ho := hok i (by omega)
    have hi := fmI_in l (gl r i).Material
    have ht := th_in h0 ho.1 ho.2
    rw [ncoat_Total_l0_0.eq_2, if_pos (by omega), if_pos (by omega), find_coat k l (by omega) hk2, Option.bind_some, w64_succ (by omega), drop_get (y := r) (i := i) (by omega) default]
    simp only [Int.toNat_natCast]
    rw [if_pos (show 0 ≤ fmI l (gl r i).Material ∧ fmI l (gl r i).Material < (l.length : Int) by omega)]
    have e1 : w64 (a + w64 ((gl r i).Counts * (gm l (fmI l (gl r i).Material).toNat).PerCount.Lo)) = a + (th l (gl r i)).Lo := by
      rw [show (gl r i).Counts * (gm l (fmI l (gl r i).Material).toNat).PerCount.Lo = (th l (gl r i)).Lo from rfl, w64_id (n := (th l (gl r i)).Lo) (by omega) (by omega), w64_id (by omega) (by omega)]
    have e2 : w64 (b + w64 (w64 ((gl r i).Counts + 1) * (gm l (fmI l (gl r i).Material).toNat).PerCount.Hi)) = b + (th l (gl r i)).Hi := by
      rw [w64_id (n := (gl r i).Counts + 1) (by omega) (by omega), show ((gl r i).Counts + 1) * (gm l (fmI l (gl r i).Material).toNat).PerCount.Hi = (th l (gl r i)).Hi from rfl, w64_id (n := (th l (gl r i)).Hi) (by omega) (by omega), w64_id (by omega) (by omega)]
    rw [show w64 (a + w64 ((r.getD i default).Counts * (l.getD (fmI l (r.getD i default).Material).toNat default).PerCount.Lo)) = _ from e1, show w64 (b + w64 (w64 ((r.getD i default).Counts + 1) * (l.getD (fmI l (r.getD i default).Material).toNat default).PerCount.Hi)) = _ from e2]
    exact ih g (i + 1) _ _ (by omega) (by omega) (by omega) (by omega)
theorem thick_ref (k : Nat) (hk : 100 < k) (hk2 : k ≤ 100000000) {l : List SMaterial} (h0 : maE l = 0) {x : SCoatLayer} (h1 : 0 ≤ fmI l x.Material) (h2 : 1 ≤ x.Counts ∧ x.Counts ≤ 100000) : nspeculumref08_Thickness k l x = some (th l x) := by
  obtain ⟨g1, g2⟩ := maE_zero h0
  have hi := fmI_in l x.Material
  have ht := th_in h0 h1 h2
  unfold nspeculumref08_Thickness
  rw [find_ref k l (by omega) hk2, Option.bind_some, if_pos (by omega), w64_id (n := x.Counts + 1) (by omega) (by omega)]
  show some (⟨w64 (th l x).Lo, w64 (th l x).Hi⟩ : SRange) = _
  rw [w64_id (by omega) (by omega), w64_id (by omega) (by omega)]
theorem total_ref (k : Nat) (hk : 100 < k) (hk2 : k ≤ 100000000) {l : List SMaterial} (h0 : maE l = 0) {r : List SCoatLayer} (hr : r.length ≤ 40) (hok : ∀ j, j < r.length → 0 ≤ fmI l (gl r j).Material ∧ 1 ≤ (gl r j).Counts ∧ (gl r j).Counts ≤ 100000) : ∀ (d fuel i : Nat) (a b : Int), r.length = i + d → d < fuel → 0 ≤ a ∧ a ≤ 200000000000 * i → 0 ≤ b ∧ b ≤ 200000000000 * i →
    nspeculumref08_Total_l0_0 k l r fuel a b (i : Int) = some ((toL l (r.drop i) a b).Lo, (toL l (r.drop i) a b).Hi) := by
  intro d
  induction d with
  | zero =>
    intro fuel i a b h hf _ _
    obtain ⟨g, rfl⟩ : ∃ g, fuel = g + 1 := ⟨fuel - 1, by omega⟩
    rw [nspeculumref08_Total_l0_0.eq_2, if_neg (by omega), List.drop_eq_nil_of_le (by omega)]; rfl
  | succ d ih =>
    intro fuel i a b h hf ha hb
    obtain ⟨g, rfl⟩ : ∃ g, fuel = g + 1 := ⟨fuel - 1, by omega⟩
    have ho := hok i (by omega)
    have ht := th_in h0 ho.1 ho.2
    rw [nspeculumref08_Total_l0_0.eq_2, if_pos (by omega), if_pos (by omega), w64_succ (by omega), drop_get (y := r) (i := i) (by omega) default]
    simp only [Int.toNat_natCast]
    rw [show nspeculumref08_Thickness k l _ = _ from thick_ref k hk hk2 h0 (x := gl r i) ho.1 ho.2, Option.bind_some, w64_id (n := a + _) (by omega) (by omega), w64_id (n := b + _) (by omega) (by omega)]
    exact ih g (i + 1) _ _ (by omega) (by omega) (by omega) (by omega)
def toA (l : List SMaterial) (r : List SCoatLayer) : SRange × Int := if reA l r = 0 then (toL l r 0 0, 0) else (⟨0, 0⟩, reA l r)
theorem reA_zero {l : List SMaterial} {r : List SCoatLayer} (h : reA l r = 0) : maE l = 0 ∧ reE l r = 0 := by
  unfold reA at h
  by_cases c : maE l = 0
  · rw [if_pos c] at h; exact ⟨c, h⟩
  · rw [if_neg c] at h; exact absurd h c
theorem Total_coat (k : Nat) (hk : 100 < k) (hk2 : k ≤ 100000000) (l : List SMaterial) (hl : l.length < 100) (r : List SCoatLayer) : ncoat_Total k l r = some (toA l r) := by
  unfold ncoat_Total toA
  rw [recipe_coat k hk hk2 l hl, Option.bind_some]
  by_cases c : reA l r = 0
  · obtain ⟨h0, h1⟩ := reA_zero c
    obtain ⟨g1, g2⟩ := reE_zero h1
    rw [if_pos c, if_pos c, show ncoat_Total_l0_0 k l r k 0 0 0 = _ from total_coat k hk hk2 h0 g1 g2 r.length k 0 0 0 (by omega) (by omega) (by omega) (by omega)]
    rfl
  · rw [if_neg c, if_neg c]
theorem Total_ref (k : Nat) (hk : 100 < k) (hk2 : k ≤ 100000000) {l : List SMaterial} {r : List SCoatLayer} (c : reA l r = 0) : nspeculumref08_Total k l r = some (toL l r 0 0) := by
  obtain ⟨h0, h1⟩ := reA_zero c
  obtain ⟨g1, g2⟩ := reE_zero h1
  unfold nspeculumref08_Total
  rw [show nspeculumref08_Total_l0_0 k l r k 0 0 0 = _ from total_ref k hk hk2 h0 g1 g2 r.length k 0 0 0 (by omega) (by omega) (by omega) (by omega)]
  rfl
theorem Thick_coat (k : Nat) (hk : 100 < k) (hk2 : k ≤ 100000000) (l : List SMaterial) (hl : l.length < 100) (x : SCoatLayer) : ncoat_Thickness k l x = some (toA l [x]) := by
  unfold ncoat_Thickness
  rw [show ncoat_Total k l _ = _ from Total_coat k hk hk2 l hl [x], Option.bind_some]
theorem sl1 {r : List SCoatLayer} {i : Nat} (h : i < r.length) : sl r i (i + 1) = [gl r i] := by
  unfold sl
  rw [show i + 1 - i = 1 by omega, drop_get h default]; rfl
theorem layers_any (k : Nat) {r : List SCoatLayer} (h : r.length ≤ 1000000000) : nspeculumlaw08_layers k r = some r := by
  unfold nspeculumlaw08_layers
  rw [if_pos (by simpa using h), List.nil_append]
theorem each_l0 (k : Nat) (hk : 100 < k) (hk2 : k ≤ 100000000) (l : List SMaterial) (hl : l.length < 100) (r : List SCoatLayer) (hr : r.length < 100) : ∀ (d fuel i : Nat), r.length = i + d → d < fuel →
    nspeculumlaw08_CoatLayers_l0_0 k l r (maE l) fuel (i : Int) = some (.inr ()) := by
  intro d
  induction d with
  | zero =>
    intro fuel i h hf
    obtain ⟨g, rfl⟩ : ∃ g, fuel = g + 1 := ⟨fuel - 1, by omega⟩
    rw [nspeculumlaw08_CoatLayers_l0_0.eq_2, if_neg (by omega)]
  | succ d ih =>
    intro fuel i h hf
    obtain ⟨g, rfl⟩ : ∃ g, fuel = g + 1 := ⟨fuel - 1, by omega⟩
    rw [nspeculumlaw08_CoatLayers_l0_0.eq_2, if_pos (by omega)]
    by_cases c3 : (i : Int) < 3
    case neg => rw [if_neg c3]
    rw [if_pos c3, own_any k (by omega), Option.bind_some, if_pos (by omega)]
    simp only [Int.toNat_natCast]
    rw [show ncoat_Thickness k l _ = _ from Thick_coat k hk hk2 l hl (gl r i), Option.bind_some, w64_succ (by omega), ih g (i + 1) (by omega) (by omega)]
    simp only [Int.toNat_natCast]
    rw [sl1 (show i < r.length by omega), recipe_ref k hk hk2 l hl, Option.bind_some]
    unfold toA reA
    by_cases c0 : maE l = 0
    · simp only [if_pos c0]
      rw [if_pos (show (0 : Int) ≤ (i : Int) ∧ (i : Int) ≤ ((i + 1 : Nat) : Int) ∧ ((i + 1 : Nat) : Int) ≤ (r.length : Int) by omega)]
      by_cases c1 : reE l [gl r i] = 0
      · have ho := (reE_zero c1).2 0 (by simp)
        have hz : (if reE l [gl r i] = 0 then (toL l [gl r i] 0 0, (0 : Int)) else ((⟨0, 0⟩ : SRange), reE l [gl r i])) = (toL l [gl r i] 0 0, 0) := if_pos c1
        have e : toL l [gl r i] 0 0 = th l (gl r i) := by
          show (⟨0 + (th l (gl r i)).Lo, 0 + (th l (gl r i)).Hi⟩ : SRange) = _
          rw [Int.zero_add, Int.zero_add]
        simp only [hz]
        rw [if_pos c1.symm, if_pos c1, show nspeculumref08_Thickness k l _ = _ from thick_ref k hk hk2 c0 (x := gl r i) ho.1 ho.2, Option.bind_some, e, if_pos (by simp)]
      · have hz : (if reE l [gl r i] = 0 then (toL l [gl r i] 0 0, (0 : Int)) else ((⟨0, 0⟩ : SRange), reE l [gl r i])) = (⟨0, 0⟩, reE l [gl r i]) := if_neg c1
        simp only [hz]
        rw [if_pos trivial, if_neg c1]; rfl
    · simp only [if_neg c0]
      rfl
theorem each_l1 (k : Nat) (hk : 100 < k) (hk2 : k ≤ 100000000) (l : List SMaterial) (hl : l.length < 100) (r : List SCoatLayer) (hr : r.length < 100) : ∀ (d fuel i : Nat), r.length = i + d → d < fuel →
    nspeculumlaw08_CoatLayers_l0_1 k l r (maE l) fuel (i : Int) = some (.inr ()) := by
  intro d
  induction d with
  | zero =>
    intro fuel i h hf
    obtain ⟨g, rfl⟩ : ∃ g, fuel = g + 1 := ⟨fuel - 1, by omega⟩
    rw [nspeculumlaw08_CoatLayers_l0_1.eq_2, if_neg (by omega)]
  | succ d ih =>
    intro fuel i h hf
    obtain ⟨g, rfl⟩ : ∃ g, fuel = g + 1 := ⟨fuel - 1, by omega⟩
    rw [nspeculumlaw08_CoatLayers_l0_1.eq_2, if_pos (by omega)]
    by_cases c3 : (i : Int) < 3
    case neg => rw [if_neg c3]
    rw [if_pos c3, own_any k (by omega), Option.bind_some, if_pos (by omega)]
    simp only [Int.toNat_natCast]
    rw [show ncoat_Thickness k l _ = _ from Thick_coat k hk hk2 l hl (gl r i), Option.bind_some, w64_succ (by omega), ih g (i + 1) (by omega) (by omega)]
    simp only [Int.toNat_natCast]
    rw [sl1 (show i < r.length by omega), recipe_ref k hk hk2 l hl, Option.bind_some]
    unfold toA reA
    by_cases c0 : maE l = 0
    · simp only [if_pos c0]
      rw [if_pos (show (0 : Int) ≤ (i : Int) ∧ (i : Int) ≤ ((i + 1 : Nat) : Int) ∧ ((i + 1 : Nat) : Int) ≤ (r.length : Int) by omega)]
      by_cases c1 : reE l [gl r i] = 0
      · have ho := (reE_zero c1).2 0 (by simp)
        have hz : (if reE l [gl r i] = 0 then (toL l [gl r i] 0 0, (0 : Int)) else ((⟨0, 0⟩ : SRange), reE l [gl r i])) = (toL l [gl r i] 0 0, 0) := if_pos c1
        have e : toL l [gl r i] 0 0 = th l (gl r i) := by
          show (⟨0 + (th l (gl r i)).Lo, 0 + (th l (gl r i)).Hi⟩ : SRange) = _
          rw [Int.zero_add, Int.zero_add]
        simp only [hz]
        rw [if_pos c1.symm, if_pos c1, show nspeculumref08_Thickness k l _ = _ from thick_ref k hk hk2 c0 (x := gl r i) ho.1 ho.2, Option.bind_some, e, if_pos (by simp)]
      · have hz : (if reE l [gl r i] = 0 then (toL l [gl r i] 0 0, (0 : Int)) else ((⟨0, 0⟩ : SRange), reE l [gl r i])) = (⟨0, 0⟩, reE l [gl r i]) := if_neg c1
        simp only [hz]
        rw [if_pos trivial, if_neg c1]; rfl
    · simp only [if_neg c0]
      rfl
theorem each_l2 (k : Nat) (hk : 100 < k) (hk2 : k ≤ 100000000) (l : List SMaterial) (hl : l.length < 100) (r : List SCoatLayer) (hr : r.length < 100) : ∀ (d fuel i : Nat), r.length = i + d → d < fuel →
    nspeculumlaw08_CoatLayers_l0_2 k l r (maE l) fuel (i : Int) = some (.inr ()) := by
  intro d
  induction d with
  | zero =>
    intro fuel i h hf
    obtain ⟨g, rfl⟩ : ∃ g, fuel = g + 1 := ⟨fuel - 1, by omega⟩
    rw [nspeculumlaw08_CoatLayers_l0_2.eq_2, if_neg (by omega)]
  | succ d ih =>
    intro fuel i h hf
    obtain ⟨g, rfl⟩ : ∃ g, fuel = g + 1 := ⟨fuel - 1, by omega⟩
    rw [nspeculumlaw08_CoatLayers_l0_2.eq_2, if_pos (by omega)]
    by_cases c3 : (i : Int) < 3
    case neg => rw [if_neg c3]
    rw [if_pos c3, own_any k (by omega), Option.bind_some, if_pos (by omega)]
    simp only [Int.toNat_natCast]
    rw [show ncoat_Thickness k l _ = _ from Thick_coat k hk hk2 l hl (gl r i), Option.bind_some, w64_succ (by omega), ih g (i + 1) (by omega) (by omega)]
    simp only [Int.toNat_natCast]
    rw [sl1 (show i < r.length by omega), recipe_ref k hk hk2 l hl, Option.bind_some]
    unfold toA reA
    by_cases c0 : maE l = 0
    · simp only [if_pos c0]
      rw [if_pos (show (0 : Int) ≤ (i : Int) ∧ (i : Int) ≤ ((i + 1 : Nat) : Int) ∧ ((i + 1 : Nat) : Int) ≤ (r.length : Int) by omega)]
      by_cases c1 : reE l [gl r i] = 0
      · have ho := (reE_zero c1).2 0 (by simp)
        have hz : (if reE l [gl r i] = 0 then (toL l [gl r i] 0 0, (0 : Int)) else ((⟨0, 0⟩ : SRange), reE l [gl r i])) = (toL l [gl r i] 0 0, 0) := if_pos c1
        have e : toL l [gl r i] 0 0 = th l (gl r i) := by
          show (⟨0 + (th l (gl r i)).Lo, 0 + (th l (gl r i)).Hi⟩ : SRange) = _
          rw [Int.zero_add, Int.zero_add]
        simp only [hz]
        rw [if_pos c1.symm, if_pos c1, show nspeculumref08_Thickness k l _ = _ from thick_ref k hk hk2 c0 (x := gl r i) ho.1 ho.2, Option.bind_some, e, if_pos (by simp)]
      · have hz : (if reE l [gl r i] = 0 then (toL l [gl r i] 0 0, (0 : Int)) else ((⟨0, 0⟩ : SRange), reE l [gl r i])) = (⟨0, 0⟩, reE l [gl r i]) := if_neg c1
        simp only [hz]
        rw [if_pos trivial, if_neg c1]; rfl
    · simp only [if_neg c0]
      rfl
theorem brief_l0 (k : Nat) (l : List SCoatLayer) (hl : l.length < 100000000) : ∀ (d fuel i : Nat), l.length = i + d → d < fuel → ∃ b, nspeculumlaw08_brief_l0_0 k l fuel (i : Int) = some (sumB b) := by
  intro d
  induction d with
  | zero =>
    intro fuel i h hf
    obtain ⟨g, rfl⟩ : ∃ g, fuel = g + 1 := ⟨fuel - 1, by omega⟩
    rw [nspeculumlaw08_brief_l0_0.eq_2, if_neg (by omega)]; exact ⟨true, rfl⟩
  | succ d ih =>
    intro fuel i h hf
    obtain ⟨g, rfl⟩ : ∃ g, fuel = g + 1 := ⟨fuel - 1, by omega⟩
    rw [nspeculumlaw08_brief_l0_0.eq_2, if_pos (by omega), if_pos (by omega), w64_succ (by omega)]
    split
    · exact ⟨false, rfl⟩
    · exact ih g (i + 1) (by omega) (by omega)
theorem brief_l1 (k : Nat) (l : List SCoatLayer) (hl : l.length < 100000000) : ∀ (d fuel i : Nat), l.length = i + d → d < fuel → ∃ b, nspeculumlaw08_brief_l0_1 k l fuel (i : Int) = some (sumB b) := by
  intro d
  induction d with
  | zero =>
    intro fuel i h hf
    obtain ⟨g, rfl⟩ : ∃ g, fuel = g + 1 := ⟨fuel - 1, by omega⟩
    rw [nspeculumlaw08_brief_l0_1.eq_2, if_neg (by omega)]; exact ⟨true, rfl⟩
  | succ d ih =>
    intro fuel i h hf
    obtain ⟨g, rfl⟩ : ∃ g, fuel = g + 1 := ⟨fuel - 1, by omega⟩
    rw [nspeculumlaw08_brief_l0_1.eq_2, if_pos (by omega), if_pos (by omega), w64_succ (by omega)]
    split
    · exact ⟨false, rfl⟩
    · exact ih g (i + 1) (by omega) (by omega)
theorem brief_any (k : Nat) (hk : 100 < k) (l : List SCoatLayer) : ∃ b, nspeculumlaw08_brief k l = some b ∧ (b = true → l.length ≤ 43) := by
  unfold nspeculumlaw08_brief
  by_cases h1 : 43 < (l.length : Int)
  · rw [if_pos (by omega), if_neg (by omega), if_pos h1]; exact ⟨false, rfl, fun h => by cases h⟩
  · rw [if_neg h1, if_neg h1]
    obtain ⟨b0, h0⟩ := brief_l0 k l (by omega) l.length k 0 (by omega) (by omega)
    obtain ⟨b1, h2⟩ := brief_l1 k l (by omega) l.length k 0 (by omega) (by omega)
    rw [show nspeculumlaw08_brief_l0_0 k l k 0 = _ from h0, show nspeculumlaw08_brief_l0_1 k l k 0 = _ from h2]
    split
    · split
      · exact ⟨false, rfl, fun h => by cases h⟩
      · cases b0
        · exact ⟨false, rfl, fun h => by cases h⟩
        · exact ⟨true, rfl, fun _ => by omega⟩
    · cases b1
      · exact ⟨false, rfl, fun h => by cases h⟩
      · exact ⟨true, rfl, fun _ => by omega⟩
theorem law_layers (k : Nat) (hk : 100 < k) (hk2 : k ≤ 100000000) (l : List SMaterial) (r : List SCoatLayer) : nspeculumlaw08_CoatLayers k l r = some true := by
  unfold nspeculumlaw08_CoatLayers
  obtain ⟨b, hb, hlen⟩ := short_any k hk l
  obtain ⟨b2, hb2, hlen2⟩ := brief_any k hk r
  rw [show nawake k = some true from rfl, Option.bind_some, if_pos rfl, hb, Option.bind_some, hb2, Option.bind_some]
  cases b with
  | false => rfl
  | true =>
    cases b2 with
    | false => rfl
    | true =>
      have hlen := hlen rfl
      have hlen2 := hlen2 rfl
      rw [if_pos rfl, if_pos rfl, own_any k (by omega), Option.bind_some, layers_any k (by omega), Option.bind_some, Total_coat k hk hk2 l (by omega), Option.bind_some, materials_ref k hk hk2, Option.bind_some, materials_coat k hk hk2, Option.bind_some, if_pos rfl]
      rw [show nspeculumlaw08_CoatLayers_l0_0 k l r (maE l) k 0 = _ from each_l0 k hk hk2 l (by omega) r (by omega) r.length k 0 (by omega) (by omega), show nspeculumlaw08_CoatLayers_l0_1 k l r (maE l) k 0 = _ from each_l1 k hk hk2 l (by omega) r (by omega) r.length k 0 (by omega) (by omega), show nspeculumlaw08_CoatLayers_l0_2 k l r (maE l) k 0 = _ from each_l2 k hk hk2 l (by omega) r (by omega) r.length k 0 (by omega) (by omega)]
      rw [recipe_coat k hk hk2 l (by omega), recipe_ref k hk hk2 l (by omega), Option.bind_some, Option.bind_some]
      unfold toA
      by_cases c0 : maE l = 0
      · have e : reA l r = reE l r := by unfold reA; rw [if_pos c0]
        rw [if_pos c0, e, if_pos rfl]
        by_cases c1 : reE l r = 0
        · rw [if_pos c1, Total_ref k hk hk2 (by rw [e]; exact c1), Option.bind_some]
          simp [c1]
        · rw [if_neg c1]
          simp [c1]
      · have e : reA l r = maE l := by unfold reA; rw [if_neg c0]
        rw [if_neg c0, e, Option.bind_some, if_pos rfl, if_neg c0]
        simp
theorem vc_layers (l : List SMaterial) (r : List SCoatLayer) : VC Go.Proofs.Try.prog 3 [VV.tr (l.flatMap c_SMaterial) l.length, VV.tr (r.flatMap c_SCoatLayer) r.length] (vb true) :=
  nspeculumlaw08_CoatLayers_ok 10000 l r true (law_layers 10000 (by decide) (by decide) l r)
end Go.Proofs.Ytpnlkhmnhjcgkaa.Vg

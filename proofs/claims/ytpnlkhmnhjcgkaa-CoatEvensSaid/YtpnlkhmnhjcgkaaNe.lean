/- Law of masks that even zones out. -/
import Derived.Test.YtpnlkhmnhjcgkaaN2
import Derived.Test.YtpnlkhmnhjcgkaaVi
set_option linter.unusedVariables false
set_option linter.unusedSimpArgs false
namespace Go.Proofs.Ytpnlkhmnhjcgkaa.Vg
open Go Go.Proofs.Ytpnlkhmnhjcgkaa.Ev Go.Proofs.Ytpnlkhmnhjcgkaa.Vv
theorem w64_id {n : Int} (h1 : -9223372036854775808 ≤ n) (h2 : n ≤ 9223372036854775807) : w64 n = n := by
  unfold w64 IntKind.wrap
  simp [IntKind.signed, IntKind.bits]
  omega
theorem w64_succ {i : Nat} (h : i < 1000000000000) : w64 ((i : Int) + 1) = ((i + 1 : Nat) : Int) := by
  rw [w64_id (by omega) (by omega)]; omega
theorem drop_get {α : Type} {y : List α} {i : Nat} (h : i < y.length) (d : α) : y.drop i = y.getD i d :: y.drop (i + 1) := by
  rw [List.drop_eq_getElem_cons h, List.getD_eq_getElem?_getD, List.getElem?_eq_getElem h]; rfl
def sumB (b : Bool) : Sum Unit Unit := match b with | true => .inr () | false => .inl ()
def inR (a b n : Int) : Bool := decide (a ≤ n ∧ n ≤ b)
theorem inR_t {a b n : Int} : inR a b n = true ↔ a ≤ n ∧ n ≤ b := by unfold inR; exact decide_eq_true_iff
theorem inR_f {a b n : Int} : inR a b n = false ↔ ¬(a ≤ n ∧ n ≤ b) := by unfold inR; exact decide_eq_false_iff_not
theorem within_base (k : Nat) (a b c : Int) : nspeculumbase_Within k a b c = some (inR b c a) := by
  unfold nspeculumbase_Within inR
  by_cases h : b ≤ a
  · rw [if_pos h]; simp [h]
  · rw [if_neg h]; simp [h]
theorem areWithin_l (k : Nat) (a b : Int) (xs : List Int) (hl : xs.length < 1000000000000) : ∀ (d fuel i : Nat), xs.length = i + d → d < fuel →
    ncoat_areWithin_l0_0 k a b xs fuel (i : Int) = some (sumB ((xs.drop i).all (inR a b))) := by
  intro d
  induction d with
  | zero =>
    intro fuel i h hf
    obtain ⟨g, rfl⟩ : ∃ g, fuel = g + 1 := ⟨fuel - 1, by omega⟩
    rw [ncoat_areWithin_l0_0.eq_2, if_neg (by omega), List.drop_eq_nil_of_le (by omega)]; rfl
  | succ d ih =>
    intro fuel i h hf
    obtain ⟨g, rfl⟩ : ∃ g, fuel = g + 1 := ⟨fuel - 1, by omega⟩
    rw [ncoat_areWithin_l0_0.eq_2, if_pos (by omega), if_pos (by omega), w64_succ (by omega), ih g (i + 1) (by omega) (by omega), drop_get (y := xs) (i := i) (by omega) 0]
    simp only [Int.toNat_natCast, List.all_cons]
    by_cases h1 : xs.getD i 0 < a
    · rw [if_pos h1, show inR a b (xs.getD i 0) = false from inR_f.2 (by omega)]; rfl
    · rw [if_neg h1]
      by_cases h2 : b < xs.getD i 0
      · rw [if_pos h2, show inR a b (xs.getD i 0) = false from inR_f.2 (by omega)]; rfl
      · rw [if_neg h2, show inR a b (xs.getD i 0) = true from inR_t.2 (by omega)]; rfl
theorem areWithin_any (k : Nat) (a b : Int) (xs : List Int) (hl : xs.length < k) (hk : k ≤ 1000000000) : ncoat_areWithin k a b xs = some (xs.all (inR a b)) := by
  unfold ncoat_areWithin
  rw [show ncoat_areWithin_l0_0 k a b xs k 0 = _ from areWithin_l k a b xs (by omega) xs.length k 0 (by omega) hl]
  simp only [List.drop_zero]
  cases xs.all (inR a b) <;> rfl
theorem areWithin_1 (k : Nat) (a b x : Int) (hk : 1 < k) (hk2 : k ≤ 1000000000) : ncoat_areWithin k a b [x] = some (inR a b x) := by
  rw [areWithin_any k a b [x] (by simpa using hk) hk2]; simp
theorem tdiv_pos {n d : Int} (hn : 0 ≤ n) : n.tdiv d = n / d := Int.tdiv_eq_ediv_of_nonneg hn
theorem div_le {n d : Int} (hn : 0 ≤ n) (hd : 0 < d) : 0 ≤ n / d ∧ n / d ≤ n := by
  refine ⟨Int.ediv_nonneg hn (by omega), ?_⟩
  exact Int.ediv_le_self d hn
theorem mb {a b A B : Int} (h1 : 0 ≤ a) (h2 : a ≤ A) (h3 : 0 ≤ b) (h4 : b ≤ B) : 0 ≤ a * b ∧ a * b ≤ A * B := ⟨Int.mul_nonneg h1 h3, Int.mul_le_mul h2 h4 h3 (by omega)⟩
abbrev okN (n : Int) : Bool := inR 1 1000000 n
/-- the zone with the greatest want for its rate. -/
def bs (r w : List Int) : Nat → Nat → Nat → Nat
  | 0, _, b => b
  | d + 1, i, b => if w.getD b 0 * r.getD i 0 < w.getD i 0 * r.getD b 0 then bs r w d (i + 1) i else bs r w d (i + 1) b
structure Zones (r w : List Int) : Prop where
  n0 : 0 < r.length
  n1 : r.length ≤ 40
  same : w.length = r.length
  rates : ∀ i, i < r.length → 1 ≤ r.getD i 0 ∧ r.getD i 0 ≤ 1000000
  wants : ∀ i, i < r.length → 1 ≤ w.getD i 0 ∧ w.getD i 0 ≤ 1000000
theorem Zones.mul {r w : List Int} (Z : Zones r w) {i j : Nat} (hi : i < r.length) (hj : j < r.length) : 1 ≤ w.getD i 0 * r.getD j 0 ∧ w.getD i 0 * r.getD j 0 ≤ 1000000000000 := by
  have h1 := Z.wants i hi; have h2 := Z.rates j hj
  have := mb (a := w.getD i 0) (b := r.getD j 0) (by omega) h1.2 (by omega) h2.2
  refine ⟨?_, by omega⟩
  have := Int.mul_le_mul h1.1 h2.1 (by omega) (by omega)
  omega
theorem best_coat (k : Nat) {r w : List Int} (Z : Zones r w) : ∀ (d fuel i b : Nat), r.length = i + d → d < fuel → b < r.length →
    ncoat_MaskFor_l0_0 k r w fuel (i : Int) (b : Int) = some ((bs r w d i b : Nat) : Int) := by
  have n1 := Z.n1; have same := Z.same
  intro d
  induction d with
  | zero =>
    intro fuel i b h hf hb
    obtain ⟨g, rfl⟩ : ∃ g, fuel = g + 1 := ⟨fuel - 1, by omega⟩
    rw [ncoat_MaskFor_l0_0.eq_2, if_neg (by omega)]; rfl
  | succ d ih =>
    intro fuel i b h hf hb
    obtain ⟨g, rfl⟩ : ∃ g, fuel = g + 1 := ⟨fuel - 1, by omega⟩
    have m1 := Z.mul hb (show i < r.length by omega)
    have m2 := Z.mul (show i < r.length by omega) hb
    rw [ncoat_MaskFor_l0_0.eq_2, if_pos (by omega), if_pos (by omega), if_pos (by omega), if_pos (by omega), if_pos (by omega), w64_succ (by omega), ih g (i + 1) i (by omega) (by omega) (by omega), ih g (i + 1) b (by omega) (by omega) hb]
    simp only [Int.toNat_natCast, w64_id (n := w.getD b 0 * r.getD i 0) (by omega) (by omega), w64_id (n := w.getD i 0 * r.getD b 0) (by omega) (by omega)]
    rw [show bs r w (d + 1) i b = if w.getD b 0 * r.getD i 0 < w.getD i 0 * r.getD b 0 then bs r w d (i + 1) i else bs r w d (i + 1) b from rfl]
    by_cases hc : w.getD b 0 * r.getD i 0 < w.getD i 0 * r.getD b 0
    · rw [if_pos hc, if_pos hc]
    · rw [if_neg hc, if_neg hc]
theorem best_ref (k : Nat) {r w : List Int} (Z : Zones r w) : ∀ (d fuel i b : Nat), r.length = i + d → d < fuel → b < r.length →
    nspeculumref08_MaskFor_l0_0 k r w fuel (b : Int) (i : Int) = some (.inr ((bs r w d i b : Nat) : Int)) := by
  have n1 := Z.n1; have same := Z.same
  intro d
  induction d with
  | zero =>
    intro fuel i b h hf hb
    obtain ⟨g, rfl⟩ : ∃ g, fuel = g + 1 := ⟨fuel - 1, by omega⟩
    rw [nspeculumref08_MaskFor_l0_0.eq_2, if_neg (by omega)]; rfl
  | succ d ih =>
    intro fuel i b h hf hb
    obtain ⟨g, rfl⟩ : ∃ g, fuel = g + 1 := ⟨fuel - 1, by omega⟩
    have m1 := Z.mul hb (show i < r.length by omega)
    have m2 := Z.mul (show i < r.length by omega) hb
    have r1 := Z.rates i (by omega)
    have w1 := Z.wants i (by omega)
    rw [nspeculumref08_MaskFor_l0_0.eq_2, if_pos (by omega), if_pos (by omega), within_base, Option.bind_some, within_base, w64_succ (by omega), ih g (i + 1) i (by omega) (by omega) (by omega), ih g (i + 1) b (by omega) (by omega) hb]
    simp only [Int.toNat_natCast, Option.bind_some, w64_id (n := w.getD b 0 * r.getD i 0) (by omega) (by omega), w64_id (n := w.getD i 0 * r.getD b 0) (by omega) (by omega)]
    rw [if_pos (inR_t.2 r1), if_pos (by omega), if_pos (inR_t.2 w1), if_pos (by omega), if_pos (by omega)]
    rw [show bs r w (d + 1) i b = if w.getD b 0 * r.getD i 0 < w.getD i 0 * r.getD b 0 then bs r w d (i + 1) i else bs r w d (i + 1) b from rfl]
    by_cases hc : w.getD b 0 * r.getD i 0 < w.getD i 0 * r.getD b 0
    · rw [if_pos hc, if_pos hc]
    · rw [if_neg hc, if_neg hc]
theorem bad_ref (k : Nat) {r w : List Int} (n1 : r.length ≤ 40) (same : w.length = r.length) : ∀ (d fuel i b : Nat), r.length = i + d → d < fuel → b < r.length →
    (∃ j, i ≤ j ∧ j < r.length ∧ (okN (r.getD j 0) = false ∨ okN (w.getD j 0) = false)) →
    nspeculumref08_MaskFor_l0_0 k r w fuel (b : Int) (i : Int) = some (.inl ()) := by
  intro d
  induction d with
  | zero => intro fuel i b h hf hb ⟨j, h1, h2, _⟩; omega
  | succ d ih =>
    intro fuel i b h hf hb ⟨j, h1, h2, h3⟩
    obtain ⟨g, rfl⟩ : ∃ g, fuel = g + 1 := ⟨fuel - 1, by omega⟩
    rw [nspeculumref08_MaskFor_l0_0.eq_2, if_pos (by omega), if_pos (by omega), within_base, Option.bind_some, within_base]
    simp only [Int.toNat_natCast, Option.bind_some]
    by_cases c1 : inR 1 1000000 (r.getD i 0) = true
    · rw [if_pos c1, if_pos (by omega)]
      by_cases c2 : inR 1 1000000 (w.getD i 0) = true
      · have hex : ∃ j, i + 1 ≤ j ∧ j < r.length ∧ (okN (r.getD j 0) = false ∨ okN (w.getD j 0) = false) := by
          refine ⟨j, ?_, h2, h3⟩
          by_cases e : j = i
          · subst e
            rcases h3 with h3 | h3
            · rw [show inR 1 1000000 (r.getD j 0) = false from h3] at c1; cases c1
            · rw [show inR 1 1000000 (w.getD j 0) = false from h3] at c2; cases c2
          · omega
        rw [if_pos c2, if_pos (by omega), if_pos (by omega), w64_succ (by omega), ih g (i + 1) i (by omega) (by omega) (by omega) hex, ih g (i + 1) b (by omega) (by omega) hb hex]
        split <;> rfl
      · rw [if_neg c2]
    · rw [if_neg c1]
/-- the opening of a zone. -/
def opn (r w : List Int) (b i : Nat) : Int := 1000 * w.getD i 0 * r.getD b 0 / (r.getD i 0 * w.getD b 0)
def opns (r w : List Int) (b : Nat) : List Int := (List.range r.length).map (opn r w b)
theorem opn_eq {r w : List Int} (Z : Zones r w) {b i : Nat} (hb : b < r.length) (hi : i < r.length) : w64 (r.getD i 0 * w.getD b 0) ≠ 0 ∧ w64 ((w64 (w64 (1000 * w.getD i 0) * r.getD b 0)).tdiv (w64 (r.getD i 0 * w.getD b 0))) = opn r w b i := by
  have m1 := Z.mul hb hi
  have m2 := Z.mul hi hb
  have w1 := Z.wants i hi
  rw [Int.mul_comm] at m1
  rw [w64_id (n := r.getD i 0 * w.getD b 0) (by omega) (by omega), w64_id (n := 1000 * w.getD i 0) (by omega) (by omega)]
  have e : 1000 * w.getD i 0 * r.getD b 0 = 1000 * (w.getD i 0 * r.getD b 0) := Int.mul_assoc _ _ _
  rw [w64_id (n := 1000 * w.getD i 0 * r.getD b 0) (by omega) (by omega), tdiv_pos (by omega)]
  have := div_le (n := 1000 * w.getD i 0 * r.getD b 0) (d := r.getD i 0 * w.getD b 0) (by omega) (by omega)
  refine ⟨by omega, ?_⟩
  rw [w64_id (by omega) (by omega)]; rfl
theorem fill_coat (k : Nat) {r w : List Int} (Z : Zones r w) {b : Nat} (hb : b < r.length) : ∀ (d fuel i : Nat), r.length = i + d → d < fuel →
    ncoat_MaskFor_l1_0 k r w (b : Int) fuel ((List.range i).map (opn r w b) ++ List.replicate d 0) (i : Int) = some (opns r w b) := by
  have n1 := Z.n1; have same := Z.same
  intro d
  induction d with
  | zero =>
    intro fuel i h hf
    obtain ⟨g, rfl⟩ : ∃ g, fuel = g + 1 := ⟨fuel - 1, by omega⟩
    rw [ncoat_MaskFor_l1_0.eq_2, if_neg (by omega)]
    unfold opns
    rw [show r.length = i by omega]; simp
  | succ d ih =>
    intro fuel i h hf
    obtain ⟨g, rfl⟩ : ∃ g, fuel = g + 1 := ⟨fuel - 1, by omega⟩
    have ho := opn_eq Z hb (show i < r.length by omega)
    have hlen : ((List.range i).map (opn r w b)).length = i := by simp
    rw [ncoat_MaskFor_l1_0.eq_2, if_pos (by omega), if_pos (by omega), if_pos (by omega), if_pos (by omega), if_pos (by omega)]
    simp only [Int.toNat_natCast]
    rw [if_pos ho.1, if_pos (by simp; omega), ho.2, w64_succ (by omega), List.set_append_right _ _ (by omega), hlen, Nat.sub_self, List.replicate_succ, List.set_cons_zero]
    have := ih g (i + 1) (by omega) (by omega)
    rw [List.range_succ, List.map_append, List.append_assoc] at this
    exact this
theorem fill_ref (k : Nat) {r w : List Int} (Z : Zones r w) {b : Nat} (hb : b < r.length) : ∀ (d fuel i : Nat), r.length = i + d → d < fuel →
    nspeculumref08_MaskFor_l1_0 k r w (b : Int) fuel ((List.range i).map (opn r w b)) (i : Int) = some (opns r w b) := by
  have n1 := Z.n1; have same := Z.same
  intro d
  induction d with
  | zero =>
    intro fuel i h hf
    obtain ⟨g, rfl⟩ : ∃ g, fuel = g + 1 := ⟨fuel - 1, by omega⟩
    rw [nspeculumref08_MaskFor_l1_0.eq_2, if_neg (by omega)]
    unfold opns
    rw [show r.length = i by omega]
  | succ d ih =>
    intro fuel i h hf
    obtain ⟨g, rfl⟩ : ∃ g, fuel = g + 1 := ⟨fuel - 1, by omega⟩
    have ho := opn_eq Z hb (show i < r.length by omega)
    rw [nspeculumref08_MaskFor_l1_0.eq_2, if_pos (by omega), if_pos (by omega), if_pos (by omega), if_pos (by omega), if_pos (by omega)]
    simp only [Int.toNat_natCast]
    rw [if_pos ho.1, if_pos (by simp; omega), ho.2, w64_succ (by omega)]
    have := ih g (i + 1) (by omega) (by omega)
    rw [List.range_succ, List.map_append] at this
    exact this
def zE (r w : List Int) : Int := match inR 1 40 (r.length : Int) with
  | true => match decide ((w.length : Int) = (r.length : Int)) with
    | true => match r.all okN && w.all okN with
      | true => 0
      | false => 2
    | false => 10
  | false => 10
theorem mem_getD {l : List Int} {x : Int} (h : x ∈ l) : ∃ j, j < l.length ∧ l.getD j 0 = x := by
  obtain ⟨j, hj, e⟩ := List.getElem_of_mem h
  exact ⟨j, hj, by rw [List.getD_eq_getElem?_getD, List.getElem?_eq_getElem hj, e]; rfl⟩
theorem getD_mem {l : List Int} {j : Nat} (h : j < l.length) : l.getD j 0 ∈ l := by
  rw [List.getD_eq_getElem?_getD, List.getElem?_eq_getElem h]; exact List.getElem_mem h
theorem Zones.of {r w : List Int} (h : zE r w = 0) : Zones r w := by
  unfold zE at h
  cases h1 : inR 1 40 (r.length : Int) with
  | false => rw [h1] at h; dsimp only at h; exact absurd h (by decide)
  | true =>
    rw [h1] at h; dsimp only at h
    have h1 := inR_t.1 h1
    cases h2 : decide ((w.length : Int) = (r.length : Int)) with
    | false => rw [h2] at h; dsimp only at h; exact absurd h (by decide)
    | true =>
      rw [h2] at h; dsimp only at h
      have h2 := of_decide_eq_true h2
      cases h3 : (r.all okN && w.all okN) with
      | false => rw [h3] at h; dsimp only at h; exact absurd h (by decide)
      | true =>
        rw [Bool.and_eq_true] at h3
        exact ⟨by omega, by omega, by omega, fun i hi => inR_t.1 (List.all_eq_true.1 h3.1 _ (getD_mem hi)), fun i hi => inR_t.1 (List.all_eq_true.1 h3.2 _ (getD_mem (by omega)))⟩
abbrev bz (r w : List Int) : Nat := bs r w r.length 0 0
theorem bs_lt {r w : List Int} : ∀ (d i b : Nat), r.length = i + d → b < r.length → bs r w d i b < r.length
  | 0, i, b, _, hb => hb
  | d + 1, i, b, h, hb => by
    unfold bs
    split
    · exact bs_lt d (i + 1) i (by omega) (by omega)
    · exact bs_lt d (i + 1) b (by omega) hb
def zR (r w : List Int) : List Int × Int := match decide (zE r w = 0) with
  | true => (opns r w (bz r w), 0)
  | false => ([], zE r w)
theorem maskfor_coat (k : Nat) (hk : 1000 < k) (hk2 : k ≤ 1000000000) (r w : List Int) : ncoat_MaskFor k r w = some (zR r w) := by
  have hZ : zE r w = 0 → Zones r w := Zones.of
  unfold ncoat_MaskFor zR
  unfold zE at hZ ⊢
  rw [areWithin_1 k _ _ _ (by omega) hk2, Option.bind_some]
  cases h1 : inR 1 40 (r.length : Int) with
  | false => rfl
  | true =>
    rw [h1] at hZ
    have h1 := inR_t.1 h1
    rw [if_pos rfl]
    by_cases h2 : (w.length : Int) = (r.length : Int)
    · rw [if_pos h2]
      rw [decide_eq_true h2] at hZ ⊢
      dsimp only at hZ ⊢
      rw [areWithin_any k _ _ _ (by omega) hk2, areWithin_any k _ _ _ (by omega) hk2, Option.bind_some, Option.bind_some]
      change (if r.all okN = true then (if w.all okN = true then _ else _) else _) = _
      by_cases c1 : r.all okN = true
      · rw [if_pos c1]
        by_cases c2 : w.all okN = true
        · rw [if_pos c2]
          rw [c1, c2] at hZ ⊢
          have Z := hZ rfl
          have hb := bs_lt (r := r) (w := w) r.length 0 0 (by omega) Z.n0
          rw [show ncoat_MaskFor_l0_0 k r w k 0 0 = _ from best_coat k Z r.length k 0 0 (by omega) (by omega) Z.n0, Option.bind_some, if_pos (by omega), show ((r.length : Int)).toNat = r.length by omega]
          have := fill_coat k Z hb r.length k 0 (by omega) (by omega)
          rw [List.range_zero, List.map_nil, List.nil_append] at this
          rw [show ncoat_MaskFor_l1_0 k r w ((bs r w r.length 0 0 : Nat) : Int) k (List.replicate r.length 0) 0 = _ from this]
          rfl
        · rw [if_neg c2, c1, eq_false_of_ne_true c2]; rfl
      · rw [if_neg c1, eq_false_of_ne_true c1]; rfl
    · rw [if_neg h2, decide_eq_false h2]; rfl
theorem maskfor_ref (k : Nat) (hk : 1000 < k) (r w : List Int) : nspeculumref08_MaskFor k r w = some (zR r w) := by
  have hZ : zE r w = 0 → Zones r w := Zones.of
  unfold nspeculumref08_MaskFor zR
  unfold zE at hZ ⊢
  rw [within_base, Option.bind_some]
  cases h1 : inR 1 40 (r.length : Int) with
  | false => rfl
  | true =>
    rw [h1] at hZ
    have h1 := inR_t.1 h1
    rw [if_pos rfl]
    by_cases h2 : (w.length : Int) = (r.length : Int)
    · rw [if_pos h2]
      rw [decide_eq_true h2] at hZ ⊢
      dsimp only at hZ ⊢
      have bad : (r.all okN && w.all okN) = false → nspeculumref08_MaskFor_l0_0 k r w k 0 0 = some (.inl ()) := fun h => by
        refine bad_ref k (r := r) (w := w) (by omega) (by omega) r.length k 0 0 (by omega) (by omega) (by omega) ?_
        rcases (Bool.and_eq_false_iff).1 h with h | h
        · obtain ⟨x, hx, e⟩ := List.all_eq_false.1 h
          obtain ⟨j, hj, e2⟩ := mem_getD hx
          exact ⟨j, Nat.zero_le _, hj, .inl (by rw [e2]; exact eq_false_of_ne_true e)⟩
        · obtain ⟨x, hx, e⟩ := List.all_eq_false.1 h
          obtain ⟨j, hj, e2⟩ := mem_getD hx
          exact ⟨j, Nat.zero_le _, by omega, .inr (by rw [e2]; exact eq_false_of_ne_true e)⟩
      cases c : (r.all okN && w.all okN) with
      | false => rw [bad c]; rfl
      | true =>
        rw [c] at hZ
        have Z := hZ rfl
        have hb := bs_lt (r := r) (w := w) r.length 0 0 (by omega) Z.n0
        rw [show nspeculumref08_MaskFor_l0_0 k r w k 0 0 = _ from best_ref k Z r.length k 0 0 (by omega) (by omega) Z.n0, Option.bind_some]
        dsimp only
        rw [show nspeculumref08_MaskFor_l1_0 k r w ((bs r w r.length 0 0 : Nat) : Int) k [] 0 = _ from fill_ref k Z hb r.length k 0 (by omega) (by omega)]
        rfl
    · rw [if_neg h2, decide_eq_false h2]; rfl
theorem ints_l (k : Nat) (l : List Int) (hl : l.length < 1000000000) : ∀ (d fuel i : Nat), l.length = i + d → d < fuel →
    nspeculumbase_Ints_l0_0 k l l fuel (i : Int) = some (.inr ()) := by
  intro d
  induction d with
  | zero =>
    intro fuel i h hf
    obtain ⟨g, rfl⟩ : ∃ g, fuel = g + 1 := ⟨fuel - 1, by omega⟩
    rw [nspeculumbase_Ints_l0_0.eq_2, if_neg (by omega)]
  | succ d ih =>
    intro fuel i h hf
    obtain ⟨g, rfl⟩ : ∃ g, fuel = g + 1 := ⟨fuel - 1, by omega⟩
    rw [nspeculumbase_Ints_l0_0.eq_2, if_pos (by omega), if_pos (by omega), if_pos (by omega), if_pos rfl, w64_succ (by omega), ih g (i + 1) (by omega) (by omega)]
theorem ints_same (k : Nat) (l : List Int) (hl : l.length < 100) (hk : 100 < k) : nspeculumbase_Ints k l l = some true := by
  unfold nspeculumbase_Ints
  rw [if_pos rfl, show nspeculumbase_Ints_l0_0 k l l k 0 = _ from ints_l k l (by omega) l.length k 0 (by omega) (by omega)]; rfl
/-- the best is best. -/
theorem bs_best {r w : List Int} (Z : Zones r w) : ∀ (d i b : Nat), r.length = i + d → b < r.length → (∀ j, j < i → w.getD j 0 * r.getD b 0 ≤ w.getD b 0 * r.getD j 0) → ∀ j, j < r.length → w.getD j 0 * r.getD (bs r w d i b) 0 ≤ w.getD (bs r w d i b) 0 * r.getD j 0
  | 0, i, b, h, hb, hinv, j, hj => hinv j (by omega)
  | d + 1, i, b, h, hb, hinv, j, hj => by
    rw [show bs r w (d + 1) i b = if w.getD b 0 * r.getD i 0 < w.getD i 0 * r.getD b 0 then bs r w d (i + 1) i else bs r w d (i + 1) b from rfl]
    by_cases hc : w.getD b 0 * r.getD i 0 < w.getD i 0 * r.getD b 0
    · rw [if_pos hc]
      refine bs_best Z d (i + 1) i (by omega) (by omega) (fun j hj => ?_) j hj
      by_cases e : j = i
      · subst e; exact Int.le_refl _
      · have h1 := hinv j (by omega)
        have ri := (Z.rates i (by omega)).1
        have rj := (Z.rates j (by omega)).1
        have rb := (Z.rates b hb).1
        have a1 := Int.mul_le_mul_of_nonneg_right h1 (show 0 ≤ r.getD i 0 by omega)
        have a2 := Int.mul_le_mul_of_nonneg_right (Int.le_of_lt hc) (show 0 ≤ r.getD j 0 by omega)
        refine Int.le_of_mul_le_mul_right (a := r.getD b 0) ?_ (by omega)
        have e1 : w.getD j 0 * r.getD i 0 * r.getD b 0 = w.getD j 0 * r.getD b 0 * r.getD i 0 := by grind
        have e2 : w.getD i 0 * r.getD j 0 * r.getD b 0 = w.getD i 0 * r.getD b 0 * r.getD j 0 := by grind
        have e3 : w.getD b 0 * r.getD j 0 * r.getD i 0 = w.getD b 0 * r.getD i 0 * r.getD j 0 := by grind
        omega
    · rw [if_neg hc]
      refine bs_best Z d (i + 1) b (by omega) hb (fun j hj => ?_) j hj
      by_cases e : j = i
      · subst e; omega
      · exact hinv j (by omega)
theorem opn_le {r w : List Int} (Z : Zones r w) {i : Nat} (hi : i < r.length) : opn r w (bz r w) i ≤ 1000 := by
  have hb : bz r w < r.length := bs_lt (r := r) (w := w) r.length 0 0 (by omega) Z.n0
  have h : w.getD i 0 * r.getD (bz r w) 0 ≤ w.getD (bz r w) 0 * r.getD i 0 := bs_best Z r.length 0 0 (by omega) Z.n0 (fun j hj => by omega) i hi
  have m1 := Z.mul (i := bz r w) hb hi
  unfold opn
  have e : 1000 * w.getD i 0 * r.getD (bz r w) 0 = 1000 * (w.getD i 0 * r.getD (bz r w) 0) := Int.mul_assoc _ _ _
  have e2 : r.getD i 0 * w.getD (bz r w) 0 = w.getD (bz r w) 0 * r.getD i 0 := Int.mul_comm _ _
  rw [e, e2]
  have := Int.ediv_le_ediv (c := w.getD (bz r w) 0 * r.getD i 0) (by omega) (Int.mul_le_mul_of_nonneg_left h (show (0 : Int) ≤ 1000 by decide))
  rw [Int.mul_ediv_cancel _ (by omega)] at this
  exact this
theorem opn_best {r w : List Int} (Z : Zones r w) : opn r w (bz r w) (bz r w) = 1000 := by
  have hb : bz r w < r.length := bs_lt (r := r) (w := w) r.length 0 0 (by omega) Z.n0
  have m1 := Z.mul (i := bz r w) (j := bz r w) hb hb
  unfold opn
  rw [Int.mul_assoc, Int.mul_comm (r.getD (bz r w) 0) (w.getD (bz r w) 0), Int.mul_ediv_cancel _ (by omega)]
def mxL (acc : Int) (l : List Int) : Int := l.foldl maxI acc
theorem maxI_ge (a b : Int) : a ≤ maxI a b ∧ b ≤ maxI a b ∧ (maxI a b = a ∨ maxI a b = b) := by unfold maxI; split <;> omega
theorem mxL_ok : ∀ (l : List Int) (acc : Int), acc ≤ mxL acc l ∧ (∀ x ∈ l, x ≤ mxL acc l) ∧ (mxL acc l = acc ∨ mxL acc l ∈ l)
  | [], acc => ⟨Int.le_refl _, fun x h => (by cases h), .inl rfl⟩
  | y :: l, acc => by
    have ih := mxL_ok l (maxI acc y)
    have m := maxI_ge acc y
    show acc ≤ mxL (maxI acc y) l ∧ (∀ x ∈ y :: l, x ≤ mxL (maxI acc y) l) ∧ (mxL (maxI acc y) l = acc ∨ mxL (maxI acc y) l ∈ y :: l)
    refine ⟨by omega, fun x hx => ?_, ?_⟩
    · rcases List.mem_cons.1 hx with e | e
      · subst e; omega
      · exact ih.2.1 x e
    · rcases ih.2.2 with e | e
      · rcases m.2.2 with e2 | e2
        · exact .inl (by omega)
        · exact .inr (by rw [e, e2]; exact List.mem_cons_self)
      · exact .inr (List.mem_cons_of_mem _ e)
theorem most_open {r w : List Int} (Z : Zones r w) : mxL 0 (opns r w (bz r w)) = 1000 := by
  have hb := bs_lt (r := r) (w := w) r.length 0 0 (by omega) Z.n0
  have h := mxL_ok (opns r w (bz r w)) 0
  have hle : ∀ x ∈ opns r w (bz r w), x ≤ 1000 := fun x hx => by
    obtain ⟨i, hi, rfl⟩ := List.mem_map.1 hx
    exact opn_le Z (List.mem_range.1 hi)
  have hin : (1000 : Int) ∈ opns r w (bz r w) := List.mem_map.2 ⟨bz r w, List.mem_range.2 hb, opn_best Z⟩
  have h1 := h.2.1 _ hin
  rcases h.2.2 with e | e
  · omega
  · have := hle _ e; omega
def dbl (w : List Int) : List Int := w.map fun x => 2 * x
theorem dbl_get {w : List Int} (i : Nat) : (dbl w).getD i 0 = 2 * w.getD i 0 := by
  unfold dbl
  rw [List.getD_eq_getElem?_getD, List.getD_eq_getElem?_getD, List.getElem?_map]
  cases w[i]? <;> rfl
theorem dbl_bs {r w : List Int} : ∀ (d i b : Nat), bs r (dbl w) d i b = bs r w d i b
  | 0, i, b => rfl
  | d + 1, i, b => by
    unfold bs
    rw [dbl_get, dbl_get, dbl_bs d (i + 1) i, dbl_bs d (i + 1) b, Int.mul_assoc, Int.mul_assoc]
    by_cases hc : w.getD b 0 * r.getD i 0 < w.getD i 0 * r.getD b 0
    · rw [if_pos hc, if_pos (by omega)]
    · rw [if_neg hc, if_neg (by omega)]
theorem dbl_opns {r w : List Int} (b : Nat) : opns r (dbl w) b = opns r w b := by
  unfold opns
  refine List.map_congr_left fun i _ => ?_
  unfold opn
  rw [dbl_get, dbl_get]
  rw [show 1000 * (2 * w.getD i 0) * r.getD b 0 = 2 * (1000 * w.getD i 0 * r.getD b 0) by grind, show r.getD i 0 * (2 * w.getD b 0) = 2 * (r.getD i 0 * w.getD b 0) by grind]
  exact Int.mul_ediv_mul_of_pos _ _ (by decide)
theorem zE_of {r w : List Int} (Z : Zones r w) : zE r w = 0 := by
  have n0 := Z.n0; have n1 := Z.n1; have same := Z.same
  unfold zE
  rw [show inR 1 40 (r.length : Int) = true from inR_t.2 (by omega)]
  dsimp only
  rw [decide_eq_true (show (w.length : Int) = (r.length : Int) by omega)]
  dsimp only
  rw [show r.all okN = true from List.all_eq_true.2 fun x hx => by
    obtain ⟨j, hj, e⟩ := mem_getD hx
    subst e; exact inR_t.2 (Z.rates j hj), show w.all okN = true from List.all_eq_true.2 fun x hx => by
    obtain ⟨j, hj, e⟩ := mem_getD hx
    subst e; exact inR_t.2 (Z.wants j (by omega))]
  rfl
theorem zR_dbl {r w : List Int} (Z : Zones r w) (h : ∀ i, i < r.length → w.getD i 0 ≤ 500000) : zR r (dbl w) = zR r w := by
  have Z2 : Zones r (dbl w) := ⟨Z.n0, Z.n1, by unfold dbl; rw [List.length_map]; exact Z.same, Z.rates, fun i hi => by
    rw [dbl_get]; have := Z.wants i hi; have := h i hi; omega⟩
  unfold zR
  rw [decide_eq_true (zE_of Z), decide_eq_true (zE_of Z2)]
  dsimp only
  rw [show bz r (dbl w) = bz r w from dbl_bs _ _ _, dbl_opns]
theorem take_next {α : Type} {m : List α} {i : Nat} (h : i < m.length) (d : α) : m.take (i + 1) = m.take i ++ [m.getD i d] := by
  rw [List.take_add_one, List.getElem?_eq_getElem h, List.getD_eq_getElem?_getD, List.getElem?_eq_getElem h]; rfl
theorem twice_l0 (k : Nat) {r w m : List Int} (Z : Zones r w) (hm : m.length = r.length) (e : Int) : ∀ (d fuel i : Nat) (u : Int), r.length = i + d → d < fuel → (∀ j, j < i → w.getD j 0 ≤ 500000) →
    nspeculumlaw08_CoatEvens_l0_0 k r w (m, e) fuel (dbl (w.take i)) u (i : Int) = some (.inl ()) ∨
    nspeculumlaw08_CoatEvens_l0_0 k r w (m, e) fuel (dbl (w.take i)) u (i : Int) = some (.inr (mxL u (m.drop i), dbl w)) ∧ ∀ j, j < r.length → w.getD j 0 ≤ 500000 := by
  have n1 := Z.n1; have same := Z.same
  intro d
  induction d with
  | zero =>
    intro fuel i u h hf hinv
    obtain ⟨g, rfl⟩ : ∃ g, fuel = g + 1 := ⟨fuel - 1, by omega⟩
    rw [nspeculumlaw08_CoatEvens_l0_0.eq_2, if_neg (by dsimp only; omega), List.take_of_length_le (by omega), List.drop_eq_nil_of_le (by omega)]
    exact .inr ⟨rfl, fun j hj => hinv j (by omega)⟩
  | succ d ih =>
    intro fuel i u h hf hinv
    obtain ⟨g, rfl⟩ : ∃ g, fuel = g + 1 := ⟨fuel - 1, by omega⟩
    have w1 := Z.wants i (by omega)
    rw [nspeculumlaw08_CoatEvens_l0_0.eq_2, if_pos (by dsimp only; omega), if_pos (by omega)]
    simp only [Int.toNat_natCast]
    by_cases c : 500000 < w.getD i 0
    · rw [if_pos c]; exact .inl rfl
    · rw [if_neg c, if_pos (by unfold dbl; simp; omega), if_pos (by omega), w64_succ (by omega), w64_id (n := 2 * w.getD i 0) (by omega) (by omega), drop_get (y := m) (i := i) (by omega) 0]
      have := ih g (i + 1) (maxI u (m.getD i 0)) (by omega) (by omega) (fun j hj => by
        by_cases e : j = i
        · subst e; omega
        · exact hinv j (by omega))
      rw [show dbl (w.take (i + 1)) = dbl (w.take i) ++ [2 * w.getD i 0] by rw [take_next (by omega) 0]; unfold dbl; rw [List.map_append]; rfl] at this
      exact this
theorem twice_l1 (k : Nat) {r w m : List Int} (Z : Zones r w) (hm : m.length = r.length) (e : Int) : ∀ (d fuel i : Nat) (u : Int), r.length = i + d → d < fuel → (∀ j, j < i → w.getD j 0 ≤ 500000) →
    nspeculumlaw08_CoatEvens_l0_1 k r w (m, e) fuel (dbl (w.take i)) u (i : Int) = some (.inl ()) ∨
    nspeculumlaw08_CoatEvens_l0_1 k r w (m, e) fuel (dbl (w.take i)) u (i : Int) = some (.inr (mxL u (m.drop i), dbl w)) ∧ ∀ j, j < r.length → w.getD j 0 ≤ 500000 := by
  have n1 := Z.n1; have same := Z.same
  intro d
  induction d with
  | zero =>
    intro fuel i u h hf hinv
    obtain ⟨g, rfl⟩ : ∃ g, fuel = g + 1 := ⟨fuel - 1, by omega⟩
    rw [nspeculumlaw08_CoatEvens_l0_1.eq_2, if_neg (by dsimp only; omega), List.take_of_length_le (by omega), List.drop_eq_nil_of_le (by omega)]
    exact .inr ⟨rfl, fun j hj => hinv j (by omega)⟩
  | succ d ih =>
    intro fuel i u h hf hinv
    obtain ⟨g, rfl⟩ : ∃ g, fuel = g + 1 := ⟨fuel - 1, by omega⟩
    have w1 := Z.wants i (by omega)
    rw [nspeculumlaw08_CoatEvens_l0_1.eq_2, if_pos (by dsimp only; omega), if_pos (by omega)]
    simp only [Int.toNat_natCast]
    by_cases c : 500000 < w.getD i 0
    · rw [if_pos c]; exact .inl rfl
    · rw [if_neg c, if_pos (by unfold dbl; simp; omega), if_pos (by omega), w64_succ (by omega), w64_id (n := 2 * w.getD i 0) (by omega) (by omega), drop_get (y := m) (i := i) (by omega) 0]
      have := ih g (i + 1) (maxI u (m.getD i 0)) (by omega) (by omega) (fun j hj => by
        by_cases e : j = i
        · subst e; omega
        · exact hinv j (by omega))
      rw [show dbl (w.take (i + 1)) = dbl (w.take i) ++ [2 * w.getD i 0] by rw [take_next (by omega) 0]; unfold dbl; rw [List.map_append]; rfl] at this
      exact this
theorem law_evens (k : Nat) (hk : 1000 < k) (hk2 : k ≤ 1000000000) (r w : List Int) : nspeculumlaw08_CoatEvens k r w = some true := by
  unfold nspeculumlaw08_CoatEvens
  rw [show nawake k = some true from rfl, Option.bind_some, if_pos rfl]
  by_cases c1 : 43 < (r.length : Int)
  · rw [if_pos (by omega), if_neg (by omega), if_pos c1]
  by_cases c3 : 43 < (w.length : Int)
  · rw [if_neg c1, if_neg c1, if_pos c3, if_pos c3]
    split
    · split <;> rfl
    · rfl
  have copy : ∀ l : List Int, l.length < 100 → nspeculumbase_CopyInts k l = some l := fun l hl => by
    unfold nspeculumbase_CopyInts
    rw [if_pos (by simp; omega), List.nil_append]
  have hcr := copy r (by omega)
  have hcw := copy w (by omega)
  by_cases c0 : 12 < (r.length : Int)
  · rw [if_pos c0]
    by_cases c2 : (r.length : Int) ≤ 40
    · rw [if_pos c2]
    rw [if_neg c2, if_neg c1, if_neg c3]
    rw [hcr, Option.bind_some, hcw, Option.bind_some, maskfor_coat k hk hk2, Option.bind_some, maskfor_ref k hk, Option.bind_some, if_pos rfl]
    by_cases e : zE r w = 0
    · have Z := Zones.of e
      have n1 := Z.n1
      have hz : zR r w = (opns r w (bz r w), 0) := by unfold zR; rw [decide_eq_true e]
      have hlen : (opns r w (bz r w)).length = r.length := by unfold opns; simp
      rw [hz]
      dsimp only
      rw [ints_same k _ (by omega) (by omega), Option.bind_some, if_pos rfl, if_pos rfl]
      rcases twice_l0 k Z hlen 0 r.length k 0 0 (by omega) (by omega) (fun j hj => by omega) with h | ⟨h, hall⟩
      · rw [show nspeculumlaw08_CoatEvens_l0_0 k r w (opns r w (bz r w), 0) k [] 0 0 = _ from h]; rfl
      · rw [show nspeculumlaw08_CoatEvens_l0_0 k r w (opns r w (bz r w), 0) k [] 0 0 = _ from h, Option.bind_some]
        dsimp only
        rw [maskfor_coat k hk hk2, Option.bind_some, zR_dbl Z hall, hz, List.drop_zero, most_open Z, if_pos rfl]
        dsimp only
        rw [if_pos rfl, ints_same k _ (by omega) (by omega)]; rfl
    · have hz : zR r w = ([], zE r w) := by unfold zR; rw [decide_eq_false e]
      rw [hz]
      dsimp only
      rw [ints_same k [] (by simp) (by omega), Option.bind_some, if_pos rfl, if_neg e]
  rw [if_neg c0, if_neg c1, if_neg c3]
  rw [hcr, Option.bind_some, hcw, Option.bind_some, maskfor_coat k hk hk2, Option.bind_some, maskfor_ref k hk, Option.bind_some, if_pos rfl]
  by_cases e : zE r w = 0
  · have Z := Zones.of e
    have n1 := Z.n1
    have hz : zR r w = (opns r w (bz r w), 0) := by unfold zR; rw [decide_eq_true e]
    have hlen : (opns r w (bz r w)).length = r.length := by unfold opns; simp
    rw [hz]
    dsimp only
    rw [ints_same k _ (by omega) (by omega), Option.bind_some, if_pos rfl, if_pos rfl]
    rcases twice_l1 k Z hlen 0 r.length k 0 0 (by omega) (by omega) (fun j hj => by omega) with h | ⟨h, hall⟩
    · rw [show nspeculumlaw08_CoatEvens_l0_1 k r w (opns r w (bz r w), 0) k [] 0 0 = _ from h]; rfl
    · rw [show nspeculumlaw08_CoatEvens_l0_1 k r w (opns r w (bz r w), 0) k [] 0 0 = _ from h, Option.bind_some]
      dsimp only
      rw [maskfor_coat k hk hk2, Option.bind_some, zR_dbl Z hall, hz, List.drop_zero, most_open Z, if_pos rfl]
      dsimp only
      rw [if_pos rfl, ints_same k _ (by omega) (by omega)]; rfl
  · have hz : zR r w = ([], zE r w) := by unfold zR; rw [decide_eq_false e]
    rw [hz]
    dsimp only
    rw [ints_same k [] (by simp) (by omega), Option.bind_some, if_pos rfl, if_neg e]
theorem vc_evens (r w : List Int) : VC Go.Proofs.Try.prog 7 [VV.tr (r.map vi) r.length, VV.tr (w.map vi) w.length] (vb true) :=
  nspeculumlaw08_CoatEvens_ok 10000 r w true (law_evens 10000 (by decide) (by decide) r w)
end Go.Proofs.Ytpnlkhmnhjcgkaa.Vg

/- Law of lines: the plain functions of the texts Gl, Gk agree, for all maps and lines. -/
import Derived.Test.YteicfenmfnpmgaaGk
import Derived.Test.YteicfenmfnpmgaaGn
set_option linter.unusedVariables false
set_option linter.unusedSimpArgs false
namespace Go.Proofs.Yteicfenmfnpmgaa.Vg
open Go Go.Proofs.Yteicfenmfnpmgaa.Ev Go.Proofs.Yteicfenmfnpmgaa.Vv

def I64 (n : Int) : Prop := -9223372036854775808 ≤ n ∧ n ≤ 9223372036854775807
theorem w64_I64 (n : Int) : I64 (w64 n) := by
  unfold w64 IntKind.wrap I64
  simp [IntKind.signed, IntKind.bits]
  omega
theorem gcdZ (k : Nat) : ∀ (n fuel : Nat) (x y : Int) (B : Nat), x.natAbs ≤ B → y.natAbs ≤ B → (x ≠ 0 ∨ y ≠ 0) → y.natAbs < n → n ≤ fuel →
    ∃ g, nfigure_divisor_l0_0 k fuel x y = some g ∧ nspeculumbase_Gcd_l0_0 k fuel x y = some g ∧ g ≠ 0 ∧ g.natAbs ≤ B ∧ g ∣ x ∧ g ∣ y := by
  intro n
  induction n with
  | zero => intro fuel x y B _ _ _ h _; omega
  | succ n ih =>
    intro fuel x y B bx bY hp hn hf
    obtain ⟨f, rfl⟩ : ∃ f, fuel = f + 1 := ⟨fuel - 1, by omega⟩
    rw [nfigure_divisor_l0_0.eq_2, nspeculumbase_Gcd_l0_0.eq_2]
    by_cases h : y = 0
    · rw [if_pos h, if_pos h]; subst h
      exact ⟨x, rfl, rfl, by omega, bx, Int.dvd_refl x, Int.dvd_zero x⟩
    · rw [if_neg h, if_neg h, if_pos h, if_pos h]
      have hm : (x.tmod y).natAbs = x.natAbs % y.natAbs := Int.natAbs_tmod x y
      have hlt : x.natAbs % y.natAbs < y.natAbs := Nat.mod_lt _ (by omega)
      obtain ⟨g, e1, e2, e3, e4, e5, e6⟩ := ih f y (x.tmod y) B bY (by omega) (.inl h) (by omega) (by omega)
      refine ⟨g, e1, e2, e3, e4, ?_, e5⟩
      have := Int.mul_tdiv_add_tmod x y
      rw [← this]
      exact Int.dvd_add (Int.dvd_trans e5 (Int.dvd_mul_right y _)) e6
/-- The size of a number that was kept in 64 bits. -/
def absW (g : Int) : Int := if g < 0 then w64 (0 - g) else g
theorem maxI_abs {g : Int} (h : I64 g) : maxI g (w64 (0 - g)) = absW g := by
  unfold absW maxI
  by_cases h0 : g < 0
  · rw [if_pos h0]
    by_cases h1 : g = -9223372036854775808
    · subst h1; decide
    · rw [w64_id (by unfold I64 at h; omega) (by unfold I64 at h; omega), if_pos (by omega)]
  · rw [if_neg h0, w64_id (by unfold I64 at h; omega) (by unfold I64 at h; omega), if_neg (by omega)]
theorem gcd_both (k : Nat) (x y : Int) (hx : I64 x) (hy : I64 y) (h0 : 0 < y) (hk : 9223372036854775808 < k) : ∃ g, nfigure_divisor k x y = some (absW g) ∧ nspeculumbase_Gcd k x y = some (absW g) ∧ g ≠ 0 ∧ g.natAbs ≤ y.natAbs ∧ g ∣ x ∧ g ∣ y := by
  unfold I64 at hx hy
  obtain ⟨g, e1, e2, e3, e4, e5, e6⟩ := gcdZ k (y.natAbs + 1) k x y 9223372036854775808 (by omega) (by omega) (.inr (by omega)) (by omega) (by omega)
  have hgy : g.natAbs ≤ y.natAbs := Nat.le_of_dvd (by omega) (Int.natAbs_dvd_natAbs.2 e6)
  refine ⟨g, ?_, ?_, e3, hgy, e5, e6⟩
  · unfold nfigure_divisor
    rw [e1, Option.bind_some, maxI_abs (by unfold I64; omega)]
  · unfold nspeculumbase_Gcd nspeculumbase_Abs absW
    rw [e2, Option.bind_some]
    by_cases h : g < 0
    · rw [if_pos h, if_pos h]; rfl
    · rw [if_neg h, if_neg h]; rfl
theorem absW_eq {g : Int} (h : g.natAbs ≤ 9223372036854775807) : absW g = (g.natAbs : Int) := by
  unfold absW
  by_cases h0 : g < 0
  · rw [if_pos h0, w64_id (by omega) (by omega)]; omega
  · rw [if_neg h0]; omega
theorem lowestZ (k : Nat) (x y : Int) (hx : I64 x) (hy : I64 y) (h0 : 0 < y) (hk : 9223372036854775808 < k) : ∃ f, nfigure_lowest k x y = some f ∧ nspeculumbase_Lowest k x y = some f ∧ (f.Num < 0 ↔ x < 0) ∧ (f.Num = 0 ↔ x = 0) := by
  obtain ⟨g, e1, e2, e3, e4, e5, e6⟩ := gcd_both k x y hx hy h0 hk
  unfold I64 at hx hy
  have ha := absW_eq (g := g) (by omega)
  unfold nfigure_lowest nspeculumbase_Lowest
  rw [e1, e2, Option.bind_some, Option.bind_some, ha, if_pos (by omega), if_neg (by omega)]
  refine ⟨_, rfl, rfl, ?_⟩
  show (w64 (x.tdiv (g.natAbs : Int)) < 0 ↔ x < 0) ∧ (w64 (x.tdiv (g.natAbs : Int)) = 0 ↔ x = 0)
  obtain ⟨q, hq⟩ : (g.natAbs : Int) ∣ x := Int.natAbs_dvd.2 e5
  have hp : 0 < (g.natAbs : Int) := by omega
  generalize (g.natAbs : Int) = p at hq hp
  have ht : x.tdiv p = q := by rw [hq]; exact Int.mul_tdiv_cancel_left q (by omega)
  have hb : x.natAbs = p.natAbs * q.natAbs := by rw [hq, Int.natAbs_mul]
  have hle : q.natAbs ≤ x.natAbs := by rw [hb]; exact Nat.le_mul_of_pos_left _ (by omega)
  have hs : (q < 0 ↔ x < 0) ∧ (q = 0 ↔ x = 0) := by
    rcases Int.lt_trichotomy q 0 with h | h | h
    · have : p * q < 0 := Int.mul_neg_of_pos_of_neg hp h
      omega
    · subst h; rw [Int.mul_zero] at hq; omega
    · have : 0 < p * q := Int.mul_pos hp h
      omega
  rw [ht]
  by_cases h1 : q ≤ 9223372036854775807
  · by_cases h2 : -9223372036854775808 ≤ q
    · rw [w64_id h2 h1]; exact hs
    · omega
  · omega

/-- A line whose numbers are of 64 bits. -/
def OfI (l : SLowerLine) : Prop := (I64 l.Start.Num ∧ I64 l.Start.Den) ∧ I64 l.Slope.Num ∧ I64 l.Slope.Den
def ofL (f : SFrac) : Bool := decide (f.Den ≤ 1000 ∧ -1000000000 ≤ f.Num ∧ f.Num ≤ 1000000000)
theorem isLowest_both (k : Nat) (f : SFrac) (h1 : I64 f.Num) (h2 : I64 f.Den) (hk : 9223372036854775808 < k) : ∃ b, nfigure_isLowest k f = some b ∧ nspeculumbase_IsLowest k f = some b ∧ (b = true → 0 < f.Den) := by
  unfold nfigure_isLowest nspeculumbase_IsLowest
  by_cases h : 0 < f.Den
  · obtain ⟨g, e1, e2, _⟩ := gcd_both k f.Num f.Den h1 h2 h hk
    rw [if_pos h, if_pos h, e1, e2]
    exact ⟨_, rfl, rfl, fun _ => h⟩
  · rw [if_neg h, if_neg h]; exact ⟨_, rfl, rfl, fun e => by cases e⟩
theorem isOfLine_any (k : Nat) (f : SFrac) (h : 0 < f.Den) : nfigure_isOfLine k f = some (ofL f) := by
  unfold nfigure_isOfLine ofL
  rw [within_fig, within_fig, Option.bind_some]
  by_cases h1 : f.Den ≤ 1000
  · rw [if_pos (by simp; omega), Option.bind_some]; simp [h1]
  · rw [if_neg (by simp; omega)]; simp [h1]
theorem ofL_ref (f : SFrac) (k : Nat) (x : Option (Sum Unit Unit)) : (if 1000 < f.Den then (some (.inl ())) else ((nspeculumbase_Within k f.Num (-1000000000) 1000000000).bind fun r => (if r = true then x else (some (.inl ()))))) = (if ofL f = true then x else some (.inl ())) := by
  unfold ofL
  rw [within_base, Option.bind_some]
  by_cases h1 : 1000 < f.Den
  · rw [if_pos h1, if_neg (by simp; omega)]
  · rw [if_neg h1]
    by_cases h2 : -1000000000 ≤ f.Num ∧ f.Num ≤ 1000000000
    · rw [if_pos (decide_eq_true h2), if_pos (decide_eq_true ⟨by omega, h2⟩)]
    · rw [if_neg (by simpa using h2), if_neg (by simp; omega)]
theorem line_both (k : Nat) (m : SRemovalMap) (l : SLowerLine) (hl : OfI l) (hm : mapE m = 0) (hk : 9223372036854775808 < k) : ∃ e, nfigure_checkLine (k + 2) m l = some e ∧ nspeculumref06_CheckLine (k + 2) l = some e ∧ (e = 0 → (0 < l.Start.Den ∧ 0 < l.Slope.Den) ∧ l.Start.Den ≤ 1000 ∧ l.Slope.Den ≤ 1000) := by
  obtain ⟨b1, p1, q1, d1⟩ := isLowest_both (k + 2) l.Start hl.1.1 hl.1.2 (by omega)
  obtain ⟨b2, p2, q2, d2⟩ := isLowest_both (k + 2) l.Slope hl.2.1 hl.2.2 (by omega)
  have hc := (checkMap_any k m (by omega)).1
  have f0 : nspeculumref06_CheckLine_l0_0 (k + 2) l (k + 2) 0 = some (sumB (b1 && b2)) := by
    rw [nspeculumref06_CheckLine_l0_0.eq_2, if_pos (by decide), if_pos rfl]
    change Option.bind (nspeculumbase_IsLowest (k + 2) l.Start) _ = _
    rw [q1, Option.bind_some]
    cases b1 with
    | false => rfl
    | true =>
      rw [if_pos rfl, nspeculumref06_CheckLine_l0_0.eq_2, if_pos (by decide), if_neg (by decide), if_pos (by decide)]
      change Option.bind (nspeculumbase_IsLowest (k + 2) l.Slope) _ = _
      rw [q2, Option.bind_some]
      cases b2 with
      | false => rfl
      | true =>
        obtain ⟨k', rfl⟩ : ∃ k', k = k' + 1 := ⟨k - 1, by omega⟩
        rw [if_pos rfl, nspeculumref06_CheckLine_l0_0.eq_2, if_neg (by decide)]; rfl
  have e2 : nspeculumref06_CheckLine_l1_0 (k + 2) l (k + 2) 0 = some (sumB (ofL l.Start && ofL l.Slope)) := by
    rw [nspeculumref06_CheckLine_l1_0.eq_2, if_pos (by decide), if_pos rfl, ofL_ref]
    cases h1 : ofL l.Start with
    | false => rfl
    | true =>
      rw [if_pos rfl, nspeculumref06_CheckLine_l1_0.eq_2, if_pos (by decide), if_neg (by decide), if_pos (by decide), ofL_ref]
      cases h2 : ofL l.Slope with
      | false => rfl
      | true =>
        obtain ⟨k', rfl⟩ : ∃ k', k = k' + 1 := ⟨k - 1, by omega⟩
        rw [if_pos rfl, nspeculumref06_CheckLine_l1_0.eq_2, if_neg (by decide)]; rfl
  unfold nfigure_checkLine nspeculumref06_CheckLine
  change ∃ e, Option.bind (nfigure_CheckMap (k + 2) m) (fun r => if r = 0 then Option.bind (nfigure_isLowest (k + 2) l.Start) (fun r => if r = true then Option.bind (nfigure_isLowest (k + 2) l.Slope) (fun r => if r = true then Option.bind (nfigure_isOfLine (k + 2) l.Start) (fun r => if r = true then Option.bind (nfigure_isOfLine (k + 2) l.Slope) _ else _) else _) else _) else _) = _ ∧ _
  rw [hc, Option.bind_some, if_pos hm, p1, Option.bind_some, f0, Option.bind_some]
  cases b1 with
  | false => exact ⟨3, rfl, rfl, fun e => by cases e⟩
  | true =>
    rw [if_pos rfl, p2, Option.bind_some]
    cases b2 with
    | false => exact ⟨3, rfl, rfl, fun e => by cases e⟩
    | true =>
      have z1 := d1 rfl
      have z2 := d2 rfl
      rw [if_pos rfl, isOfLine_any _ _ z1, isOfLine_any _ _ z2, Option.bind_some, Option.bind_some]
      change ∃ e, _ ∧ Option.bind (nspeculumref06_CheckLine_l1_0 (k + 2) l (k + 2) 0) _ = _ ∧ _
      rw [e2, Option.bind_some]
      cases h1 : ofL l.Start with
      | false => exact ⟨2, rfl, rfl, fun e => by cases e⟩
      | true =>
        cases h2 : ofL l.Slope with
        | false => exact ⟨2, rfl, rfl, fun e => by cases e⟩
        | true => exact ⟨0, rfl, rfl, fun _ => ⟨⟨z1, z2⟩, (of_decide_eq_true h1).1, (of_decide_eq_true h2).1⟩⟩

/-- The removal of a place, times the denominator; that denominator. -/
def denV (l : SLowerLine) : Int := w64 (l.Start.Den * l.Slope.Den)
def remV (m : SRemovalMap) (l : SLowerLine) (i : Int) : Int := w64 ((w64 ((w64 ((m.Heights.getD i.toNat 0) * (denV l))) - (w64 (l.Start.Num * l.Slope.Den)))) - (w64 ((w64 (l.Slope.Num * (m.Q.getD i.toNat 0))) * l.Start.Den)))
structure Good (m : SRemovalMap) (l : SLowerLine) : Prop where
  le : m.Heights.length ≤ 40
  ge : 1 ≤ m.Heights.length
  q : m.Q.length = m.Heights.length
  d1 : 0 < l.Start.Den ∧ l.Start.Den ≤ 1000
  d2 : 0 < l.Slope.Den ∧ l.Slope.Den ≤ 1000
theorem denV_pos {m : SRemovalMap} {l : SLowerLine} (h : Good m l) : 0 < denV l ∧ denV l ≤ 1000000 := by
  have h1 : 0 < l.Start.Den * l.Slope.Den := Int.mul_pos h.d1.1 h.d2.1
  have h2 : l.Start.Den * l.Slope.Den ≤ 1000 * 1000 := Int.mul_le_mul h.d1.2 h.d2.2 (by have := h.d2.1; omega) (by omega)
  unfold denV
  rw [w64_id (by omega) (by omega)]
  omega
theorem remTD (k : Nat) {m : SRemovalMap} {l : SLowerLine} (h : Good m l) {i : Int} (h1 : 0 ≤ i ∧ i < (m.Heights.length : Int)) : nfigure_removalTimesDen k m l i = some (remV m l i) := by
  have hq := h.q
  unfold nfigure_removalTimesDen nfigure_denOf
  rw [if_pos h1, Option.bind_some, if_pos (show 0 ≤ i ∧ i < (m.Q.length : Int) by omega)]; rfl
theorem refRem (k : Nat) {m : SRemovalMap} {l : SLowerLine} (h : Good m l) (hk : 9223372036854775808 < k) {i : Int} (h1 : 0 ≤ i ∧ i < (m.Heights.length : Int)) : ∃ f, nfigure_lowest k (remV m l i) (denV l) = some f ∧ nspeculumref06_Removal k m l i = some f ∧ (f.Num < 0 ↔ remV m l i < 0) ∧ (f.Num = 0 ↔ remV m l i = 0) := by
  have hd := denV_pos h
  obtain ⟨f, e1, e2, e3, e4⟩ := lowestZ k (remV m l i) (denV l) (w64_I64 _) (by unfold I64; omega) hd.1 hk
  refine ⟨f, e1, ?_, e3, e4⟩
  have hq := h.q
  unfold nspeculumref06_Removal
  rw [if_pos h1, if_pos (show 0 ≤ i ∧ i < (m.Q.length : Int) by omega)]
  change Option.bind (nspeculumbase_Lowest k (remV m l i) (denV l)) _ = _
  rw [e2]; rfl
theorem dug_l (k : Nat) {m : SRemovalMap} {l : SLowerLine} (h : Good m l) (hk : 9223372036854775808 < k) : ∀ (d fuel i : Nat), m.Heights.length = i + d → d < fuel →
    ∃ r, nfigure_firstDug_l0_0 k m l fuel (i : Int) = some r ∧ nspeculumref06_CheckReference_l0_0 k m l fuel (i : Int) = some r := by
  have hle := h.le
  intro d
  induction d with
  | zero =>
    intro fuel i hi hf
    obtain ⟨g, rfl⟩ : ∃ g, fuel = g + 1 := ⟨fuel - 1, by omega⟩
    rw [nfigure_firstDug_l0_0.eq_2, nspeculumref06_CheckReference_l0_0.eq_2, if_neg (by omega), if_neg (by omega)]
    exact ⟨_, rfl, rfl⟩
  | succ d ih =>
    intro fuel i hi hf
    obtain ⟨g, rfl⟩ : ∃ g, fuel = g + 1 := ⟨fuel - 1, by omega⟩
    obtain ⟨f, e1, e2, e3, e4⟩ := refRem k h hk (i := (i : Int)) (by omega)
    rw [nfigure_firstDug_l0_0.eq_2, nspeculumref06_CheckReference_l0_0.eq_2, if_pos (by omega), if_pos (by omega)]
    change ∃ r, Option.bind (nfigure_removalTimesDen k m l (i : Int)) _ = _ ∧ Option.bind (nspeculumref06_Removal k m l (i : Int)) _ = _
    rw [remTD k h (by omega), e2, Option.bind_some, Option.bind_some]
    by_cases hn : remV m l (i : Int) < 0
    · rw [if_pos hn, if_pos (e3.2 hn)]; exact ⟨_, rfl, rfl⟩
    · rw [if_neg hn, if_neg (fun e => hn (e3.1 e)), w64_succ (by omega)]
      exact ih g (i + 1) (by omega) (by omega)
def inT (m : SRemovalMap) (e : Int) : Bool := decide (0 ≤ e ∧ e ≤ w64 ((m.Heights.length : Int) - 1))
theorem inT_lt {m : SRemovalMap} {l : SLowerLine} (h : Good m l) {e : Int} (hi : inT m e = true) : 0 ≤ e ∧ e < (m.Heights.length : Int) := by
  have h1 := of_decide_eq_true hi
  have h2 := h.le; have h3 := h.ge
  rw [w64_id (by omega) (by omega)] at h1
  omega
theorem touch_prog (K k : Nat) (m : SRemovalMap) (l : SLowerLine) : nfigure_CheckReference_l0_0 K m l (k + 3) 0 = some (sumB (inT m l.Touch.e0 && inT m l.Touch.e1)) := by
  rw [nfigure_CheckReference_l0_0.eq_2, if_pos (by decide), if_pos rfl, within_fig, Option.bind_some]
  change (if inT m l.Touch.e0 = true then _ else _) = _
  cases inT m l.Touch.e0 with
  | false => rfl
  | true =>
    rw [if_pos rfl, nfigure_CheckReference_l0_0.eq_2, if_pos (by decide), if_neg (by decide), if_pos (by decide), within_fig, Option.bind_some]
    change (if inT m l.Touch.e1 = true then _ else _) = _
    cases inT m l.Touch.e1 with
    | false => rfl
    | true => rw [if_pos rfl, nfigure_CheckReference_l0_0.eq_2, if_neg (by decide)]; rfl
theorem touch_ref (K k : Nat) (m : SRemovalMap) (l : SLowerLine) : nspeculumref06_CheckReference_l1_0 K m l (k + 3) 0 = some (sumB (inT m l.Touch.e0 && inT m l.Touch.e1)) := by
  rw [nspeculumref06_CheckReference_l1_0.eq_2, if_pos (by decide), if_pos rfl, within_base, Option.bind_some]
  change (if inT m l.Touch.e0 = true then _ else _) = _
  cases inT m l.Touch.e0 with
  | false => rfl
  | true =>
    rw [if_pos rfl, nspeculumref06_CheckReference_l1_0.eq_2, if_pos (by decide), if_neg (by decide), if_pos (by decide), within_base, Option.bind_some]
    change (if inT m l.Touch.e1 = true then _ else _) = _
    cases inT m l.Touch.e1 with
    | false => rfl
    | true => rw [if_pos rfl, nspeculumref06_CheckReference_l1_0.eq_2, if_neg (by decide)]; rfl
def isZ (m : SRemovalMap) (l : SLowerLine) (e : Int) : Bool := decide (remV m l e = 0)
theorem zero_prog (K k : Nat) {m : SRemovalMap} {l : SLowerLine} (h : Good m l) (t0 : inT m l.Touch.e0 = true) (t1 : inT m l.Touch.e1 = true) : nfigure_CheckReference_l1_0 K m l (k + 3) 0 = some (sumB (isZ m l l.Touch.e0 && isZ m l l.Touch.e1)) := by
  rw [nfigure_CheckReference_l1_0.eq_2, if_pos (by decide), if_pos rfl]
  change Option.bind (nfigure_removalTimesDen K m l l.Touch.e0) _ = _
  rw [remTD K h (inT_lt h t0), Option.bind_some]
  by_cases z0 : remV m l l.Touch.e0 = 0
  · rw [if_pos z0, show isZ m l l.Touch.e0 = true from decide_eq_true z0, nfigure_CheckReference_l1_0.eq_2, if_pos (by decide), if_neg (by decide), if_pos (by decide)]
    change Option.bind (nfigure_removalTimesDen K m l l.Touch.e1) _ = _
    rw [remTD K h (inT_lt h t1), Option.bind_some]
    by_cases z1 : remV m l l.Touch.e1 = 0
    · rw [if_pos z1, show isZ m l l.Touch.e1 = true from decide_eq_true z1, nfigure_CheckReference_l1_0.eq_2, if_neg (by decide)]; rfl
    · rw [if_neg z1, show isZ m l l.Touch.e1 = false from decide_eq_false z1]; rfl
  · rw [if_neg z0, show isZ m l l.Touch.e0 = false from decide_eq_false z0]; rfl
theorem zero_ref (K k : Nat) {m : SRemovalMap} {l : SLowerLine} (h : Good m l) (hk : 9223372036854775808 < K) (t0 : inT m l.Touch.e0 = true) (t1 : inT m l.Touch.e1 = true) (f : SFrac) : nspeculumref06_CheckReference_l2_0 K m l f (k + 3) 0 = some (sumB (isZ m l l.Touch.e0 && isZ m l l.Touch.e1)) := by
  obtain ⟨f0, _, a2, _, a4⟩ := refRem K h hk (inT_lt h t0)
  obtain ⟨f1, _, b2, _, b4⟩ := refRem K h hk (inT_lt h t1)
  rw [nspeculumref06_CheckReference_l2_0.eq_2, if_pos (by decide), if_pos rfl]
  change Option.bind (nspeculumref06_Removal K m l l.Touch.e0) _ = _
  rw [a2, Option.bind_some]
  by_cases z0 : remV m l l.Touch.e0 = 0
  · rw [if_pos (a4.2 z0), show isZ m l l.Touch.e0 = true from decide_eq_true z0, nspeculumref06_CheckReference_l2_0.eq_2, if_pos (by decide), if_neg (by decide), if_pos (by decide)]
    change Option.bind (nspeculumref06_Removal K m l l.Touch.e1) _ = _
    rw [b2, Option.bind_some]
    by_cases z1 : remV m l l.Touch.e1 = 0
    · rw [if_pos (b4.2 z1), show isZ m l l.Touch.e1 = true from decide_eq_true z1, nspeculumref06_CheckReference_l2_0.eq_2, if_neg (by decide)]; rfl
    · rw [if_neg (fun e => z1 (b4.1 e)), show isZ m l l.Touch.e1 = false from decide_eq_false z1]; rfl
  · rw [if_neg (fun e => z0 (a4.1 e)), show isZ m l l.Touch.e0 = false from decide_eq_false z0]; rfl
theorem reference_both (k : Nat) {m : SRemovalMap} {l : SLowerLine} (h : Good m l) (hm : mapE m = 0) (hk : 9223372036854775808 < k) (hc : nfigure_checkLine (k + 3) m l = some 0) :
    ∃ r, nfigure_CheckReference (k + 3) m l = some r ∧ nspeculumref06_CheckReference (k + 3) m l = some r := by
  have hq := h.q
  have hle := h.le
  obtain ⟨r, e1, e2⟩ := dug_l (k + 3) h (by omega) m.Heights.length (k + 3) 0 (by omega) (by omega)
  have e1' : nfigure_firstDug_l0_0 (k + 3) m l (k + 3) 0 = some r := e1
  have e2' : nspeculumref06_CheckReference_l0_0 (k + 3) m l (k + 3) 0 = some r := e2
  unfold nfigure_CheckReference nspeculumref06_CheckReference
  change ∃ r, Option.bind (nfigure_checkLine (k + 3) m l) (fun r => if r = 0 then Option.bind (nfigure_firstDug (k + 3) m l) _ else _) = _ ∧ _
  unfold nfigure_firstDug
  rw [hc, Option.bind_some, if_pos rfl, e1', e2', Option.bind_some, Option.bind_some]
  cases r with
  | inl i => exact ⟨(i, 26), rfl, rfl⟩
  | inr u =>
    change ∃ r, Option.bind (nfigure_CheckReference_l0_0 (k + 3) m l (k + 3) 0) _ = _ ∧ Option.bind (nspeculumref06_CheckReference_l1_0 (k + 3) m l (k + 3) 0) _ = _
    rw [touch_prog, touch_ref, Option.bind_some, Option.bind_some]
    cases t0 : inT m l.Touch.e0 with
    | false => exact ⟨(0, 6), rfl, rfl⟩
    | true =>
      cases t1 : inT m l.Touch.e1 with
      | false => exact ⟨(0, 6), rfl, rfl⟩
      | true =>
        obtain ⟨f, g1, g2⟩ := mean_any (k + 3) m hm (by omega)
        change ∃ r, Option.bind (nfigure_CheckReference_l1_0 (k + 3) m l (k + 3) 0) _ = _ ∧ Option.bind (nspeculumref06_Mean (k + 3) m) (fun f => Option.bind (nspeculumref06_CheckReference_l2_0 (k + 3) m l f (k + 3) 0) _) = _
        rw [zero_prog (k + 3) k h t0 t1, g2, Option.bind_some, Option.bind_some, zero_ref (k + 3) k h (by omega) t0 t1, Option.bind_some]
        cases z : (isZ m l l.Touch.e0 && isZ m l l.Touch.e1) with
        | false => exact ⟨(0, 22), rfl, rfl⟩
        | true =>
          have l0 := inT_lt h t0
          have l1 := inT_lt h t1
          have q0 : 0 ≤ l.Touch.e0 ∧ l.Touch.e0 < (m.Q.length : Int) := by omega
          have q1 : 0 ≤ l.Touch.e1 ∧ l.Touch.e1 < (m.Q.length : Int) := by omega
          change ∃ r, Option.bind (nfigure_areAround (k + 3) m l.Touch.e0 l.Touch.e1) _ = _ ∧ (if 0 ≤ l.Touch.e0 ∧ l.Touch.e0 < (m.Q.length : Int) then _ else _) = _
          have ha : nfigure_areAround (k + 3) m l.Touch.e0 l.Touch.e1 = some (decide (w64 (m.Q.getD l.Touch.e0.toNat 0 * f.Den) ≤ f.Num) && decide (f.Num ≤ w64 (m.Q.getD l.Touch.e1.toNat 0 * f.Den))) := by
            unfold nfigure_areAround
            change Option.bind (nfigure_mean (k + 3) m) _ = _
            rw [g1, Option.bind_some, if_pos q0]
            by_cases c : w64 (m.Q.getD l.Touch.e0.toNat 0 * f.Den) ≤ f.Num
            · rw [if_pos c, if_pos q1, decide_eq_true c, Bool.true_and]
            · rw [if_neg c, decide_eq_false c, Bool.false_and]
          rw [ha, Option.bind_some, if_pos q0]
          by_cases c : w64 (m.Q.getD l.Touch.e0.toNat 0 * f.Den) ≤ f.Num
          · rw [decide_eq_true c, Bool.true_and, if_neg (show ¬ (f.Num < w64 (m.Q.getD l.Touch.e0.toNat 0 * f.Den)) by omega), if_pos q1]
            by_cases c' : f.Num ≤ w64 (m.Q.getD l.Touch.e1.toNat 0 * f.Den)
            · rw [decide_eq_true c', if_neg (show ¬ (w64 (m.Q.getD l.Touch.e1.toNat 0 * f.Den) < f.Num) by omega)]; exact ⟨(0, 0), rfl, rfl⟩
            · rw [decide_eq_false c', if_pos (show w64 (m.Q.getD l.Touch.e1.toNat 0 * f.Den) < f.Num by omega)]; exact ⟨(0, 22), rfl, rfl⟩
          · rw [decide_eq_false c, Bool.false_and, if_pos (show f.Num < w64 (m.Q.getD l.Touch.e0.toNat 0 * f.Den) by omega)]; exact ⟨(0, 22), rfl, rfl⟩
theorem removal_l (k : Nat) {m : SRemovalMap} {l : SLowerLine} (h : Good m l) (hk : 9223372036854775808 < k) : ∀ (d fuel i : Nat) (y : List SFrac), m.Heights.length = i + d → d < fuel → y.length = i → (∀ j : Nat, j < i → nspeculumref06_Removal k m l (j : Int) = some (y.getD j default)) →
    ∃ y', nfigure_Removal_l0_0 k m l fuel y (i : Int) = some y' ∧ y'.length = m.Heights.length ∧ ∀ j : Nat, j < m.Heights.length → nspeculumref06_Removal k m l (j : Int) = some (y'.getD j default) := by
  have hle := h.le
  intro d
  induction d with
  | zero =>
    intro fuel i y hi hf hy ha
    obtain ⟨g, rfl⟩ : ∃ g, fuel = g + 1 := ⟨fuel - 1, by omega⟩
    rw [nfigure_Removal_l0_0.eq_2, if_neg (by omega)]
    exact ⟨y, rfl, by omega, fun j hj => ha j (by omega)⟩
  | succ d ih =>
    intro fuel i y hi hf hy ha
    obtain ⟨g, rfl⟩ : ∃ g, fuel = g + 1 := ⟨fuel - 1, by omega⟩
    obtain ⟨f, e1, e2, _, _⟩ := refRem k h hk (i := (i : Int)) (by omega)
    rw [nfigure_Removal_l0_0.eq_2, if_pos (by omega)]
    change ∃ y', Option.bind (nfigure_removalTimesDen k m l (i : Int)) (fun r => Option.bind (nfigure_denOf k l) (fun d => Option.bind (nfigure_lowest k r d) _)) = _ ∧ _
    have hd : nfigure_denOf k l = some (denV l) := rfl
    rw [remTD k h (by omega), Option.bind_some, hd, Option.bind_some, e1, Option.bind_some, if_pos (by simp; omega), w64_succ (by omega)]
    refine ih g (i + 1) (y ++ [f]) (by omega) (by omega) (by simp; omega) fun j hj => ?_
    rw [List.getD_eq_getElem?_getD]
    rcases Nat.lt_or_ge j i with h1 | h1
    · rw [List.getElem?_append_left (by omega), ← List.getD_eq_getElem?_getD]; exact ha j h1
    · obtain rfl : j = i := by omega
      rw [List.getElem?_append_right (by omega), hy, Nat.sub_self]; exact e2
theorem lawLines_l (k : Nat) (m : SRemovalMap) (l : SLowerLine) (r : List SFrac × Int) (hl : r.1.length < 1000000) (ha : ∀ j : Nat, j < r.1.length → nspeculumref06_Removal k m l (j : Int) = some (r.1.getD j default)) : ∀ (d fuel i : Nat), r.1.length = i + d → d < fuel → nspeculumlaw06_FigureLines_l0_0 k m l r fuel (i : Int) = some (.inr ()) := by
  intro d
  induction d with
  | zero =>
    intro fuel i hi hf
    obtain ⟨g, rfl⟩ : ∃ g, fuel = g + 1 := ⟨fuel - 1, by omega⟩
    rw [nspeculumlaw06_FigureLines_l0_0.eq_2, if_neg (by omega)]
  | succ d ih =>
    intro fuel i hi hf
    obtain ⟨g, rfl⟩ : ∃ g, fuel = g + 1 := ⟨fuel - 1, by omega⟩
    rw [nspeculumlaw06_FigureLines_l0_0.eq_2, if_pos (by omega), if_pos (by omega)]
    change Option.bind (nspeculumref06_Removal k m l (i : Int)) _ = _
    rw [ha i (by omega), Option.bind_some, Int.toNat_natCast, if_pos (by simp), w64_succ (by omega)]
    exact ih g (i + 1) (by omega) (by omega)
theorem law_lines (m : SRemovalMap) (l : SLowerLine) (hl : OfI l) : nspeculumlaw06_FigureLines 18446744073709551616 m l = some true := by
  have hK : ∃ k : Nat, k + 4 = 18446744073709551616 ∧ 9223372036854775808 < k := ⟨18446744073709551612, rfl, by decide⟩
  obtain ⟨k, hk, hb⟩ := hK
  rw [← hk]
  clear hk
  unfold nspeculumlaw06_FigureLines nawake
  obtain ⟨r, e1, e2⟩ := few_any k m
  rw [Option.bind_some, if_pos rfl]
  change Option.bind (nspeculumlaw06_Few (k + 4) m) _ = _
  rw [e1, Option.bind_some]
  cases r with
  | false => rfl
  | true =>
    rw [if_pos rfl]
    change Option.bind (nspeculumlaw06_mapped (k + 4) m) _ = _
    rw [mapped_any (k + 4) m (e2 rfl), Option.bind_some]
    obtain ⟨c1, c2⟩ := checkMap_any (k + 2) m (by omega)
    have c1' : nfigure_CheckMap (k + 4) m = some (mapE m) := c1
    have c2' : nspeculumref06_CheckMap (k + 4) m = some (mapE m) := c2
    change Option.bind (nfigure_CheckReference (k + 4) m l) (fun r => Option.bind (nfigure_Removal (k + 4) m l) (fun r' => Option.bind (nspeculumref06_CheckMap (k + 4) m) (fun d => if d = 0 then Option.bind (nspeculumref06_CheckLine (k + 4) l) (fun d => if d = 0 then Option.bind (nspeculumref06_CheckReference (k + 4) m l) _ else _) else _))) = _
    have bad : ∀ e, e ≠ 0 → nfigure_checkLine (k + 4) m l = some e → nfigure_CheckReference (k + 4) m l = some (0, e) ∧ nfigure_Removal (k + 4) m l = some ([], e) := by
      intro e he hc
      constructor
      · unfold nfigure_CheckReference
        change Option.bind (nfigure_checkLine (k + 4) m l) _ = _
        rw [hc, Option.bind_some, if_neg he]
      · unfold nfigure_Removal
        change Option.bind (nfigure_checkLine (k + 4) m l) _ = _
        rw [hc, Option.bind_some, if_neg he]
    by_cases hm : mapE m = 0
    · obtain ⟨e, p1, p2, p3⟩ := line_both (k + 2) m l hl hm (by omega)
      have p1' : nfigure_checkLine (k + 4) m l = some e := p1
      have p2' : nspeculumref06_CheckLine (k + 4) l = some e := p2
      by_cases he : e = 0
      · subst he
        obtain ⟨z0, z1, z2, z3, z4⟩ := mapE_zero hm
        have hg : Good m l := ⟨z0.2, z0.1, z1, ⟨(p3 rfl).1.1, (p3 rfl).2.1⟩, ⟨(p3 rfl).1.2, (p3 rfl).2.2⟩⟩
        obtain ⟨r, q1, q2⟩ := reference_both (k + 1) hg hm (by omega) p1
        have q1' : nfigure_CheckReference (k + 4) m l = some r := q1
        have q2' : nspeculumref06_CheckReference (k + 4) m l = some r := q2
        obtain ⟨y, y1, y2, y3⟩ := removal_l (k + 4) hg (by omega) m.Heights.length (k + 4) 0 [] (by omega) (by omega) rfl (fun j hj => by omega)
        have y1' : nfigure_Removal (k + 4) m l = some (y, 0) := by
          unfold nfigure_Removal
          change Option.bind (nfigure_checkLine (k + 4) m l) _ = _
          have y0 : nfigure_Removal_l0_0 (k + 4) m l (k + 4) [] 0 = some y := y1
          rw [p1', Option.bind_some, if_pos rfl, y0]; rfl
        have hlaw : nspeculumlaw06_FigureLines_l0_0 (k + 4) m l (y, 0) (k + 4) 0 = some (.inr ()) := lawLines_l (k + 4) m l (y, 0) (by show y.length < _; omega) (fun j hj => y3 j (by have : j < y.length := hj; omega)) y.length (k + 4) 0 (by show y.length = _; omega) (by omega)
        rw [q1', Option.bind_some, y1', Option.bind_some, c2', Option.bind_some, if_pos hm, p2', Option.bind_some, if_pos rfl, q2', Option.bind_some, if_pos rfl, if_pos rfl, if_pos rfl, if_pos (by show (y.length : Int) = _; omega), hlaw]; rfl
      · obtain ⟨b1, b2⟩ := bad e he p1'
        rw [b1, Option.bind_some, b2, Option.bind_some, c2', Option.bind_some, if_pos hm, p2', Option.bind_some, if_neg he, if_pos rfl, if_pos rfl, if_pos rfl]; rfl
    · have hc : nfigure_checkLine (k + 4) m l = some (mapE m) := by
        unfold nfigure_checkLine
        change Option.bind (nfigure_CheckMap (k + 4) m) _ = _
        rw [c1', Option.bind_some, if_neg hm]
      obtain ⟨b1, b2⟩ := bad _ hm hc
      rw [b1, Option.bind_some, b2, Option.bind_some, c2', Option.bind_some, if_neg hm, if_pos rfl, if_pos rfl, if_pos rfl]; rfl
theorem vc_lines (m : SRemovalMap) (l : SLowerLine) (hl : OfI l) : VC Go.Proofs.Try.prog 12 [.ag [.tr (m.Heights.map vi) m.Heights.length, .tr (m.Q.map vi) m.Q.length, .tr (m.Weights.map vi) m.Weights.length], .ag [vi l.Start.Num, vi l.Start.Den, vi l.Slope.Num, vi l.Slope.Den, vi l.Touch.e0, vi l.Touch.e1]] (vb true) :=
  nspeculumlaw06_FigureLines_ok 18446744073709551616 m l true (law_lines m l hl)
end Go.Proofs.Yteicfenmfnpmgaa.Vg

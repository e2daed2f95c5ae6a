/- Law of masks. -/
import Derived.Test.YtpnlkhmnhjcgkaaN1
import Derived.Test.YtpnlkhmnhjcgkaaVi
set_option linter.unusedVariables false
set_option linter.unusedSimpArgs false
namespace Go.Proofs.Ytpnlkhmnhjcgkaa.Vg
open Go Go.Proofs.Ytpnlkhmnhjcgkaa.Ev Go.Proofs.Ytpnlkhmnhjcgkaa.Vv
theorem w64_id {n : Int} (h1 : -9223372036854775808 ≤ n) (h2 : n ≤ 9223372036854775807) : w64 n = n := by
  unfold w64 IntKind.wrap
  simp [IntKind.signed, IntKind.bits]
  omega
theorem w64_succ {i : Nat} (h : i < 1000000000000) : w64 ((i : Int) + 1) = ((i + 1 : Nat) : Int) := by
  rw [w64_id (by omega) (by omega)]; omega
theorem drop_get {α : Type} {y : List α} {i : Nat} (h : i < y.length) (d : α) : y.drop i = y.getD i d :: y.drop (i + 1) := by
  rw [List.drop_eq_getElem_cons h, List.getD_eq_getElem?_getD, List.getElem?_eq_getElem h]; rfl
def sumB (b : Bool) : Sum Unit Unit := match b with | true => .inr () | false => .inl ()
def inR (a b n : Int) : Bool := decide (a ≤ n ∧ n ≤ b)
theorem inR_t {a b n : Int} : inR a b n = true ↔ a ≤ n ∧ n ≤ b := by unfold inR; exact decide_eq_true_iff
theorem inR_f {a b n : Int} : inR a b n = false ↔ ¬(a ≤ n ∧ n ≤ b) := by unfold inR; exact decide_eq_false_iff_not
theorem within_base (k : Nat) (a b c : Int) : nspeculumbase_Within k a b c = some (inR b c a) := by
  unfold nspeculumbase_Within inR
  by_cases h : b ≤ a
  · rw [if_pos h]; simp [h]
  · rw [if_neg h]; simp [h]
theorem areWithin_l (k : Nat) (a b : Int) (xs : List Int) (hl : xs.length < 1000000000000) : ∀ (d fuel i : Nat), xs.length = i + d → d < fuel →
    ncoat_areWithin_l0_0 k a b xs fuel (i : Int) = some (sumB ((xs.drop i).all (inR a b))) := by
  intro d
  induction d with
  | zero =>
    intro fuel i h hf
    obtain ⟨g, rfl⟩ : ∃ g, fuel = g + 1 := ⟨fuel - 1, by omega⟩
    rw [ncoat_areWithin_l0_0.eq_2, if_neg (by omega), List.drop_eq_nil_of_le (by omega)]; rfl
  | succ d ih =>
    intro fuel i h hf
    obtain ⟨g, rfl⟩ : ∃ g, fuel = g + 1 := ⟨fuel - 1, by omega⟩
    rw [ncoat_areWithin_l0_0.eq_2, if_pos (by omega), if_pos (by omega), w64_succ (by omega), ih g (i + 1) (by omega) (by omega), drop_get (y := xs) (i := i) (by omega) 0]
    simp only [Int.toNat_natCast, List.all_cons]
    by_cases h1 : xs.getD i 0 < a
    · rw [if_pos h1, show inR a b (xs.getD i 0) = false from inR_f.2 (by omega)]; rfl
    · rw [if_neg h1]
      by_cases h2 : b < xs.getD i 0
      · rw [if_pos h2, show inR a b (xs.getD i 0) = false from inR_f.2 (by omega)]; rfl
      · rw [if_neg h2, show inR a b (xs.getD i 0) = true from inR_t.2 (by omega)]; rfl
theorem areWithin_any (k : Nat) (a b : Int) (xs : List Int) (hl : xs.length < k) (hk : k ≤ 1000000000) : ncoat_areWithin k a b xs = some (xs.all (inR a b)) := by
  unfold ncoat_areWithin
  rw [show ncoat_areWithin_l0_0 k a b xs k 0 = _ from areWithin_l k a b xs (by omega) xs.length k 0 (by omega) hl]
  simp only [List.drop_zero]
  cases xs.all (inR a b) <;> rfl
theorem areWithin_1 (k : Nat) (a b x : Int) (hk : 1 < k) (hk2 : k ≤ 1000000000) : ncoat_areWithin k a b [x] = some (inR a b x) := by
  rw [areWithin_any k a b [x] (by simpa using hk) hk2]; simp
theorem tdiv_pos {n d : Int} (hn : 0 ≤ n) : n.tdiv d = n / d := Int.tdiv_eq_ediv_of_nonneg hn
theorem div_le {n d : Int} (hn : 0 ≤ n) (hd : 0 < d) : 0 ≤ n / d ∧ n / d ≤ n := by
  refine ⟨Int.ediv_nonneg hn (by omega), ?_⟩
  exact Int.ediv_le_self d hn
/-- rounded up. -/
def cdiv (n d : Int) : Int := (n + d - 1) / d
theorem cdiv_eq {n d : Int} (hd : 0 < d) : cdiv n d = if n % d = 0 then n / d else n / d + 1 := by
  unfold cdiv
  have h := Int.emod_add_mul_ediv n d
  have h0 := Int.emod_nonneg n (show d ≠ 0 by omega)
  have h1 := Int.emod_lt_of_pos n hd
  by_cases e : n % d = 0
  · rw [if_pos e]
    rw [show n + d - 1 = (d - 1) + d * (n / d) by omega, Int.add_mul_ediv_left _ _ (by omega), Int.ediv_eq_zero_of_lt (by omega) (by omega)]; omega
  · rw [if_neg e]
    have : d * (n / d + 1) = d * (n / d) + d := by rw [Int.mul_add, Int.mul_one]
    rw [show n + d - 1 = (n % d - 1) + d * (n / d + 1) by omega, Int.add_mul_ediv_left _ _ (by omega), Int.ediv_eq_zero_of_lt (by omega) (by omega)]; omega
theorem floor_any (k : Nat) {n d : Int} (hn : 0 ≤ n) (hn2 : n ≤ 1000000000000000000) (hd : 0 < d) : nspeculumbase_Floor k n d = some (n / d) := by
  unfold nspeculumbase_Floor
  have := div_le hn hd
  rw [if_pos (by omega), if_neg (by have := Int.tmod_nonneg d hn; omega), tdiv_pos hn, w64_id (by omega) (by omega)]
theorem ceil_any (k : Nat) {n d : Int} (hn : 0 ≤ n) (hn2 : n ≤ 1000000000000000000) (hd : 0 < d) : nspeculumbase_Ceil k n d = some (cdiv n d) := by
  unfold nspeculumbase_Ceil nspeculumbase_Floor
  have h3 := div_le hn hd
  have h0 := Int.emod_nonneg n (show d ≠ 0 by omega)
  rw [cdiv_eq hd, w64_id (n := 0 - n) (by omega) (by omega), if_pos (by omega), show (0 - n) = -n by omega, Int.neg_tmod, Int.neg_tdiv, tdiv_pos hn, Int.tmod_eq_emod_of_nonneg hn, w64_id (n := -(n / d)) (by omega) (by omega)]
  by_cases e : n % d = 0
  · rw [if_neg (by omega), if_pos e, Option.bind_some, w64_id (by omega) (by omega)]; congr 1; omega
  · rw [if_pos (by omega), if_neg e, w64_id (n := -(n / d) - 1) (by omega) (by omega), Option.bind_some, w64_id (by omega) (by omega)]; congr 1; omega
theorem up_any (k : Nat) {n d : Int} (hn : 0 ≤ n) (hn2 : n ≤ 1000000000000000000) (hd : 0 < d) (hd2 : d ≤ 1000000000000000000) : ncoat_up k n d = some (cdiv n d) := by
  unfold ncoat_up cdiv
  have h3 := div_le (n := n + d - 1) (by omega) hd
  rw [if_pos (by omega), w64_id (n := n + d) (by omega) (by omega), w64_id (n := n + d - 1) (by omega) (by omega), tdiv_pos (by omega), w64_id (by omega) (by omega)]
theorem outward_any (k : Nat) {n m d : Int} (hn : 0 ≤ n) (hn2 : n ≤ 1000000000000000000) (hm : 0 ≤ m) (hm2 : m ≤ 1000000000000000000) (hd : 0 < d) (hd2 : d ≤ 1000000000000000000) : ncoat_outward k n m d = some ⟨n / d, cdiv m d⟩ := by
  unfold ncoat_outward
  have h3 := div_le hn hd
  rw [if_pos (by omega), up_any k hm hm2 hd hd2, Option.bind_some, tdiv_pos hn, w64_id (by omega) (by omega)]
theorem mb {a b A B : Int} (h1 : 0 ≤ a) (h2 : a ≤ A) (h3 : 0 ≤ b) (h4 : b ≤ B) : 0 ≤ a * b ∧ a * b ≤ A * B := ⟨Int.mul_nonneg h1 h3, Int.mul_le_mul h2 h4 h3 (by omega)⟩
def In (n : Int) : Prop := -9223372036854775808 ≤ n ∧ n ≤ 9223372036854775807
theorem size_any (k : Nat) {n : Int} (h : In n) : nnumber_size k n = some (if n < 0 then -n else n) := by
  unfold nnumber_size
  unfold In at h
  by_cases h0 : n < 0
  · rw [if_pos h0, if_pos h0]
    congr 1
    unfold IntKind.wrap
    simp [IntKind.signed, IntKind.bits]
    omega
  · rw [if_neg h0, if_neg h0]
    congr 1
    unfold IntKind.wrap
    simp [IntKind.signed, IntKind.bits]
    omega
def big (n : Int) : Bool := inR (-1000000000000000) 1000000000000000 n
def rgE (t : SRange) : Int := match big t.Lo with
  | true => match big t.Hi with
    | true => if t.Hi < t.Lo then 9 else 0
    | false => 2
  | false => 2
theorem range_coat (k : Nat) {t : SRange} (h1 : In t.Lo) (h2 : In t.Hi) : nnumber_CheckRange k t = some (rgE t) := by
  unfold nnumber_CheckRange rgE
  rw [size_any k h1, size_any k h2, Option.bind_some, Option.bind_some]
  cases hb : big t.Lo with
  | false =>
    have hb := inR_f.1 hb
    rw [if_pos (by split <;> omega)]
  | true =>
    have hb := inR_t.1 hb
    rw [if_neg (by split <;> omega)]
    cases hc : big t.Hi with
    | false =>
      have hc := inR_f.1 hc
      rw [if_pos (by split <;> omega)]
    | true =>
      have hc := inR_t.1 hc
      rw [if_neg (by split <;> omega)]
      dsimp only
      by_cases h : t.Hi < t.Lo
      · rw [if_pos h, if_pos h]
      · rw [if_neg h, if_neg h]
theorem range_ref (k : Nat) (hk : 10 < k) (t : SRange) : nspeculumref01_CheckRange k t = some (rgE t) := by
  obtain ⟨g, rfl⟩ : ∃ g, k = g + 3 := ⟨k - 3, by omega⟩
  unfold nspeculumref01_CheckRange rgE
  rw [nspeculumref01_CheckRange_l0_0.eq_2, if_pos (by decide), if_pos rfl]
  cases hb : big t.Lo with
  | false =>
    have hb := inR_f.1 hb
    by_cases h : t.Lo < -1000000000000000
    · rw [if_pos h]; rfl
    · rw [if_neg h, if_pos (by omega)]; rfl
  | true =>
    have hb := inR_t.1 hb
    rw [if_neg (by omega), if_neg (by omega), show w64 (0 + 1) = 1 from by decide, nspeculumref01_CheckRange_l0_0.eq_2, if_pos (by decide), if_neg (by decide), if_pos rfl]
    cases hc : big t.Hi with
    | false =>
      have hc := inR_f.1 hc
      by_cases h : t.Hi < -1000000000000000
      · rw [if_pos h]; rfl
      · rw [if_neg h, if_pos (by omega)]; rfl
    | true =>
      have hc := inR_t.1 hc
      rw [if_neg (by omega), if_neg (by omega), show w64 (1 + 1) = 2 from by decide, nspeculumref01_CheckRange_l0_0.eq_2, if_neg (by decide), Option.bind_some]
      dsimp only
      by_cases h : t.Hi < t.Lo
      · rw [if_pos h, if_pos h]
      · rw [if_neg h, if_neg h]
def mkE (m : List Int) : Int := match inR 1 40 (m.length : Int) with
  | true => match m.all (inR 0 1000) with
    | true => 0
    | false => 2
  | false => 10
theorem mask_coat (k : Nat) (hk : 100 < k) (hk2 : k ≤ 1000000000) (m : List Int) : ncoat_CheckMask k m = some (mkE m) := by
  unfold ncoat_CheckMask mkE
  rw [areWithin_1 k _ _ _ (by omega) hk2, Option.bind_some]
  cases h : inR 1 40 (m.length : Int) with
  | false => rfl
  | true =>
    have h := inR_t.1 h
    rw [if_pos rfl, areWithin_any k _ _ _ (by omega) hk2, Option.bind_some]
    cases m.all (inR 0 1000) <;> rfl
theorem mask_l (k : Nat) (m : List Int) (hl : m.length < 1000000000) : ∀ (d fuel i : Nat), m.length = i + d → d < fuel →
    nspeculumref08_CheckMask_l0_0 k m fuel (i : Int) = some (sumB ((m.drop i).all (inR 0 1000))) := by
  intro d
  induction d with
  | zero =>
    intro fuel i h hf
    obtain ⟨g, rfl⟩ : ∃ g, fuel = g + 1 := ⟨fuel - 1, by omega⟩
    rw [nspeculumref08_CheckMask_l0_0.eq_2, if_neg (by omega), List.drop_eq_nil_of_le (by omega)]; rfl
  | succ d ih =>
    intro fuel i h hf
    obtain ⟨g, rfl⟩ : ∃ g, fuel = g + 1 := ⟨fuel - 1, by omega⟩
    rw [nspeculumref08_CheckMask_l0_0.eq_2, if_pos (by omega), if_pos (by omega), within_base, Option.bind_some, w64_succ (by omega), ih g (i + 1) (by omega) (by omega), drop_get (y := m) (i := i) (by omega) 0]
    simp only [Int.toNat_natCast, List.all_cons]
    by_cases hx : inR 0 1000 (m.getD i 0) = true
    · rw [if_pos hx, hx]; rfl
    · rw [if_neg hx, eq_false_of_ne_true hx]; rfl
theorem mask_ref (k : Nat) (hk : 100 < k) (m : List Int) : nspeculumref08_CheckMask k m = some (mkE m) := by
  unfold nspeculumref08_CheckMask mkE
  rw [within_base, Option.bind_some]
  cases h : inR 1 40 (m.length : Int) with
  | false => rfl
  | true =>
    have h := inR_t.1 h
    rw [if_pos rfl, show nspeculumref08_CheckMask_l0_0 k m k 0 = _ from mask_l k m (by omega) m.length k 0 (by omega) (by omega), List.drop_zero]
    cases m.all (inR 0 1000) <;> rfl
def thE (t : SRange) (m : List Int) : Int := match decide (rgE t = 0) with
  | true => match decide (t.Lo < 0) with
    | true => 2
    | false => mkE m
  | false => rgE t
structure Good (t : SRange) (m : List Int) : Prop where
  lo : 0 ≤ t.Lo
  le : t.Lo ≤ t.Hi
  hi : t.Hi ≤ 1000000000000000
  len : m.length ≤ 40
  all : ∀ i, i < m.length → 0 ≤ m.getD i 0 ∧ m.getD i 0 ≤ 1000
theorem Good.of {t : SRange} {m : List Int} (h : thE t m = 0) : Good t m := by
  unfold thE at h
  cases h1 : decide (rgE t = 0) with
  | false => rw [h1] at h; exact absurd h (of_decide_eq_false h1)
  | true =>
    rw [h1] at h; dsimp only at h
    cases h2 : decide (t.Lo < 0) with
    | true => rw [h2] at h; dsimp only at h; exact absurd h (by decide)
    | false =>
      rw [h2] at h; dsimp only at h
      have h1 := of_decide_eq_true h1
      have h2 := of_decide_eq_false h2
      unfold rgE at h1
      cases h3 : big t.Lo with
      | false => rw [h3] at h1; dsimp only at h1; exact absurd h1 (by decide)
      | true =>
        rw [h3] at h1; dsimp only at h1
        cases h4 : big t.Hi with
        | false => rw [h4] at h1; dsimp only at h1; exact absurd h1 (by decide)
        | true =>
          rw [h4] at h1; dsimp only at h1
          have h4 := inR_t.1 h4
          unfold mkE at h
          cases h5 : inR 1 40 (m.length : Int) with
          | false => rw [h5] at h; dsimp only at h; exact absurd h (by decide)
          | true =>
            rw [h5] at h; dsimp only at h
            have h5 := inR_t.1 h5
            cases h6 : m.all (inR 0 1000) with
            | false => rw [h6] at h; dsimp only at h; exact absurd h (by decide)
            | true =>
              refine ⟨by omega, ?_, h4.2, by omega, fun i hi => ?_⟩
              · split at h1
                · exact absurd h1 (by decide)
                · omega
              · refine inR_t.1 (List.all_eq_true.1 h6 _ ?_)
                rw [List.getD_eq_getElem?_getD, List.getElem?_eq_getElem hi]; exact List.getElem_mem hi
/-- what lies behind an opening. -/
def gT (t : SRange) (x : Int) : SRange := ⟨t.Lo * x / 1000, cdiv (t.Hi * x) 1000⟩
theorem take_next {α : Type} {m : List α} {i : Nat} (h : i < m.length) (d : α) : m.take (i + 1) = m.take i ++ [m.getD i d] := by
  rw [List.take_add_one, List.getElem?_eq_getElem h, List.getD_eq_getElem?_getD, List.getElem?_eq_getElem h]; rfl
theorem through_coat (k : Nat) {t : SRange} {m : List Int} (G : Good t m) : ∀ (d fuel i : Nat), m.length = i + d → d < fuel →
    ncoat_Through_l0_0 k t m fuel ((m.take i).map (gT t) ++ List.replicate d ⟨0, 0⟩) (i : Int) = some (m.map (gT t)) := by
  have h1 := G.len
  intro d
  induction d with
  | zero =>
    intro fuel i h hf
    obtain ⟨g, rfl⟩ : ∃ g, fuel = g + 1 := ⟨fuel - 1, by omega⟩
    rw [ncoat_Through_l0_0.eq_2, if_neg (by omega), List.take_of_length_le (by omega)]; simp
  | succ d ih =>
    intro fuel i h hf
    obtain ⟨g, rfl⟩ : ∃ g, fuel = g + 1 := ⟨fuel - 1, by omega⟩
    have hx := G.all i (by omega)
    have hlo := G.lo; have hle := G.le; have hhi := G.hi
    have b1 := mb hlo (show t.Lo ≤ 1000000000000000 by omega) hx.1 hx.2
    have b2 := mb (show 0 ≤ t.Hi by omega) hhi hx.1 hx.2
    rw [ncoat_Through_l0_0.eq_2, if_pos (by omega), if_pos (by omega)]
    simp only [Int.toNat_natCast]
    rw [w64_id (n := t.Lo * m.getD i 0) (by omega) (by omega), w64_id (n := t.Hi * m.getD i 0) (by omega) (by omega), outward_any k b1.1 (by omega) b2.1 (by omega) (by decide) (by decide), Option.bind_some]
    have hlen : ((m.take i).map (gT t)).length = i := by simp; omega
    rw [if_pos (by simp; omega), w64_succ (by omega), List.set_append_right _ _ (by omega), hlen, Nat.sub_self, List.replicate_succ, List.set_cons_zero]
    have := ih g (i + 1) (by omega) (by omega)
    rw [take_next (by omega) 0, List.map_append, List.append_assoc] at this
    exact this
theorem through_ref (k : Nat) {t : SRange} {m : List Int} (G : Good t m) : ∀ (d fuel i : Nat), m.length = i + d → d < fuel →
    nspeculumref08_Through_l0_0 k t m fuel ((m.take i).map (gT t)) (i : Int) = some (m.map (gT t)) := by
  have h1 := G.len
  intro d
  induction d with
  | zero =>
    intro fuel i h hf
    obtain ⟨g, rfl⟩ : ∃ g, fuel = g + 1 := ⟨fuel - 1, by omega⟩
    rw [nspeculumref08_Through_l0_0.eq_2, if_neg (by omega), List.take_of_length_le (by omega)]
  | succ d ih =>
    intro fuel i h hf
    obtain ⟨g, rfl⟩ : ∃ g, fuel = g + 1 := ⟨fuel - 1, by omega⟩
    have hx := G.all i (by omega)
    have hlo := G.lo; have hle := G.le; have hhi := G.hi
    have b1 := mb hlo (show t.Lo ≤ 1000000000000000 by omega) hx.1 hx.2
    have b2 := mb (show 0 ≤ t.Hi by omega) hhi hx.1 hx.2
    rw [nspeculumref08_Through_l0_0.eq_2, if_pos (by omega), if_pos (by omega)]
    simp only [Int.toNat_natCast]
    rw [w64_id (n := t.Lo * m.getD i 0) (by omega) (by omega), w64_id (n := t.Hi * m.getD i 0) (by omega) (by omega), floor_any k b1.1 (by omega) (by decide), Option.bind_some, ceil_any k b2.1 (by omega) (by decide), Option.bind_some]
    rw [if_pos (by simp; omega), w64_succ (by omega)]
    have := ih g (i + 1) (by omega) (by omega)
    rw [take_next (by omega) 0, List.map_append] at this
    exact this
theorem Through_coat (k : Nat) (hk : 100 < k) (hk2 : k ≤ 1000000000) {t : SRange} (h1 : In t.Lo) (h2 : In t.Hi) (m : List Int) : ncoat_Through k t m = some (match decide (thE t m = 0) with | true => (m.map (gT t), 0) | false => ([], thE t m)) := by
  unfold ncoat_Through
  rw [range_coat k (t := ⟨t.Lo, t.Hi⟩) h1 h2, Option.bind_some]
  have hG : thE t m = 0 → Good t m := Good.of
  unfold thE at hG ⊢
  rw [show rgE ⟨t.Lo, t.Hi⟩ = rgE t from rfl]
  by_cases e1 : rgE t = 0
  · rw [if_pos e1]
    rw [decide_eq_true e1] at hG ⊢
    dsimp only at hG ⊢
    by_cases e2 : t.Lo < 0
    · rw [if_pos e2, decide_eq_true e2]; rfl
    · rw [if_neg e2, mask_coat k hk hk2, Option.bind_some]
      rw [decide_eq_false e2] at hG ⊢
      dsimp only at hG ⊢
      by_cases e3 : mkE m = 0
      · have G := hG e3
        have := G.len
        rw [if_pos e3, decide_eq_true e3, if_pos (by omega)]
        have := through_coat k G m.length k 0 (by omega) (by omega)
        rw [List.take_zero, List.map_nil, List.nil_append] at this
        rw [show ((m.length : Int)).toNat = m.length by omega, show ncoat_Through_l0_0 k t m k (List.replicate m.length ⟨0, 0⟩) 0 = _ from this]
        rfl
      · rw [if_neg e3, decide_eq_false e3]
  · rw [if_neg e1, decide_eq_false e1]
    dsimp only
    rw [decide_eq_false e1]
theorem check_ref (k : Nat) (hk : 100 < k) (t : SRange) (m : List Int) : nspeculumref08_CheckThrough k t m = some (thE t m) := by
  unfold nspeculumref08_CheckThrough thE
  rw [range_ref k (by omega), Option.bind_some, show rgE ⟨t.Lo, t.Hi⟩ = rgE t from rfl]
  by_cases e1 : rgE t = 0
  · rw [if_pos e1, decide_eq_true e1]
    dsimp only
    by_cases e2 : t.Lo < 0
    · rw [if_pos e2, decide_eq_true e2]
    · rw [if_neg e2, decide_eq_false e2, mask_ref k hk]; rfl
  · rw [if_neg e1, decide_eq_false e1]
theorem ranges_same (k : Nat) (l : List SRange) (hl : l.length < 1000000000) : ∀ (d fuel i : Nat), l.length = i + d → d < fuel →
    nspeculumbase_Ranges_l0_0 k l l fuel (i : Int) = some (.inr ()) := by
  intro d
  induction d with
  | zero =>
    intro fuel i h hf
    obtain ⟨g, rfl⟩ : ∃ g, fuel = g + 1 := ⟨fuel - 1, by omega⟩
    rw [nspeculumbase_Ranges_l0_0.eq_2, if_neg (by omega)]
  | succ d ih =>
    intro fuel i h hf
    obtain ⟨g, rfl⟩ : ∃ g, fuel = g + 1 := ⟨fuel - 1, by omega⟩
    rw [nspeculumbase_Ranges_l0_0.eq_2, if_pos (by omega), if_pos (by omega), if_pos (by omega), if_pos (by simp), w64_succ (by omega), ih g (i + 1) (by omega) (by omega)]
theorem gT_open (t : SRange) : gT t 1000 = t := by
  unfold gT
  have h1 : t.Lo * 1000 / 1000 = t.Lo := Int.mul_ediv_cancel _ (by decide)
  have h2 : cdiv (t.Hi * 1000) 1000 = t.Hi := by unfold cdiv; omega
  rw [h1, h2]
theorem getD_map {t : SRange} {m : List Int} {i : Nat} (h : i < m.length) : (m.map (gT t)).getD i default = gT t (m.getD i 0) := by
  rw [List.getD_eq_getElem?_getD, List.getD_eq_getElem?_getD, List.getElem?_map, List.getElem?_eq_getElem h]; rfl
theorem open_l0 (k : Nat) {t : SRange} {m : List Int} (hl : m.length < 1000000000) (e : Int) : ∀ (d fuel i : Nat), m.length = i + d → d < fuel →
    nspeculumlaw08_CoatMasks_l0_0 k t m (m.map (gT t), e) fuel (i : Int) = some (.inr ()) := by
  intro d
  induction d with
  | zero =>
    intro fuel i h hf
    obtain ⟨g, rfl⟩ : ∃ g, fuel = g + 1 := ⟨fuel - 1, by omega⟩
    rw [nspeculumlaw08_CoatMasks_l0_0.eq_2, if_neg (by simp; omega)]
  | succ d ih =>
    intro fuel i h hf
    obtain ⟨g, rfl⟩ : ∃ g, fuel = g + 1 := ⟨fuel - 1, by omega⟩
    rw [nspeculumlaw08_CoatMasks_l0_0.eq_2, if_pos (by simp; omega), if_pos (by omega), w64_succ (by omega), ih g (i + 1) (by omega) (by omega)]
    by_cases h1 : m.getD ((i : Int)).toNat 0 = 1000
    · rw [if_pos h1, if_pos (by simp; omega)]
      dsimp only
      rw [getD_map (by omega), h1, gT_open]
      simp
    · rw [if_neg h1]
theorem open_l1 (k : Nat) {t : SRange} {m : List Int} (hl : m.length < 1000000000) (e : Int) : ∀ (d fuel i : Nat), m.length = i + d → d < fuel →
    nspeculumlaw08_CoatMasks_l0_1 k t m (m.map (gT t), e) fuel (i : Int) = some (.inr ()) := by
  intro d
  induction d with
  | zero =>
    intro fuel i h hf
    obtain ⟨g, rfl⟩ : ∃ g, fuel = g + 1 := ⟨fuel - 1, by omega⟩
    rw [nspeculumlaw08_CoatMasks_l0_1.eq_2, if_neg (by simp; omega)]
  | succ d ih =>
    intro fuel i h hf
    obtain ⟨g, rfl⟩ : ∃ g, fuel = g + 1 := ⟨fuel - 1, by omega⟩
    rw [nspeculumlaw08_CoatMasks_l0_1.eq_2, if_pos (by simp; omega), if_pos (by omega), w64_succ (by omega), ih g (i + 1) (by omega) (by omega)]
    by_cases h1 : m.getD ((i : Int)).toNat 0 = 1000
    · rw [if_pos h1, if_pos (by simp; omega)]
      dsimp only
      rw [getD_map (by omega), h1, gT_open]
      simp
    · rw [if_neg h1]
theorem law_masks (k : Nat) (hk : 100 < k) (hk2 : k ≤ 1000000000) (t : SRange) (h1 : In t.Lo) (h2 : In t.Hi) (m : List Int) : nspeculumlaw08_CoatMasks k t m = some true := by
  unfold nspeculumlaw08_CoatMasks
  rw [show nawake k = some true from rfl, Option.bind_some, if_pos rfl]
  by_cases c1 : 43 < (m.length : Int)
  · rw [if_pos (by omega), if_neg (by omega), if_pos c1]
  have hcopy : nspeculumbase_CopyInts k m = some m := by
    unfold nspeculumbase_CopyInts
    rw [if_pos (by simp; omega), List.nil_append]
  by_cases c0 : 12 < (m.length : Int)
  · rw [if_pos c0]
    by_cases c2 : (m.length : Int) ≤ 40
    · rw [if_pos c2]
    rw [if_neg c2, if_neg c1]
    rw [hcopy, Option.bind_some, Through_coat k hk hk2 (t := ⟨t.Lo, t.Hi⟩) h1 h2, Option.bind_some, mask_coat k hk hk2, Option.bind_some, mask_ref k hk, Option.bind_some, if_pos rfl, check_ref k hk, Option.bind_some, show (⟨t.Lo, t.Hi⟩ : SRange) = t from rfl]
    by_cases e : thE t m = 0
    · have G := Good.of e
      have := G.len
      rw [if_pos e, decide_eq_true e]
      dsimp only
      have hr : nspeculumref08_Through k t m = some (m.map (gT t)) := by
        unfold nspeculumref08_Through
        rw [show nspeculumref08_Through_l0_0 k t m k [] 0 = _ from through_ref k G m.length k 0 (by omega) (by omega)]; rfl
      have hs : nspeculumbase_Ranges k (m.map (gT t)) (m.map (gT t)) = some true := by
        unfold nspeculumbase_Ranges
        rw [if_pos rfl, show nspeculumbase_Ranges_l0_0 k (m.map (gT t)) (m.map (gT t)) k 0 = _ from ranges_same k _ (by simp; omega) (m.map (gT t)).length k 0 (by omega) (by simp; omega)]; rfl
      rw [if_pos rfl, hr, Option.bind_some, hs, Option.bind_some, if_pos rfl, show nspeculumlaw08_CoatMasks_l0_0 k t m (m.map (gT t), 0) k 0 = _ from open_l0 k (by omega) 0 m.length k 0 (by omega) (by omega)]
      rfl
    · rw [if_neg e, decide_eq_false e]
      dsimp only
      rw [if_pos rfl]
      rfl
  rw [if_neg c0, if_neg c1]
  rw [hcopy, Option.bind_some, Through_coat k hk hk2 (t := ⟨t.Lo, t.Hi⟩) h1 h2, Option.bind_some, mask_coat k hk hk2, Option.bind_some, mask_ref k hk, Option.bind_some, if_pos rfl, check_ref k hk, Option.bind_some, show (⟨t.Lo, t.Hi⟩ : SRange) = t from rfl]
  by_cases e : thE t m = 0
  · have G := Good.of e
    have := G.len
    rw [if_pos e, decide_eq_true e]
    dsimp only
    have hr : nspeculumref08_Through k t m = some (m.map (gT t)) := by
      unfold nspeculumref08_Through
      rw [show nspeculumref08_Through_l0_0 k t m k [] 0 = _ from through_ref k G m.length k 0 (by omega) (by omega)]; rfl
    have hs : nspeculumbase_Ranges k (m.map (gT t)) (m.map (gT t)) = some true := by
      unfold nspeculumbase_Ranges
      rw [if_pos rfl, show nspeculumbase_Ranges_l0_0 k (m.map (gT t)) (m.map (gT t)) k 0 = _ from ranges_same k _ (by simp; omega) (m.map (gT t)).length k 0 (by omega) (by simp; omega)]; rfl
    rw [if_pos rfl, hr, Option.bind_some, hs, Option.bind_some, if_pos rfl, show nspeculumlaw08_CoatMasks_l0_1 k t m (m.map (gT t), 0) k 0 = _ from open_l1 k (by omega) 0 m.length k 0 (by omega) (by omega)]
    rfl
  · rw [if_neg e, decide_eq_false e]
    dsimp only
    rw [if_pos rfl]
    rfl
theorem vc_masks (t : SRange) (m : List Int) (h1 : In64 t.Lo) (h2 : In64 t.Hi) : VC Go.Proofs.Try.prog 6 [VV.ag [vi t.Lo, vi t.Hi], VV.tr (m.map vi) m.length] (vb true) :=
  nspeculumlaw08_CoatMasks_ok 1000 t m true (law_masks 1000 (by decide) (by decide) t (by unfold In; unfold In64 at h1; omega) (by unfold In; unfold In64 at h2; omega) m)
end Go.Proofs.Ytpnlkhmnhjcgkaa.Vg

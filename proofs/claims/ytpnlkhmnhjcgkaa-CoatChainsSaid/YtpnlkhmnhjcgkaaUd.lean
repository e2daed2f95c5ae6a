/- Law of chains of mirrors. -/
import Derived.Test.YtpnlkhmnhjcgkaaU4
import Derived.Test.YtpnlkhmnhjcgkaaUb
set_option linter.unusedVariables false
set_option linter.unusedSimpArgs false
namespace Go.Proofs.Ytpnlkhmnhjcgkaa.Vg
open Go Go.Proofs.Ytpnlkhmnhjcgkaa.Ev Go.Proofs.Ytpnlkhmnhjcgkaa.Vv
theorem div_mono {n m d : Int} (hd : 0 < d) (h : n ≤ m) : n / d ≤ m / d := Int.ediv_le_ediv hd h
theorem cdiv_mono {n m d : Int} (hd : 0 < d) (h : n ≤ m) : cdiv n d ≤ cdiv m d := Int.ediv_le_ediv hd (by omega)
theorem cdiv_mul {a d : Int} (hd : 0 < d) : cdiv (a * d) d = a := by
  unfold cdiv
  rw [show a * d + d - 1 = (d - 1) + d * a by rw [Int.mul_comm]; omega, Int.add_mul_ediv_left _ _ (by omega), Int.ediv_eq_zero_of_lt (by omega) (by omega)]; omega
theorem mix_le {a b x y : Int} (ha : a ≤ 1000) (hb : b ≤ 1000) (hx : 0 ≤ x) (hy : 0 ≤ y) : mixS a b x y ≤ 1000 * (x + y) := by
  unfold mixS
  have h1 := Int.mul_le_mul_of_nonneg_right ha hx
  have h2 := Int.mul_le_mul_of_nonneg_right hb hy
  rw [Int.mul_add]; omega
theorem val_le {l : List SReflect} (R : Right l) {w : Int} {r : Nat} (A : At l w r) : (valS l w r).Lo ≤ 1000 ∧ (valS l w r).Hi ≤ 1000 := by
  have hp := A.p; have hq := A.q; have ha := A.a; have hb := A.b
  have e1 := R.pt r hq
  have e2 := R.pt (r - 1) (by omega)
  have e3 := R.up r (by omega) hq
  have m1 := mix_le (a := (sh l (r - 1)).Lo) (b := (sh l r).Lo) (x := wv l r - w) (y := w - wv l (r - 1)) (by omega) (by omega) (by omega) (by omega)
  have m2 := mix_le (a := (sh l (r - 1)).Hi) (b := (sh l r).Hi) (x := wv l r - w) (y := w - wv l (r - 1)) (by omega) (by omega) (by omega) (by omega)
  rw [show wv l r - w + (w - wv l (r - 1)) = wv l r - wv l (r - 1) by omega] at m1 m2
  have hd : 0 < wv l r - wv l (r - 1) := by omega
  constructor
  · have := div_mono hd m1
    rw [Int.mul_ediv_cancel _ (by omega)] at this
    exact this
  · have := cdiv_mono hd m2
    rw [cdiv_mul hd] at this
    exact this
theorem val_ge {l : List SReflect} (R : Right l) {w : Int} {r : Nat} (A : At l w r) : 0 ≤ (valS l w r).Lo ∧ 0 ≤ (valS l w r).Hi := by
  have hp := A.p; have hq := A.q; have ha := A.a; have hb := A.b
  have e1 := R.pt r hq
  have e2 := R.pt (r - 1) (by omega)
  have e3 := R.up r (by omega) hq
  have m1 := mix_in (a := (sh l (r - 1)).Lo) (b := (sh l r).Lo) (x := wv l r - w) (y := w - wv l (r - 1)) (by omega) (by omega) (by omega) (by omega)
  have m2 := mix_in (a := (sh l (r - 1)).Hi) (b := (sh l r).Hi) (x := wv l r - w) (y := w - wv l (r - 1)) (by omega) (by omega) (by omega) (by omega)
  exact ⟨Int.ediv_nonneg m1.1 (by omega), Int.ediv_nonneg (by omega) (by omega)⟩
theorem at_in {l : List SReflect} {w : Int} (h : (atV l w).2 = 0) : (0 ≤ (atV l w).1.Lo ∧ (atV l w).1.Lo ≤ 1000) ∧ 0 ≤ (atV l w).1.Hi ∧ (atV l w).1.Hi ≤ 1000 := by
  unfold atV at h ⊢
  cases hc : decide (cvE l = 0) with
  | false => rw [hc] at h; dsimp only at h; exact absurd h (of_decide_eq_false hc)
  | true =>
    rw [hc] at h; dsimp only at h ⊢
    cases hw : hasW l w with
    | false => rw [hw] at h; dsimp only at h; exact absurd h (by decide)
    | true =>
      have R := Right.of (of_decide_eq_true hc)
      obtain ⟨_, A⟩ := rt_ok R hw
      have h1 := val_le R A; have h2 := val_ge R A
      exact ⟨⟨h2.1, h1.1⟩, h2.2, h1.2⟩
/-- one mirror behind the other. -/
def chL (w : Int) : List (List SReflect) → Int → Int → Sum Int (Int × Int)
  | [], lo, hi => .inr (lo, hi)
  | t :: ts, lo, hi => if (atV t w).2 = 0 then chL w ts (lo * (atV t w).1.Lo / 1000) (cdiv (hi * (atV t w).1.Hi) 1000) else .inl (atV t w).2
theorem chL_cons (w : Int) (t : List SReflect) (ts : List (List SReflect)) (lo hi : Int) : chL w (t :: ts) lo hi = if (atV t w).2 = 0 then chL w ts (lo * (atV t w).1.Lo / 1000) (cdiv (hi * (atV t w).1.Hi) 1000) else .inl (atV t w).2 := rfl
theorem step_in {t : List SReflect} {w lo hi : Int} (h : (atV t w).2 = 0) (h1 : 0 ≤ lo ∧ lo ≤ 1000) (h2 : 0 ≤ hi ∧ hi ≤ 1000) :
    (0 ≤ lo * (atV t w).1.Lo ∧ lo * (atV t w).1.Lo ≤ 1000000) ∧ (0 ≤ hi * (atV t w).1.Hi ∧ hi * (atV t w).1.Hi ≤ 1000000) ∧ (0 ≤ lo * (atV t w).1.Lo / 1000 ∧ lo * (atV t w).1.Lo / 1000 ≤ lo) ∧ 0 ≤ cdiv (hi * (atV t w).1.Hi) 1000 ∧ cdiv (hi * (atV t w).1.Hi) 1000 ≤ hi := by
  have ha := at_in h
  have m1 := mb (A := 1000) (B := 1000) h1.1 h1.2 ha.1.1 ha.1.2
  have m2 := mb (A := 1000) (B := 1000) h2.1 h2.2 ha.2.1 ha.2.2
  have q1 := div_mono (d := 1000) (by decide) (Int.mul_le_mul_of_nonneg_left ha.1.2 h1.1)
  have q2 := cdiv_mono (d := 1000) (by decide) (Int.mul_le_mul_of_nonneg_left ha.2.2 h2.1)
  rw [Int.mul_ediv_cancel _ (by decide)] at q1
  rw [cdiv_mul (by decide)] at q2
  exact ⟨⟨m1.1, by omega⟩, ⟨m2.1, by omega⟩, ⟨Int.ediv_nonneg m1.1 (by decide), q1⟩, Int.ediv_nonneg (by omega) (by decide), q2⟩
theorem chain_coat (k : Nat) (hk : 100 < k) (hk2 : k ≤ 1000000000) (l : List (List SReflect)) (hl : l.length < 100) (w : Int) : ∀ (d fuel i : Nat) (lo hi : Int), l.length = i + d → d < fuel → 0 ≤ lo ∧ lo ≤ 1000 → 0 ≤ hi ∧ hi ≤ 1000 →
    ncoat_Chain_l0_0 k l w fuel lo hi (i : Int) = some (chL w (l.drop i) lo hi) := by
  intro d
  induction d with
  | zero =>
    intro fuel i lo hi h hf _ _
    obtain ⟨g, rfl⟩ : ∃ g, fuel = g + 1 := ⟨fuel - 1, by omega⟩
    rw [ncoat_Chain_l0_0.eq_2, if_neg (by omega), List.drop_eq_nil_of_le (by omega)]; rfl
  | succ d ih =>
    intro fuel i lo hi h hf h1 h2
    obtain ⟨g, rfl⟩ : ∃ g, fuel = g + 1 := ⟨fuel - 1, by omega⟩
    rw [ncoat_Chain_l0_0.eq_2, if_pos (by omega), if_pos (by omega), At_coat k hk hk2, Option.bind_some, w64_succ (by omega), drop_get (y := l) (i := i) (by omega) default, chL_cons]
    simp only [Int.toNat_natCast]
    by_cases c : (atV (l.getD i default) w).2 = 0
    · obtain ⟨s1, s2, s3, s4⟩ := step_in c h1 h2
      rw [if_pos c, if_pos c, w64_id (n := lo * _) (by omega) (by omega), w64_id (n := hi * _) (by omega) (by omega), outward_any k s1.1 (by omega) s2.1 (by omega) (by decide) (by decide), Option.bind_some]
      exact ih g (i + 1) _ _ (by omega) (by omega) (by dsimp only; omega) (by dsimp only; omega)
    · rw [if_neg c, if_neg c]
theorem chain_ref (k : Nat) (hk : 100 < k) (l : List (List SReflect)) (hl : l.length < 100) (w : Int) : ∀ (d fuel i : Nat) (lo hi : Int), l.length = i + d → d < fuel → 0 ≤ lo ∧ lo ≤ 1000 → 0 ≤ hi ∧ hi ≤ 1000 →
    nspeculumref08_Chain_l0_0 k l w fuel lo hi (i : Int) = some (chL w (l.drop i) lo hi) := by
  intro d
  induction d with
  | zero =>
    intro fuel i lo hi h hf _ _
    obtain ⟨g, rfl⟩ : ∃ g, fuel = g + 1 := ⟨fuel - 1, by omega⟩
    rw [nspeculumref08_Chain_l0_0.eq_2, if_neg (by omega), List.drop_eq_nil_of_le (by omega)]; rfl
  | succ d ih =>
    intro fuel i lo hi h hf h1 h2
    obtain ⟨g, rfl⟩ : ∃ g, fuel = g + 1 := ⟨fuel - 1, by omega⟩
    rw [nspeculumref08_Chain_l0_0.eq_2, if_pos (by omega), if_pos (by omega), at_ref k hk, Option.bind_some, w64_succ (by omega), drop_get (y := l) (i := i) (by omega) default, chL_cons]
    simp only [Int.toNat_natCast]
    by_cases c : (atV (l.getD i default) w).2 = 0
    · obtain ⟨s1, s2, s3, s4⟩ := step_in c h1 h2
      rw [if_pos c, if_pos c, w64_id (n := lo * _) (by omega) (by omega), w64_id (n := hi * _) (by omega) (by omega), floor_any k s1.1 (by omega) (by decide), Option.bind_some, ceil_any k s2.1 (by omega) (by decide), Option.bind_some]
      exact ih g (i + 1) _ _ (by omega) (by omega) (by omega) (by omega)
    · rw [if_neg c, if_neg c]
def chV (l : List (List SReflect)) (w : Int) : SRange × Int := if 10 < (l.length : Int) then (⟨0, 0⟩, 8) else match chL w l 1000 1000 with
  | .inl e => (⟨0, 0⟩, e)
  | .inr p => (⟨p.1, p.2⟩, 0)
theorem Chain_coat (k : Nat) (hk : 100 < k) (hk2 : k ≤ 1000000000) (l : List (List SReflect)) (w : Int) : ncoat_Chain k l w = some (chV l w) := by
  unfold ncoat_Chain chV
  by_cases c : 10 < (l.length : Int)
  · rw [if_pos c, if_pos c]
  · rw [if_neg c, if_neg c, show ncoat_whole k = some ⟨1000, 1000⟩ from rfl, Option.bind_some]
    dsimp only
    rw [show ncoat_Chain_l0_0 k l w k 1000 1000 0 = _ from chain_coat k hk hk2 l (by omega) w l.length k 0 1000 1000 (by omega) (by omega) (by decide) (by decide), Option.bind_some, List.drop_zero]
    cases chL w l 1000 1000 <;> rfl
theorem Chain_ref (k : Nat) (hk : 100 < k) (l : List (List SReflect)) (w : Int) : nspeculumref08_Chain k l w = some (chV l w) := by
  unfold nspeculumref08_Chain chV
  by_cases c : 10 < (l.length : Int)
  · rw [if_pos c, if_pos c]
  · rw [if_neg c, if_neg c, show nspeculumref08_Chain_l0_0 k l w k 1000 1000 0 = _ from chain_ref k hk l (by omega) w l.length k 0 1000 1000 (by omega) (by omega) (by decide) (by decide), Option.bind_some, List.drop_zero]
    cases chL w l 1000 1000 <;> rfl
theorem chL_in (w : Int) : ∀ (ts : List (List SReflect)) (lo hi : Int), 0 ≤ lo ∧ lo ≤ 1000 → 0 ≤ hi ∧ hi ≤ 1000 → ∀ p, chL w ts lo hi = .inr p → (0 ≤ p.1 ∧ p.1 ≤ 1000) ∧ 0 ≤ p.2 ∧ p.2 ≤ 1000
  | [], lo, hi, h1, h2, p, h => by injection h with h; subst h; exact ⟨h1, h2⟩
  | t :: ts, lo, hi, h1, h2, p, h => by
    rw [chL_cons] at h
    by_cases c : (atV t w).2 = 0
    · rw [if_pos c] at h
      obtain ⟨s1, s2, s3, s4⟩ := step_in c h1 h2
      exact chL_in w ts _ _ (by omega) (by omega) p h
    · rw [if_neg c] at h; cases h
theorem chL_app (w : Int) (t : List SReflect) : ∀ (ts : List (List SReflect)) (lo hi : Int) (p : Int × Int), chL w (ts ++ [t]) lo hi = .inr p → ∃ q, chL w ts lo hi = .inr q ∧ (atV t w).2 = 0 ∧ p = (q.1 * (atV t w).1.Lo / 1000, cdiv (q.2 * (atV t w).1.Hi) 1000)
  | [], lo, hi, p, h => by
    rw [List.nil_append, chL_cons] at h
    by_cases c : (atV t w).2 = 0
    · rw [if_pos c] at h; injection h with h; exact ⟨(lo, hi), rfl, c, h.symm⟩
    · rw [if_neg c] at h; cases h
  | s :: ts, lo, hi, p, h => by
    rw [List.cons_append, chL_cons] at h
    rw [chL_cons]
    by_cases c : (atV s w).2 = 0
    · rw [if_pos c] at h ⊢; exact chL_app w t ts _ _ p h
    · rw [if_neg c] at h; cases h
theorem chL_ne (w : Int) : ∀ (ts : List (List SReflect)) (lo hi e : Int), chL w ts lo hi = .inl e → e ≠ 0
  | [], lo, hi, e, h => by cases h
  | t :: ts, lo, hi, e, h => by
    rw [chL_cons] at h
    by_cases c : (atV t w).2 = 0
    · rw [if_pos c] at h; exact chL_ne w ts _ _ e h
    · rw [if_neg c] at h; injection h with h; subst h; exact c
theorem chV_less {l : List (List SReflect)} {w : Int} (h : (chV l w).2 = 0) (hne : 0 < l.length) : (chV (l.take (l.length - 1)) w).2 = 0 ∧ (chV l w).1.Lo ≤ (chV (l.take (l.length - 1)) w).1.Lo ∧ (chV l w).1.Hi ≤ (chV (l.take (l.length - 1)) w).1.Hi := by
  have hlen : (l.take (l.length - 1)).length = l.length - 1 := by rw [List.length_take]; omega
  unfold chV at h ⊢
  by_cases c : 10 < (l.length : Int)
  · rw [if_pos c] at h; exact absurd h (by decide)
  rw [if_neg c] at h ⊢
  rw [if_neg (by omega)]
  cases hc : chL w l 1000 1000 with
  | inl e => rw [hc] at h; exact absurd h (chL_ne w l 1000 1000 e hc)
  | inr p =>
    have hsplit : l = l.take (l.length - 1) ++ [l.getD (l.length - 1) default] := by
      have := List.take_append_drop (l.length - 1) l
      rw [drop_get (y := l) (i := l.length - 1) (by omega) default, List.drop_eq_nil_of_le (by omega)] at this
      exact this.symm
    have hc2 := hc
    rw [hsplit] at hc2
    obtain ⟨q, q1, q2, q3⟩ := chL_app w _ _ _ _ p hc2
    have hq := chL_in w _ _ _ (by decide) (by decide) q q1
    obtain ⟨s1, s2, s3, s4⟩ := step_in q2 hq.1 hq.2
    rw [q1]
    dsimp only
    subst q3
    dsimp only
    exact ⟨rfl, s3.2, s4.2⟩
theorem take_next {α : Type} {m : List α} {i : Nat} (h : i < m.length) (d : α) : m.take (i + 1) = m.take i ++ [m.getD i d] := by
  rw [List.take_add_one, List.getElem?_eq_getElem h, List.getD_eq_getElem?_getD, List.getElem?_eq_getElem h]; rfl
theorem own_l0 (k : Nat) (l : List (List SReflect)) (hl : l.length < 100) (w : Int) : ∀ (d fuel i : Nat), l.length = i + d → d < fuel →
    nspeculumlaw08_CoatChains_l0_0 k l w fuel (l.take i) (i : Int) = some (.inl ()) ∨ nspeculumlaw08_CoatChains_l0_0 k l w fuel (l.take i) (i : Int) = some (.inr l) := by
  intro d
  induction d with
  | zero =>
    intro fuel i h hf
    obtain ⟨g, rfl⟩ : ∃ g, fuel = g + 1 := ⟨fuel - 1, by omega⟩
    rw [nspeculumlaw08_CoatChains_l0_0.eq_2, if_neg (by omega), List.take_of_length_le (by omega)]; exact .inr rfl
  | succ d ih =>
    intro fuel i h hf
    obtain ⟨g, rfl⟩ : ∃ g, fuel = g + 1 := ⟨fuel - 1, by omega⟩
    rw [nspeculumlaw08_CoatChains_l0_0.eq_2, if_pos (by omega), if_pos (by omega), few_any, Option.bind_some, w64_succ (by omega)]
    simp only [Int.toNat_natCast]
    cases hf2 : fewB (l.getD i default) with
    | false => exact .inl rfl
    | true =>
      have := few_le hf2
      rw [if_pos rfl, table_any k (by omega), Option.bind_some, if_pos (by simp; omega)]
      have := ih g (i + 1) (by omega) (by omega)
      rw [take_next (by omega) default] at this
      exact this
theorem own_l1 (k : Nat) (l : List (List SReflect)) (hl : l.length < 100) (w : Int) : ∀ (d fuel i : Nat), l.length = i + d → d < fuel →
    nspeculumlaw08_CoatChains_l0_1 k l w fuel (l.take i) (i : Int) = some (.inl ()) ∨ nspeculumlaw08_CoatChains_l0_1 k l w fuel (l.take i) (i : Int) = some (.inr l) := by
  intro d
  induction d with
  | zero =>
    intro fuel i h hf
    obtain ⟨g, rfl⟩ : ∃ g, fuel = g + 1 := ⟨fuel - 1, by omega⟩
    rw [nspeculumlaw08_CoatChains_l0_1.eq_2, if_neg (by omega), List.take_of_length_le (by omega)]; exact .inr rfl
  | succ d ih =>
    intro fuel i h hf
    obtain ⟨g, rfl⟩ : ∃ g, fuel = g + 1 := ⟨fuel - 1, by omega⟩
    rw [nspeculumlaw08_CoatChains_l0_1.eq_2, if_pos (by omega), if_pos (by omega), few_any, Option.bind_some, w64_succ (by omega)]
    simp only [Int.toNat_natCast]
    cases hf2 : fewB (l.getD i default) with
    | false => exact .inl rfl
    | true =>
      have := few_le hf2
      rw [if_pos rfl, table_any k (by omega), Option.bind_some, if_pos (by simp; omega)]
      have := ih g (i + 1) (by omega) (by omega)
      rw [take_next (by omega) default] at this
      exact this
theorem law_chains (k : Nat) (hk : 100 < k) (hk2 : k ≤ 1000000000) (l : List (List SReflect)) (w : Int) : nspeculumlaw08_CoatChains k l w = some true := by
  unfold nspeculumlaw08_CoatChains
  rw [show nawake k = some true from rfl, Option.bind_some, if_pos rfl]
  by_cases c1 : 13 < (l.length : Int)
  · rw [if_pos (by omega), if_neg (by omega), if_pos c1]
  by_cases c0 : 5 < (l.length : Int)
  · rw [if_pos c0]
    by_cases c2 : (l.length : Int) ≤ 10
    · rw [if_pos c2]
    rw [if_neg c2, if_neg c1]
    rcases own_l0 k l (by omega) w l.length k 0 (by omega) (by omega) with h | h
    · rw [show nspeculumlaw08_CoatChains_l0_0 k l w k [] 0 = _ from h]; rfl
    · rw [show nspeculumlaw08_CoatChains_l0_0 k l w k [] 0 = _ from h, Option.bind_some]
      dsimp only
      rw [Chain_coat k hk hk2, Option.bind_some, Chain_ref k hk, Option.bind_some, if_pos rfl, if_pos (by simp)]
      by_cases c : (chV l w).2 = 0
      · rw [if_pos c]
        by_cases c4 : (l.length : Int) = 0
        · rw [if_pos c4]
        · have hless := chV_less c (by omega)
          rw [if_neg c4, w64_id (n := (l.length : Int) - 1) (by omega) (by omega), if_pos (by omega), show ((l.length : Int) - 1).toNat - 0 = l.length - 1 by omega, Chain_coat k hk hk2, Option.bind_some, if_pos hless.1, if_pos hless.2.1, decide_eq_true hless.2.2]
      · rw [if_neg c]
  rw [if_neg c0, if_neg c1]
  rcases own_l1 k l (by omega) w l.length k 0 (by omega) (by omega) with h | h
  · rw [show nspeculumlaw08_CoatChains_l0_1 k l w k [] 0 = _ from h]; rfl
  · rw [show nspeculumlaw08_CoatChains_l0_1 k l w k [] 0 = _ from h, Option.bind_some]
    dsimp only
    rw [Chain_coat k hk hk2, Option.bind_some, Chain_ref k hk, Option.bind_some, if_pos rfl, if_pos (by simp)]
    by_cases c : (chV l w).2 = 0
    · rw [if_pos c]
      by_cases c4 : (l.length : Int) = 0
      · rw [if_pos c4]
      · have hless := chV_less c (by omega)
        rw [if_neg c4, w64_id (n := (l.length : Int) - 1) (by omega) (by omega), if_pos (by omega), show ((l.length : Int) - 1).toNat - 0 = l.length - 1 by omega, Chain_coat k hk hk2, Option.bind_some, if_pos hless.1, if_pos hless.2.1, decide_eq_true hless.2.2]
    · rw [if_neg c]
theorem vc_chains (l : List (List SReflect)) (w : Int) : VC Go.Proofs.Try.prog 10 [VV.tr (l.map v_74) l.length, vi w] (vb true) :=
  nspeculumlaw08_CoatChains_ok 1000 l w true (law_chains 1000 (by decide) (by decide) l w)
end Go.Proofs.Ytpnlkhmnhjcgkaa.Vg

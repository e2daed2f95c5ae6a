/- SupportPeaks, plain. -/
import Derived.Test.YtpaclgmigndilaaCA
import Derived.Test.YtpaclgmigndilaaWb
set_option linter.unusedVariables false
set_option linter.unusedSimpArgs false
namespace Go.Proofs.Ytpaclgmigndilaa.Vg
open Go Go.Proofs.Ytpaclgmigndilaa.Ev Go.Proofs.Ytpaclgmigndilaa.Vv
theorem w64_id {n : Int} (h1 : -9223372036854775808 ≤ n) (h2 : n ≤ 9223372036854775807) : w64 n = n := by
  unfold w64 IntKind.wrap
  simp [IntKind.signed, IntKind.bits]
  omega
theorem w64_succ {i : Nat} (h : i < 1000000000000) : w64 ((i : Int) + 1) = ((i + 1 : Nat) : Int) := by
  rw [w64_id (by omega) (by omega)]; omega
theorem drop_get {α : Type} {y : List α} {i : Nat} (h : i < y.length) (d : α) : y.drop i = y.getD i d :: y.drop (i + 1) := by
  rw [List.drop_eq_getElem_cons h, List.getD_eq_getElem?_getD, List.getElem?_eq_getElem h]; rfl
theorem u64_id {n : Int} (h1 : 0 ≤ n) (h2 : n < 18446744073709551616) : IntKind.u64.wrap n = n := by
  unfold IntKind.wrap
  simp [IntKind.signed, IntKind.bits]
  omega
theorem size_any (k : Nat) {n : Int} (h : -9223372036854775808 ≤ n ∧ n ≤ 9223372036854775807) : nnumber_size k n = some (n.natAbs : Int) := by
  unfold nnumber_size
  by_cases h0 : n < 0
  · rw [if_pos h0]
    congr 1
    unfold IntKind.wrap
    simp [IntKind.signed, IntKind.bits]
    omega
  · rw [if_neg h0, u64_id (by omega) (by omega)]
    congr 1; omega
abbrev inN (n : Int) : Prop := -1000000000000000 ≤ n ∧ n ≤ 1000000000000000
def chk (r : SRange) : Int := if inN r.Lo ∧ inN r.Hi then (if r.Hi < r.Lo then 9 else 0) else 2
def Bd (r : SRange) : Prop := In64 r.Lo ∧ In64 r.Hi
theorem chk_ok {r : SRange} (h : inN r.Lo ∧ inN r.Hi) : chk r = if r.Hi < r.Lo then 9 else 0 := if_pos h
theorem chk_bad {r : SRange} (h : ¬(inN r.Lo ∧ inN r.Hi)) : chk r = 2 := if_neg h
theorem range_num (k : Nat) {r : SRange} (h : Bd r) : nnumber_CheckRange k r = some (chk r) := by
  have h1 : -9223372036854775808 ≤ r.Lo ∧ r.Lo ≤ 9223372036854775807 := by have := h.1; unfold In64 at this; omega
  have h2 : -9223372036854775808 ≤ r.Hi ∧ r.Hi ≤ 9223372036854775807 := by have := h.2; unfold In64 at this; omega
  unfold nnumber_CheckRange
  rw [size_any k h1, size_any k h2]
  simp only [Option.bind_some]
  by_cases c1 : 1000000000000000 < (r.Lo.natAbs : Int)
  · rw [if_pos c1, chk_bad (by intro ⟨a, b⟩; unfold inN at a b; omega)]
  · rw [if_neg c1]
    by_cases c2 : 1000000000000000 < (r.Hi.natAbs : Int)
    · rw [if_pos c2, chk_bad (by intro ⟨a, b⟩; unfold inN at a b; omega)]
    · rw [if_neg c2, chk_ok ⟨⟨by omega, by omega⟩, ⟨by omega, by omega⟩⟩]
      by_cases c3 : r.Hi < r.Lo
      · rw [if_pos c3, if_pos c3]
      · rw [if_neg c3, if_neg c3]
theorem rr2 (K f : Nat) (r : SRange) : nspeculumref01_CheckRange_l0_0 K r (f + 1) 2 = some (.inr ()) := by
  rw [nspeculumref01_CheckRange_l0_0.eq_2, if_neg (by decide)]
theorem rr1 (K f : Nat) (r : SRange) : nspeculumref01_CheckRange_l0_0 K r (f + 2) 1 = if r.Hi < -1000000000000000 then some (.inl ()) else (if 1000000000000000 < r.Hi then some (.inl ()) else some (.inr ())) := by
  rw [nspeculumref01_CheckRange_l0_0.eq_2, if_pos (by decide), if_neg (by decide), if_pos rfl, show w64 (1 + 1) = 2 by decide, rr2]
theorem rr_l (K f : Nat) (r : SRange) : nspeculumref01_CheckRange_l0_0 K r (f + 3) 0 = some (if inN r.Lo ∧ inN r.Hi then .inr () else .inl ()) := by
  rw [nspeculumref01_CheckRange_l0_0.eq_2, if_pos (by decide), if_pos rfl, show w64 (0 + 1) = 1 by decide, rr1]
  unfold inN
  by_cases c1 : r.Lo < -1000000000000000
  · rw [if_pos c1, if_neg (by omega)]
  · rw [if_neg c1]
    by_cases c2 : 1000000000000000 < r.Lo
    · rw [if_pos c2, if_neg (by omega)]
    · rw [if_neg c2]
      by_cases c3 : r.Hi < -1000000000000000
      · rw [if_pos c3, if_neg (by omega)]
      · rw [if_neg c3]
        by_cases c4 : 1000000000000000 < r.Hi
        · rw [if_pos c4, if_neg (by omega)]
        · rw [if_neg c4, if_pos (by omega)]
theorem range_ref (k : Nat) (hk : 100 < k) (r : SRange) : nspeculumref01_CheckRange k r = some (chk r) := by
  unfold nspeculumref01_CheckRange chk
  have e := rr_l k (k - 3) r
  rw [show k - 3 + 3 = k by omega] at e
  rw [e, Option.bind_some]
  by_cases h : inN r.Lo ∧ inN r.Hi
  · rw [if_pos h, if_pos h]
    change (if r.Hi < r.Lo then some 9 else some 0) = _
    by_cases c3 : r.Hi < r.Lo
    · rw [if_pos c3, if_pos c3]
    · rw [if_neg c3, if_neg c3]
  · rw [if_neg h, if_neg h]
def firstE : List SRange → Int
  | [] => 0
  | r :: l => if chk r = 0 then firstE l else chk r
def sumE (e : Int) : Sum Int Unit := if e = 0 then .inr () else .inl e
theorem firstE_zero : ∀ (l : List SRange), firstE l = 0 → ∀ r ∈ l, chk r = 0
  | [], _, r, h => by cases h
  | s :: l, h, r, hr => by
    unfold firstE at h
    by_cases hs : chk s = 0
    · rw [if_pos hs] at h
      rcases List.mem_cons.1 hr with rfl | hr
      · exact hs
      · exact firstE_zero l h r hr
    · rw [if_neg hs] at h; exact absurd h hs
theorem l0P (k : Nat) (l : List SRange) (hb : ∀ r ∈ l, Bd r) (hl : l.length ≤ 43) : ∀ (d fuel i : Nat), l.length = i + d → d < fuel →
    nsupport_PeakToValley_l0_0 k l fuel (i : Int) = some (sumE (firstE (l.drop i))) := by
  intro d
  induction d with
  | zero =>
    intro fuel i h hf
    obtain ⟨g, rfl⟩ : ∃ g, fuel = g + 1 := ⟨fuel - 1, by omega⟩
    rw [nsupport_PeakToValley_l0_0.eq_2, if_neg (by omega), List.drop_eq_nil_of_le (by omega)]; rfl
  | succ d ih =>
    intro fuel i h hf
    obtain ⟨g, rfl⟩ : ∃ g, fuel = g + 1 := ⟨fuel - 1, by omega⟩
    have hm : l.getD i default ∈ l := by rw [List.getD_eq_getElem?_getD, List.getElem?_eq_getElem (show i < l.length by omega)]; exact List.getElem_mem _
    rw [nsupport_PeakToValley_l0_0.eq_2, if_pos (by omega), if_pos (by omega), Int.toNat_natCast, range_num k (hb _ hm), Option.bind_some, w64_succ (by omega), ih g (i + 1) (by omega) (by omega), drop_get (y := l) (i := i) (by omega) default, firstE]
    by_cases hs : chk (l.getD i default) = 0
    · rw [if_pos hs, if_pos hs]
    · rw [if_neg hs, if_neg hs]; unfold sumE; rw [if_neg hs]
theorem l0R (k : Nat) (hk : 100 < k) (l : List SRange) (hl : l.length ≤ 43) : ∀ (d fuel i : Nat), l.length = i + d → d < fuel →
    nspeculumref07_PeakToValley_l0_0 k l fuel (i : Int) = some (sumE (firstE (l.drop i))) := by
  intro d
  induction d with
  | zero =>
    intro fuel i h hf
    obtain ⟨g, rfl⟩ : ∃ g, fuel = g + 1 := ⟨fuel - 1, by omega⟩
    rw [nspeculumref07_PeakToValley_l0_0.eq_2, if_neg (by omega), List.drop_eq_nil_of_le (by omega)]; rfl
  | succ d ih =>
    intro fuel i h hf
    obtain ⟨g, rfl⟩ : ∃ g, fuel = g + 1 := ⟨fuel - 1, by omega⟩
    rw [nspeculumref07_PeakToValley_l0_0.eq_2, if_pos (by omega), if_pos (by omega), Int.toNat_natCast, range_ref k hk, Option.bind_some, w64_succ (by omega), ih g (i + 1) (by omega) (by omega), drop_get (y := l) (i := i) (by omega) default, firstE]
    by_cases hs : chk (l.getD i default) = 0
    · rw [if_pos hs, if_pos hs]
    · rw [if_neg hs, if_neg hs]; unfold sumE; rw [if_neg hs]

/- Each two. -/
def stp (i j : Nat) (a r : SRange) (b : Int × Int) : Int × Int := if i = j then b else (maxI b.1 (w64 (a.Lo - r.Hi)), maxI b.2 (w64 (a.Hi - r.Lo)))
def st2 (i : Nat) (a : SRange) : Nat → List SRange → Int × Int → Int × Int
  | _, [], b => b
  | j, r :: rs, b => st2 i a (j + 1) rs (stp i j a r b)
def st1 (l : List SRange) : Nat → List SRange → Int × Int → Int × Int
  | _, [], b => b
  | i, r :: rs, b => st1 l (i + 1) rs (st2 i r 0 l b)
theorem l2P (k : Nat) (l : List SRange) (hl : l.length ≤ 43) (i : Nat) : ∀ (d fuel j : Nat) (b : Int × Int), l.length = j + d → d < fuel →
    nsupport_PeakToValley_l2_0 k l (i : Int) fuel b.1 b.2 (j : Int) = some (st2 i (l.getD i default) j (l.drop j) b) := by
  intro d
  induction d with
  | zero =>
    intro fuel j b h hf
    obtain ⟨g, rfl⟩ : ∃ g, fuel = g + 1 := ⟨fuel - 1, by omega⟩
    rw [nsupport_PeakToValley_l2_0.eq_2, if_neg (by omega), List.drop_eq_nil_of_le (by omega)]; rfl
  | succ d ih =>
    intro fuel j b h hf
    obtain ⟨g, rfl⟩ : ∃ g, fuel = g + 1 := ⟨fuel - 1, by omega⟩
    rw [nsupport_PeakToValley_l2_0.eq_2, if_pos (by omega), if_pos (by omega), w64_succ (by omega), Int.toNat_natCast, Int.toNat_natCast, drop_get (y := l) (i := j) (by omega) default, st2]
    unfold stp
    by_cases c : i = j
    · rw [if_pos (by omega), if_pos c, ih g (j + 1) b (by omega) (by omega)]
    · rw [if_neg (by omega), if_neg c, ← ih g (j + 1) _ (by omega) (by omega)]
theorem l2R (k : Nat) (l : List SRange) (hl : l.length ≤ 43) (i : Nat) (hi : i < l.length) : ∀ (d fuel j : Nat) (b : Int × Int), l.length = j + d → d < fuel →
    nspeculumref07_PeakToValley_l2_0 k l (i : Int) fuel b.1 b.2 (j : Int) = some (st2 i (l.getD i default) j (l.drop j) b) := by
  intro d
  induction d with
  | zero =>
    intro fuel j b h hf
    obtain ⟨g, rfl⟩ : ∃ g, fuel = g + 1 := ⟨fuel - 1, by omega⟩
    rw [nspeculumref07_PeakToValley_l2_0.eq_2, if_neg (by omega), List.drop_eq_nil_of_le (by omega)]; rfl
  | succ d ih =>
    intro fuel j b h hf
    obtain ⟨g, rfl⟩ : ∃ g, fuel = g + 1 := ⟨fuel - 1, by omega⟩
    rw [nspeculumref07_PeakToValley_l2_0.eq_2, if_pos (by omega), w64_succ (by omega), Int.toNat_natCast, Int.toNat_natCast, drop_get (y := l) (i := j) (by omega) default, st2]
    unfold stp
    by_cases c : i = j
    · rw [if_pos (by omega), if_pos c, ih g (j + 1) b (by omega) (by omega)]
    · rw [if_neg (by omega), if_neg c, if_pos (by omega), if_pos (by omega), ← ih g (j + 1) _ (by omega) (by omega)]
theorem l1P (k : Nat) (hk : 100 < k) (l : List SRange) (hl : l.length ≤ 43) : ∀ (d fuel i : Nat) (b : Int × Int), l.length = i + d → d < fuel →
    nsupport_PeakToValley_l1_0 k l fuel b.1 b.2 (i : Int) = some (st1 l i (l.drop i) b) := by
  intro d
  induction d with
  | zero =>
    intro fuel i b h hf
    obtain ⟨g, rfl⟩ : ∃ g, fuel = g + 1 := ⟨fuel - 1, by omega⟩
    rw [nsupport_PeakToValley_l1_0.eq_2, if_neg (by omega), List.drop_eq_nil_of_le (by omega)]; rfl
  | succ d ih =>
    intro fuel i b h hf
    obtain ⟨g, rfl⟩ : ∃ g, fuel = g + 1 := ⟨fuel - 1, by omega⟩
    rw [nsupport_PeakToValley_l1_0.eq_2, if_pos (by omega), if_pos (by omega), show nsupport_PeakToValley_l2_0 k l (i : Int) k b.1 b.2 0 = _ from l2P k l hl i l.length k 0 b (by omega) (by omega), Option.bind_some, w64_succ (by omega), ih g (i + 1) _ (by omega) (by omega), List.drop_zero, drop_get (y := l) (i := i) (by omega) default, st1]
theorem l1R (k : Nat) (hk : 100 < k) (l : List SRange) (hl : l.length ≤ 43) : ∀ (d fuel i : Nat) (b : Int × Int), l.length = i + d → d < fuel →
    nspeculumref07_PeakToValley_l1_0 k l fuel b.1 b.2 (i : Int) = some (st1 l i (l.drop i) b) := by
  intro d
  induction d with
  | zero =>
    intro fuel i b h hf
    obtain ⟨g, rfl⟩ : ∃ g, fuel = g + 1 := ⟨fuel - 1, by omega⟩
    rw [nspeculumref07_PeakToValley_l1_0.eq_2, if_neg (by omega), List.drop_eq_nil_of_le (by omega)]; rfl
  | succ d ih =>
    intro fuel i b h hf
    obtain ⟨g, rfl⟩ : ∃ g, fuel = g + 1 := ⟨fuel - 1, by omega⟩
    rw [nspeculumref07_PeakToValley_l1_0.eq_2, if_pos (by omega), show nspeculumref07_PeakToValley_l2_0 k l (i : Int) k b.1 b.2 0 = _ from l2R k l hl i (by omega) l.length k 0 b (by omega) (by omega), Option.bind_some, w64_succ (by omega), ih g (i + 1) _ (by omega) (by omega), List.drop_zero, drop_get (y := l) (i := i) (by omega) default, st1]

/- What is between the greatest and the least. -/
theorem maxI_le {a b c : Int} : maxI a b ≤ c ↔ a ≤ c ∧ b ≤ c := by unfold maxI; split <;> omega
theorem le_maxI (a b : Int) : a ≤ maxI a b ∧ b ≤ maxI a b := by unfold maxI; split <;> omega
theorem minI_le (a b : Int) : minI a b ≤ a ∧ minI a b ≤ b := by unfold minI; split <;> omega
theorem maxI_or (a b : Int) : maxI a b = a ∨ maxI a b = b := by unfold maxI; split <;> omega
theorem minI_or (a b : Int) : minI a b = a ∨ minI a b = b := by unfold minI; split <;> omega
theorem st2_le (i : Nat) (a : SRange) (C : Int) : ∀ (rs : List SRange) (j : Nat) (b : Int × Int), b.1 ≤ C → (∀ m, m < rs.length → i ≠ j + m → w64 (a.Lo - (rs.getD m default).Hi) ≤ C) → (st2 i a j rs b).1 ≤ C
  | [], j, b, hb, _ => hb
  | r :: rs, j, b, hb, h => by
    rw [st2]
    refine st2_le i a C rs (j + 1) _ ?_ fun m hm hi => ?_
    · unfold stp
      by_cases c : i = j
      · rw [if_pos c]; exact hb
      · rw [if_neg c]; exact maxI_le.2 ⟨hb, h 0 (by simp) (by omega)⟩
    · have := h (m + 1) (by simpa using hm) (by omega)
      simpa using this
theorem st2_ge (i : Nat) (a : SRange) : ∀ (rs : List SRange) (j : Nat) (b : Int × Int), b.2 ≤ (st2 i a j rs b).2 ∧ (∀ m, m < rs.length → i ≠ j + m → w64 (a.Hi - (rs.getD m default).Lo) ≤ (st2 i a j rs b).2)
  | [], j, b => ⟨Int.le_refl _, fun m hm => absurd hm (Nat.not_lt_zero _)⟩
  | r :: rs, j, b => by
    rw [st2]
    have ih := st2_ge i a rs (j + 1) (stp i j a r b)
    have hs : b.2 ≤ (stp i j a r b).2 := by
      unfold stp
      by_cases c : i = j
      · rw [if_pos c]; exact Int.le_refl _
      · rw [if_neg c]; exact (le_maxI _ _).1
    refine ⟨Int.le_trans hs ih.1, fun m hm hi => ?_⟩
    cases m with
    | zero =>
      refine Int.le_trans ?_ ih.1
      unfold stp
      rw [if_neg (by omega)]
      exact (le_maxI _ _).2
    | succ m => simpa using ih.2 m (by simpa using hm) (by omega)
theorem st1_le (l : List SRange) (C : Int) : ∀ (rs : List SRange) (i : Nat) (b : Int × Int), b.1 ≤ C → (∀ n, n < rs.length → ∀ m, m < l.length → i + n ≠ m → w64 ((rs.getD n default).Lo - (l.getD m default).Hi) ≤ C) → (st1 l i rs b).1 ≤ C
  | [], i, b, hb, _ => hb
  | r :: rs, i, b, hb, h => by
    rw [st1]
    refine st1_le l C rs (i + 1) _ ?_ fun n hn m hm hi => ?_
    · exact st2_le i r C l 0 b hb fun m hm hi => by simpa using h 0 (by simp) m hm (by omega)
    · simpa using h (n + 1) (by simpa using hn) m hm (by omega)
theorem st1_ge (l : List SRange) : ∀ (rs : List SRange) (i : Nat) (b : Int × Int), b.2 ≤ (st1 l i rs b).2 ∧ (∀ n, n < rs.length → ∀ m, m < l.length → i + n ≠ m → w64 ((rs.getD n default).Hi - (l.getD m default).Lo) ≤ (st1 l i rs b).2)
  | [], i, b => ⟨Int.le_refl _, fun n hn => absurd hn (Nat.not_lt_zero _)⟩
  | r :: rs, i, b => by
    rw [st1]
    have ih := st1_ge l rs (i + 1) (st2 i r 0 l b)
    have h2 := st2_ge i r l 0 b
    refine ⟨Int.le_trans h2.1 ih.1, fun n hn m hm hi => ?_⟩
    cases n with
    | zero => exact Int.le_trans (by simpa using h2.2 m hm (by omega)) ih.1
    | succ n => simpa using ih.2 n (by simpa using hn) m hm (by omega)
theorem chk_zero {r : SRange} (h : chk r = 0) : inN r.Lo ∧ inN r.Hi ∧ r.Lo ≤ r.Hi := by
  unfold chk at h
  by_cases c : inN r.Lo ∧ inN r.Hi
  · rw [if_pos c] at h
    by_cases c3 : r.Hi < r.Lo
    · rw [if_pos c3] at h; exact absurd h (by decide)
    · exact ⟨c.1, c.2, by omega⟩
  · rw [if_neg c] at h; exact absurd h (by decide)
def mo (a m : Int) : Int := if a.tmod m < 0 then a.tmod m + m else a.tmod m
theorem mo_bd (a : Int) {m : Int} (hm : 0 < m) : 0 ≤ mo a m ∧ mo a m < m := by
  unfold mo
  have h1 := Int.tmod_lt_of_pos a hm
  have h2 := Int.lt_tmod_of_pos a hm
  split <;> omega
theorem mod_any (k : Nat) (a : Int) {m : Int} (hm : 0 < m) (hm2 : m ≤ 3000000000000000) : nspeculumbase_Mod k a m = some (mo a m) := by
  unfold nspeculumbase_Mod mo
  have h1 := Int.tmod_lt_of_pos a hm
  have h2 := Int.lt_tmod_of_pos a hm
  rw [if_pos (by omega)]
  by_cases c : a.tmod m < 0
  · rw [if_pos c, if_pos c, w64_id (by omega) (by omega)]
  · rw [if_neg c, if_neg c]
def nn (l : List SRange) (c : List Int) (i : Nat) : Int := (l.getD i default).Lo + mo (c.getD i 0) ((l.getD i default).Hi - (l.getD i default).Lo + 1)
theorem nn_bd {l : List SRange} (h : ∀ r ∈ l, chk r = 0) (c : List Int) {i : Nat} (hi : i < l.length) : (l.getD i default).Lo ≤ nn l c i ∧ nn l c i ≤ (l.getD i default).Hi ∧ inN (l.getD i default).Lo ∧ inN (l.getD i default).Hi ∧ (l.getD i default).Lo ≤ (l.getD i default).Hi := by
  have hm : l.getD i default ∈ l := by rw [List.getD_eq_getElem?_getD, List.getElem?_eq_getElem hi]; exact List.getElem_mem _
  have hz := chk_zero (h _ hm)
  have := mo_bd (c.getD i 0) (m := (l.getD i default).Hi - (l.getD i default).Lo + 1) (by omega)
  unfold nn
  exact ⟨by omega, by omega, hz.1, hz.2.1, hz.2.2⟩
theorem pick_l (k : Nat) (l : List SRange) (c : List Int) (q : SRange × Int) (h : ∀ r ∈ l, chk r = 0) (hl : l.length ≤ 43) (hc : l.length ≤ c.length) : ∀ (d fuel i : Nat) (lo hi : Int), l.length = i + d → d < fuel →
    ∃ hi' lo', nspeculumlaw07_SupportPeaks_l0_0 k l c q fuel lo (i : Int) hi = some (hi', lo') ∧ hi ≤ hi' ∧ lo' ≤ lo ∧ (∀ j, i ≤ j → j < l.length → nn l c j ≤ hi' ∧ lo' ≤ nn l c j) ∧ (hi' = hi ∨ ∃ j, j < l.length ∧ hi' = nn l c j) ∧ (lo' = lo ∨ ∃ j, j < l.length ∧ lo' = nn l c j) := by
  intro d
  induction d with
  | zero =>
    intro fuel i lo hi e hf
    obtain ⟨g, rfl⟩ : ∃ g, fuel = g + 1 := ⟨fuel - 1, by omega⟩
    rw [nspeculumlaw07_SupportPeaks_l0_0.eq_2, if_neg (by omega)]
    exact ⟨hi, lo, rfl, Int.le_refl _, Int.le_refl _, fun j h1 h2 => by omega, .inl rfl, .inl rfl⟩
  | succ d ih =>
    intro fuel i lo hi e hf
    obtain ⟨g, rfl⟩ : ∃ g, fuel = g + 1 := ⟨fuel - 1, by omega⟩
    have hb := nn_bd h c (i := i) (by omega)
    unfold inN at hb
    rw [nspeculumlaw07_SupportPeaks_l0_0.eq_2, if_pos (by omega), if_pos (by omega), if_pos (by omega), Int.toNat_natCast, w64_id (n := (l.getD i default).Hi - (l.getD i default).Lo) (by omega) (by omega), w64_id (n := (l.getD i default).Hi - (l.getD i default).Lo + 1) (by omega) (by omega), mod_any k _ (by omega) (by omega), Option.bind_some]
    change ∃ hi' lo', nspeculumlaw07_SupportPeaks_l0_0 k l c q g (minI lo (w64 (nn l c i))) (w64 ((i : Int) + 1)) (maxI hi (w64 (nn l c i))) = _ ∧ _
    rw [w64_id (n := nn l c i) (by omega) (by omega), w64_succ (by omega)]
    obtain ⟨hi', lo', e1, e2, e3, e4, e5, e6⟩ := ih g (i + 1) (minI lo (nn l c i)) (maxI hi (nn l c i)) (by omega) (by omega)
    have m1 := le_maxI hi (nn l c i)
    have m2 := minI_le lo (nn l c i)
    refine ⟨hi', lo', e1, by omega, by omega, fun j h1 h2 => ?_, ?_, ?_⟩
    · by_cases hj : j = i
      · subst hj; omega
      · exact e4 j (by omega) h2
    · rcases e5 with e5 | e5
      · rcases maxI_or hi (nn l c i) with m | m
        · exact .inl (e5.trans m)
        · exact .inr ⟨i, by omega, e5.trans m⟩
      · exact .inr e5
    · rcases e6 with e6 | e6
      · rcases minI_or lo (nn l c i) with m | m
        · exact .inl (e6.trans m)
        · exact .inr ⟨i, by omega, e6.trans m⟩
      · exact .inr e6
theorem dup (k : Nat) (l : List SRange) (c : List Int) (q : SRange × Int) : ∀ (fuel : Nat) (lo i hi : Int), nspeculumlaw07_SupportPeaks_l0_1 k l c q fuel lo i hi = nspeculumlaw07_SupportPeaks_l0_0 k l c q fuel lo i hi := by
  intro fuel
  induction fuel with
  | zero => intro lo i hi; rfl
  | succ g ih => intro lo i hi; simp only [nspeculumlaw07_SupportPeaks_l0_1.eq_2, nspeculumlaw07_SupportPeaks_l0_0.eq_2, ih]

/- The law. -/
def inR (a b n : Int) : Bool := decide (a ≤ n ∧ n ≤ b)
theorem within_base (k : Nat) (a b c : Int) : nspeculumbase_Within k a b c = some (inR b c a) := by
  unfold nspeculumbase_Within inR
  by_cases h : b ≤ a
  · rw [if_pos h]; simp [h]
  · rw [if_neg h]; simp [h]
theorem areWithin_1 (k : Nat) (hk : 100 < k) (a b x : Int) : nsupport_areWithin k a b [x] = some (inR a b x) := by
  obtain ⟨g, rfl⟩ : ∃ g, k = g + 2 := ⟨k - 2, by omega⟩
  unfold nsupport_areWithin inR
  rw [nsupport_areWithin_l0_0.eq_2, if_pos (by simp), if_pos (by simp)]
  change ((if x < a then some (.inl ()) else (if b < x then some (.inl ()) else nsupport_areWithin_l0_0 (g + 2) a b [x] (g + 1) (w64 (0 + 1)))) : Option (Sum Unit Unit)).bind _ = _
  by_cases h1 : x < a
  · rw [if_pos h1, decide_eq_false (by omega)]; rfl
  · rw [if_neg h1]
    by_cases h2 : b < x
    · rw [if_pos h2, decide_eq_false (by omega)]; rfl
    · rw [if_neg h2, decide_eq_true (by omega)]; rfl
def ap (l : List SRange) : SRange := ⟨(st1 l 0 l (0, 0)).1, (st1 l 0 l (0, 0)).2⟩
def ptv (l : List SRange) : SRange × Int := match inR 1 40 l.length with
  | false => (⟨0, 0⟩, 10)
  | true => if firstE l = 0 then (if chk (ap l) = 0 then (ap l, 0) else (⟨0, 0⟩, 8)) else (⟨0, 0⟩, firstE l)
def Box (C : Int) (b : Int × Int) : Prop := 0 ≤ b.1 ∧ b.1 ≤ C ∧ 0 ≤ b.2 ∧ b.2 ≤ C
theorem st2_in (i : Nat) (a : SRange) (C : Int) : ∀ (rs : List SRange) (j : Nat) (b : Int × Int), Box C b → (∀ r ∈ rs, w64 (a.Lo - r.Hi) ≤ C ∧ w64 (a.Hi - r.Lo) ≤ C) → Box C (st2 i a j rs b)
  | [], j, b, hb, _ => hb
  | r :: rs, j, b, hb, h => by
    rw [st2]
    refine st2_in i a C rs (j + 1) _ ?_ fun q hq => h q (List.mem_cons_of_mem _ hq)
    have h0 := h r (List.mem_cons_self ..)
    unfold stp
    by_cases c : i = j
    · rw [if_pos c]; exact hb
    · rw [if_neg c]
      have m1 := le_maxI b.1 (w64 (a.Lo - r.Hi))
      have m2 := le_maxI b.2 (w64 (a.Hi - r.Lo))
      exact ⟨Int.le_trans hb.1 m1.1, maxI_le.2 ⟨hb.2.1, h0.1⟩, Int.le_trans hb.2.2.1 m2.1, maxI_le.2 ⟨hb.2.2.2, h0.2⟩⟩
theorem st1_in (l : List SRange) (C : Int) : ∀ (rs : List SRange) (i : Nat) (b : Int × Int), Box C b → (∀ a ∈ rs, ∀ r ∈ l, w64 (a.Lo - r.Hi) ≤ C ∧ w64 (a.Hi - r.Lo) ≤ C) → Box C (st1 l i rs b)
  | [], i, b, hb, _ => hb
  | r :: rs, i, b, hb, h => by
    rw [st1]
    exact st1_in l C rs (i + 1) _ (st2_in i r C l 0 b hb fun q hq => h r (List.mem_cons_self ..) q hq) fun a ha q hq => h a (List.mem_cons_of_mem _ ha) q hq
theorem ap_box {l : List SRange} (h : firstE l = 0) : Box 2000000000000000 (st1 l 0 l (0, 0)) := by
  have hz := firstE_zero l h
  refine st1_in l _ l 0 (0, 0) ⟨by decide, by decide, by decide, by decide⟩ fun a ha r hr => ?_
  have h1 := chk_zero (hz a ha)
  have h2 := chk_zero (hz r hr)
  unfold inN at h1 h2
  rw [w64_id (by omega) (by omega), w64_id (by omega) (by omega)]; omega
theorem ap_bd {l : List SRange} (h : firstE l = 0) : Bd (ap l) := by
  have hb := ap_box h
  unfold Box at hb
  unfold Bd In64
  show (_ ≤ (st1 l 0 l (0, 0)).1 ∧ (st1 l 0 l (0, 0)).1 ≤ _) ∧ (_ ≤ (st1 l 0 l (0, 0)).2 ∧ (st1 l 0 l (0, 0)).2 ≤ _)
  omega
theorem ptv_point (k : Nat) (hk : 100 < k) (l : List SRange) (hb : ∀ r ∈ l, Bd r) (hl : l.length ≤ 43) : nsupport_PeakToValley k l = some (ptv l) := by
  unfold nsupport_PeakToValley ptv
  rw [areWithin_1 k hk, Option.bind_some]
  cases h1 : inR 1 40 (l.length : Int) with
  | false => rfl
  | true =>
    rw [if_pos rfl, show nsupport_PeakToValley_l0_0 k l k 0 = _ from l0P k l hb hl l.length k 0 (by omega) (by omega), List.drop_zero, Option.bind_some]
    change (match sumE (firstE l) with | .inl r232 => _ | .inr r233 => _) = _
    unfold sumE
    by_cases h2 : firstE l = 0
    · have e := l1P k hk l hl l.length k 0 (0, 0) (by omega) (by omega)
      rw [List.drop_zero] at e
      rw [if_pos h2]
      change ((nsupport_PeakToValley_l1_0 k l k 0 0 0).bind fun r312 => _) = some (if firstE l = 0 then _ else _)
      rw [show nsupport_PeakToValley_l1_0 k l k 0 0 0 = _ from e, Option.bind_some, if_pos h2]
      rw [show nnumber_CheckRange k (⟨(st1 l 0 l (0, 0)).1, (st1 l 0 l (0, 0)).2⟩ : SRange) = _ from range_num k (ap_bd h2), Option.bind_some]
      change (if chk (ap l) = 0 then some (ap l, 0) else _) = _
      by_cases h3 : chk (ap l) = 0
      · rw [if_pos h3, if_pos h3]
      · rw [if_neg h3, if_neg h3]
    · rw [if_neg h2]
      change some (_, firstE l) = some (if firstE l = 0 then _ else _)
      rw [if_neg h2]
theorem ptv_ref (k : Nat) (hk : 100 < k) (l : List SRange) (hl : l.length ≤ 43) : nspeculumref07_PeakToValley k l = some (ptv l) := by
  unfold nspeculumref07_PeakToValley ptv
  rw [within_base, Option.bind_some]
  cases h1 : inR 1 40 (l.length : Int) with
  | false => rfl
  | true =>
    rw [if_pos rfl, show nspeculumref07_PeakToValley_l0_0 k l k 0 = _ from l0R k hk l hl l.length k 0 (by omega) (by omega), List.drop_zero, Option.bind_some]
    change (match sumE (firstE l) with | .inl r232 => _ | .inr r233 => _) = _
    unfold sumE
    by_cases h2 : firstE l = 0
    · have e := l1R k hk l hl l.length k 0 (0, 0) (by omega) (by omega)
      rw [List.drop_zero] at e
      rw [if_pos h2]
      change ((nspeculumref07_PeakToValley_l1_0 k l k 0 0 0).bind fun r312 => _) = some (if firstE l = 0 then _ else _)
      rw [show nspeculumref07_PeakToValley_l1_0 k l k 0 0 0 = _ from e, Option.bind_some, if_pos h2]
      rw [range_ref k hk, Option.bind_some]
      change (if chk (ap l) = 0 then some (ap l, 0) else _) = _
      by_cases h3 : chk (ap l) = 0
      · rw [if_pos h3, if_pos h3]
      · rw [if_neg h3, if_neg h3]
    · rw [if_neg h2]
      change some (_, firstE l) = some (if firstE l = 0 then _ else _)
      rw [if_neg h2]
theorem ptv_zero {l : List SRange} (h : (ptv l).2 = 0) : 1 ≤ l.length ∧ firstE l = 0 ∧ (ptv l).1 = ap l := by
  unfold ptv at h ⊢
  cases h1 : inR 1 40 (l.length : Int) with
  | false => rw [h1] at h; exact absurd (show (10 : Int) = 0 from h) (by decide)
  | true =>
    rw [h1] at h
    have hb : (1 : Int) ≤ l.length := (of_decide_eq_true h1).1
    change (if firstE l = 0 then (if chk (ap l) = 0 then (ap l, (0 : Int)) else (⟨0, 0⟩, 8)) else (⟨0, 0⟩, firstE l)).2 = 0 at h
    show _ ∧ _ ∧ (if firstE l = 0 then (if chk (ap l) = 0 then (ap l, (0 : Int)) else (⟨0, 0⟩, 8)) else (⟨0, 0⟩, firstE l)).1 = ap l
    by_cases h2 : firstE l = 0
    · rw [if_pos h2] at h ⊢
      by_cases h3 : chk (ap l) = 0
      · rw [if_pos h3]; exact ⟨by omega, h2, rfl⟩
      · rw [if_neg h3] at h; exact absurd (show (8 : Int) = 0 from h) (by decide)
    · rw [if_neg h2] at h; exact absurd h h2
theorem last_any (k : Nat) (hk : 100 < k) (l : List SRange) (c : List Int) (hl : l.length ≤ 43) (hc : l.length ≤ c.length) (h : (ptv l).2 = 0) (q : SRange × Int) :
    ((nspeculumlaw07_SupportPeaks_l0_0 k l c q k 1000000000000000 0 (-1000000000000000)).bind fun r873 => ((nspeculumbase_Within k (w64 (r873.1 - r873.2)) (ptv l).1.Lo (ptv l).1.Hi).bind fun r875 => (some r875))) = some true := by
  obtain ⟨hl1, h2, h3⟩ := ptv_zero h
  have hz := firstE_zero l h2
  obtain ⟨hi, lo, e1, e2, e3, e4, e5, e6⟩ := pick_l k l c q hz hl hc l.length k 0 1000000000000000 (-1000000000000000) (by omega) (by omega)
  rw [show ((0 : Nat) : Int) = 0 from rfl] at e1
  have b0 := nn_bd hz c (i := 0) (by omega)
  have e40 := e4 0 (by omega) (by omega)
  unfold inN at b0
  have hA : ∃ a, a < l.length ∧ hi = nn l c a := by
    rcases e5 with e5 | e5
    · exact ⟨0, by omega, by omega⟩
    · exact e5
  have hB : ∃ b, b < l.length ∧ lo = nn l c b := by
    rcases e6 with e6 | e6
    · exact ⟨0, by omega, by omega⟩
    · exact e6
  obtain ⟨a, ha, ea⟩ := hA
  obtain ⟨b, hb, eb⟩ := hB
  have ba := nn_bd hz c ha
  have bb := nn_bd hz c hb
  unfold inN at ba bb
  rw [e1, Option.bind_some, within_base, Option.bind_some, h3, w64_id (n := hi - lo) (by omega) (by omega)]
  have g1 : (st1 l 0 l (0, 0)).1 ≤ hi - lo := by
    refine st1_le l _ l 0 (0, 0) (by show (0 : Int) ≤ _; omega) fun n hn m hm _ => ?_
    have c1 := e4 n (by omega) hn
    have c2 := e4 m (by omega) hm
    have d1 := nn_bd hz c hn
    have d2 := nn_bd hz c hm
    unfold inN at d1 d2
    rw [w64_id (by omega) (by omega)]; omega
  have g2 : hi - lo ≤ (st1 l 0 l (0, 0)).2 := by
    have := st1_ge l l 0 (0, 0)
    by_cases hab : a = b
    · subst hab
      have h0 : (0 : Int) ≤ _ := this.1
      omega
    · have h0 := this.2 a ha b hb (by omega)
      rw [w64_id (by omega) (by omega)] at h0
      omega
  exact congrArg some (decide_eq_true (show (st1 l 0 l (0, 0)).1 ≤ hi - lo ∧ hi - lo ≤ (st1 l 0 l (0, 0)).2 from ⟨g1, g2⟩))
theorem law_peaks (k : Nat) (hk : 100 < k) (l : List SRange) (hb : ∀ r ∈ l, Bd r) (c : List Int) : nspeculumlaw07_SupportPeaks k l c = some true := by
  have cp : l.length ≤ 43 → nspeculumbase_CopyRanges k l = some l := by
    intro h
    unfold nspeculumbase_CopyRanges
    rw [if_pos (by simp; omega)]; rfl
  unfold nspeculumlaw07_SupportPeaks
  rw [show nawake k = some true from rfl, Option.bind_some, if_pos rfl]
  by_cases c1 : 12 < (l.length : Int)
  · rw [if_pos c1]
    by_cases c2 : (l.length : Int) ≤ 40
    · rw [if_pos c2]
    · rw [if_neg c2]
      by_cases c3 : 43 < (l.length : Int)
      · rw [if_pos c3]
      · rw [if_neg c3, cp (by omega), Option.bind_some, ptv_point k hk l hb (by omega), Option.bind_some, ptv_ref k hk l (by omega), Option.bind_some, if_pos rfl, if_pos (by simp)]
        by_cases h : (ptv l).2 = 0
        · rw [if_pos h]
          by_cases c4 : (c.length : Int) < (l.length : Int)
          · rw [if_pos c4]
          · rw [if_neg c4]; exact last_any k hk l c (by omega) (by omega) h _
        · rw [if_neg h]
  · rw [if_neg c1]
    by_cases c3 : 43 < (l.length : Int)
    · rw [if_pos c3]
    · rw [if_neg c3, cp (by omega), Option.bind_some, ptv_point k hk l hb (by omega), Option.bind_some, ptv_ref k hk l (by omega), Option.bind_some, if_pos rfl, if_pos (by simp)]
      by_cases h : (ptv l).2 = 0
      · rw [if_pos h]
        by_cases c4 : (c.length : Int) < (l.length : Int)
        · rw [if_pos c4]
        · rw [if_neg c4, dup]; exact last_any k hk l c (by omega) (by omega) h _
      · rw [if_neg h]
theorem vc_peaks (l : List SRange) (c : List Int) (hb : ∀ r ∈ l, (In64 r.Lo) ∧ (In64 r.Hi)) : VC Go.Proofs.Try.prog 3 [VV.tr (l.flatMap c_SRange) l.length, VV.tr (c.map vi) c.length] (vb true) := nspeculumlaw07_SupportPeaks_ok _ _ _ _ (law_peaks 1000 (by decide) l hb c)
end Go.Proofs.Ytpaclgmigndilaa.Vg

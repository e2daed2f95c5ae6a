/- Law of maps: the plain functions of the text Gm agree, for all maps. -/
import Derived.Test.YteicfenmfnpmgaaGm
set_option linter.unusedVariables false
set_option linter.unusedSimpArgs false
namespace Go.Proofs.Yteicfenmfnpmgaa.Vg
open Go Go.Proofs.Yteicfenmfnpmgaa.Ev Go.Proofs.Yteicfenmfnpmgaa.Vv

theorem w64_id {n : Int} (h1 : -9223372036854775808 ≤ n) (h2 : n ≤ 9223372036854775807) : w64 n = n := by
  unfold w64 IntKind.wrap
  simp [IntKind.signed, IntKind.bits]
  omega
theorem w64_succ {i : Nat} (h : i < 1000000000000) : w64 ((i : Int) + 1) = ((i + 1 : Nat) : Int) := by
  rw [w64_id (by omega) (by omega)]; omega
theorem within_fig (k : Nat) (a b c : Int) : nfigure_isWithin k a b c = some (decide (b ≤ a ∧ a ≤ c)) := by
  unfold nfigure_isWithin
  by_cases h : b ≤ a
  · rw [if_pos h]; simp [h]
  · rw [if_neg h]; simp [h]
theorem within_base (k : Nat) (a b c : Int) : nspeculumbase_Within k a b c = some (decide (b ≤ a ∧ a ≤ c)) := by
  unfold nspeculumbase_Within
  by_cases h : b ≤ a
  · rw [if_pos h]; simp [h]
  · rw [if_neg h]; simp [h]
def inH (n : Int) : Bool := decide (-100000 ≤ n ∧ n ≤ 100000)
def inQ (n : Int) : Bool := decide (0 ≤ n ∧ n ≤ 1000)
theorem isHeight_any (k : Nat) (a : Int) : nspeculumref06_isHeight k a = some (inH a) := by
  unfold nspeculumref06_isHeight
  rw [within_base]; rfl
theorem areHeights_one (k : Nat) (a : Int) : nfigure_areHeights (k + 2) [a] = some (inH a) := by
  unfold nfigure_areHeights
  rw [nfigure_areHeights_l0_0.eq_2, if_pos (by simp), if_pos (by simp), within_fig, Option.bind_some]
  change (Option.bind (if inH a = true then _ else _) _) = _
  cases inH a with
  | false => rfl
  | true =>
    rw [if_pos rfl, nfigure_areHeights_l0_0.eq_2, if_neg (by rw [w64_id (by omega) (by omega)]; simp)]; rfl

def few1 (n : Nat) : Bool := decide (¬ (10 < n ∧ n ≤ 40) ∧ n ≤ 42)
theorem few_step (n : Nat) (x : Option (Sum Unit Unit)) : (if 10 < (n : Int) then (if (n : Int) ≤ 40 then (some (.inl ())) else (if 42 < (n : Int) then (some (.inl ())) else x)) else (if 42 < (n : Int) then (some (.inl ())) else x)) = (if few1 n = true then x else some (.inl ())) := by
  by_cases h : few1 n = true
  · have h' := of_decide_eq_true h
    rw [if_pos h]
    by_cases h1 : (10 : Int) < (n : Int)
    · rw [if_pos h1, if_neg (by omega), if_neg (by omega)]
    · rw [if_neg h1, if_neg (by omega)]
  · have h' : ¬ (¬ (10 < n ∧ n ≤ 40) ∧ n ≤ 42) := fun e => h (decide_eq_true e)
    rw [if_neg h]
    by_cases h1 : (10 : Int) < (n : Int)
    · rw [if_pos h1]
      by_cases h2 : (n : Int) ≤ 40
      · rw [if_pos h2]
      · rw [if_neg h2, if_pos (by omega)]
    · omega
theorem few_any (k : Nat) (m : SRemovalMap) : ∃ r, nspeculumlaw06_Few (k + 4) m = some r ∧ (r = true → m.Heights.length ≤ 42 ∧ m.Q.length ≤ 42 ∧ m.Weights.length ≤ 42) := by
  unfold nspeculumlaw06_Few
  rw [nspeculumlaw06_Few_l0_0.eq_2, if_pos (by decide), if_pos rfl, few_step]
  by_cases h0 : few1 m.Heights.length = true
  · rw [if_pos h0, nspeculumlaw06_Few_l0_0.eq_2, if_pos (by decide), if_neg (by decide), if_pos (by decide), few_step]
    by_cases h1 : few1 m.Q.length = true
    · rw [if_pos h1, nspeculumlaw06_Few_l0_0.eq_2, if_pos (by decide), if_neg (by decide), if_neg (by decide), if_pos (by decide), few_step]
      by_cases h2 : few1 m.Weights.length = true
      · rw [if_pos h2, nspeculumlaw06_Few_l0_0.eq_2, if_neg (by decide)]
        exact ⟨true, rfl, fun _ => ⟨(of_decide_eq_true h0).2, (of_decide_eq_true h1).2, (of_decide_eq_true h2).2⟩⟩
      · rw [if_neg h2]; exact ⟨false, rfl, fun e => by cases e⟩
    · rw [if_neg h1]; exact ⟨false, rfl, fun e => by cases e⟩
  · rw [if_neg h0]; exact ⟨false, rfl, fun e => by cases e⟩
theorem copyInts_any (k : Nat) (a : List Int) (hl : a.length ≤ 1000000000) : nspeculumbase_CopyInts k a = some a := by
  unfold nspeculumbase_CopyInts
  rw [if_pos (by simpa using hl)]; rfl
theorem mapped_any (k : Nat) (m : SRemovalMap) (h : m.Heights.length ≤ 42 ∧ m.Q.length ≤ 42 ∧ m.Weights.length ≤ 42) : nspeculumlaw06_mapped k m = some m := by
  unfold nspeculumlaw06_mapped
  rw [copyInts_any k _ (by omega), Option.bind_some, copyInts_any k _ (by omega), Option.bind_some, copyInts_any k _ (by omega), Option.bind_some]

/-- What a map has at a place is in range. -/
def okZ (m : SRemovalMap) (i : Nat) : Bool := inH (m.Heights.getD i 0) && (inQ (m.Q.getD i 0) && inQ (m.Weights.getD i 0))
def okR (m : SRemovalMap) : Nat → Nat → Bool
  | 0, _ => true
  | d + 1, i => okZ m i && okR m d (i + 1)
def wsum (m : SRemovalMap) : Nat → Nat → Int
  | 0, _ => 0
  | d + 1, i => m.Weights.getD i 0 + wsum m d (i + 1)
def sumB (b : Bool) : Sum Unit Unit := match b with | true => .inr () | false => .inl ()
theorem checkMap_l (k : Nat) (m : SRemovalMap) (hq : m.Q.length = m.Heights.length) (hw : m.Weights.length = m.Heights.length) (hl : m.Heights.length < 1000000000000) : ∀ (d fuel i : Nat), m.Heights.length = i + d → d < fuel →
    nfigure_CheckMap_l0_0 (k + 2) m fuel (i : Int) = some (sumB (okR m d i)) := by
  intro d
  induction d with
  | zero =>
    intro fuel i h hf
    obtain ⟨g, rfl⟩ : ∃ g, fuel = g + 1 := ⟨fuel - 1, by omega⟩
    rw [nfigure_CheckMap_l0_0.eq_2, if_neg (by omega)]; rfl
  | succ d ih =>
    intro fuel i h hf
    obtain ⟨g, rfl⟩ : ∃ g, fuel = g + 1 := ⟨fuel - 1, by omega⟩
    have i1 := ih g (i + 1) (by omega) (by omega)
    rw [nfigure_CheckMap_l0_0.eq_2, if_pos (by omega), if_pos (by omega), areHeights_one, Option.bind_some, within_fig, within_fig, Option.bind_some, Option.bind_some, w64_succ (by omega), i1, okR, okZ, Int.toNat_natCast]
    change (if inH (m.Heights.getD i 0) = true then (if _ then (if inQ (m.Q.getD i 0) = true then (if _ then (if inQ (m.Weights.getD i 0) = true then _ else _) else _) else _) else _) else _) = _
    rw [if_pos (show 0 ≤ (i : Int) ∧ (i : Int) < (m.Q.length : Int) by omega), if_pos (show 0 ≤ (i : Int) ∧ (i : Int) < (m.Weights.length : Int) by omega)]
    cases inH (m.Heights.getD i 0) <;> cases inQ (m.Q.getD i 0) <;> cases inQ (m.Weights.getD i 0) <;> rfl
theorem okR_at (m : SRemovalMap) : ∀ (d i : Nat), okR m d i = true → ∀ j, i ≤ j → j < i + d → okZ m j = true := by
  intro d
  induction d with
  | zero => intro i _ j h1 h2; omega
  | succ d ih =>
    intro i h j h1 h2
    rw [okR, Bool.and_eq_true] at h
    rcases Nat.lt_or_ge i j with h3 | h3
    · exact ih (i + 1) h.2 j (by omega) (by omega)
    · obtain rfl : i = j := by omega
      exact h.1
theorem okZ_w {m : SRemovalMap} {i : Nat} (h : okZ m i = true) : (0 ≤ m.Q.getD i 0 ∧ m.Q.getD i 0 ≤ 1000) ∧ 0 ≤ m.Weights.getD i 0 ∧ m.Weights.getD i 0 ≤ 1000 := by
  unfold okZ at h
  rw [Bool.and_eq_true, Bool.and_eq_true] at h
  exact ⟨of_decide_eq_true h.2.1, of_decide_eq_true h.2.2⟩
theorem checkMapR_l (k : Nat) (m : SRemovalMap) (hq : m.Q.length = m.Heights.length) (hw : m.Weights.length = m.Heights.length) (hl : m.Heights.length ≤ 40) : ∀ (d fuel i : Nat) (s : Int), m.Heights.length = i + d → d < fuel → 0 ≤ s → s ≤ (i : Int) * 1000 →
    nspeculumref06_CheckMap_l0_0 k m fuel s (i : Int) = some (match okR m d i with | true => .inr (s + wsum m d i) | false => .inl ()) := by
  intro d
  induction d with
  | zero =>
    intro fuel i s h hf h0 h1
    obtain ⟨g, rfl⟩ : ∃ g, fuel = g + 1 := ⟨fuel - 1, by omega⟩
    rw [nspeculumref06_CheckMap_l0_0.eq_2, if_neg (by omega)]
    show some (Sum.inr s) = some (Sum.inr (s + 0))
    rw [Int.add_zero]
  | succ d ih =>
    intro fuel i s h hf h0 h1
    obtain ⟨g, rfl⟩ : ∃ g, fuel = g + 1 := ⟨fuel - 1, by omega⟩
    rw [nspeculumref06_CheckMap_l0_0.eq_2, if_pos (by omega), if_pos (by omega), isHeight_any, Option.bind_some, within_base, within_base, Option.bind_some, Option.bind_some, w64_succ (by omega), okR, Int.toNat_natCast]
    rw [if_pos (show 0 ≤ (i : Int) ∧ (i : Int) < (m.Q.length : Int) by omega), if_pos (show 0 ≤ (i : Int) ∧ (i : Int) < (m.Weights.length : Int) by omega)]
    change (if inH (m.Heights.getD i 0) = true then (if inQ (m.Q.getD i 0) = true then (if inQ (m.Weights.getD i 0) = true then _ else _) else _) else _) = _
    cases hz : okZ m i with
    | true =>
      have hz' := hz
      unfold okZ at hz'
      rw [Bool.and_eq_true, Bool.and_eq_true] at hz'
      have hb := okZ_w hz
      rw [if_pos hz'.1, if_pos hz'.2.1, if_pos hz'.2.2, w64_id (by omega) (by omega), ih g (i + 1) _ (by omega) (by omega) (by omega) (by omega), wsum]
      rw [Bool.true_and, Int.add_assoc]
    | false =>
      unfold okZ at hz
      revert hz
      rw [Bool.false_and]
      cases inH (m.Heights.getD i 0) <;> cases inQ (m.Q.getD i 0) <;> cases inQ (m.Weights.getD i 0) <;> first | (intro _; rfl) | (intro e; cases e)

theorem maxI_zero {x y : Int} (hx : 0 ≤ x) (hy : 0 ≤ y) : 0 ≤ maxI x y ∧ (maxI x y = 0 ↔ x = 0 ∧ y = 0) := by
  unfold maxI
  by_cases h : y > x
  · rw [if_pos h]; omega
  · rw [if_neg h]; omega
theorem max_l (k : Nat) (m : SRemovalMap) (hl : m.Weights.length < 1000000000000) : ∀ (d fuel i : Nat) (x : Int), m.Weights.length = i + d → d < fuel → 0 ≤ x → (∀ j, i ≤ j → j < i + d → 0 ≤ m.Weights.getD j 0) →
    ∃ r, nslices_Max_int_int__l0_0 k m.Weights fuel x (i : Int) = some r ∧ 0 ≤ wsum m d i ∧ (r = 0 ↔ x = 0 ∧ wsum m d i = 0) := by
  intro d
  induction d with
  | zero =>
    intro fuel i x h hf hx _
    obtain ⟨g, rfl⟩ : ∃ g, fuel = g + 1 := ⟨fuel - 1, by omega⟩
    refine ⟨x, ?_, Int.le_refl _, ?_⟩
    · rw [nslices_Max_int_int__l0_0.eq_2, if_neg (by omega)]
    · show x = 0 ↔ x = 0 ∧ (0 : Int) = 0
      simp
  | succ d ih =>
    intro fuel i x h hf hx hW
    obtain ⟨g, rfl⟩ : ∃ g, fuel = g + 1 := ⟨fuel - 1, by omega⟩
    have hi := hW i (by omega) (by omega)
    have hm := maxI_zero hx hi
    obtain ⟨r, e1, e2, e3⟩ := ih g (i + 1) (maxI x (m.Weights.getD i 0)) (by omega) (by omega) hm.1 (fun j h1 h2 => hW j (by omega) (by omega))
    refine ⟨r, ?_, ?_, ?_⟩
    · rw [nslices_Max_int_int__l0_0.eq_2, if_pos (by omega), if_pos (by omega), w64_succ (by omega), Int.toNat_natCast]; exact e1
    · rw [wsum]; omega
    · rw [e3, hm.2, wsum]; omega
theorem okR_W {m : SRemovalMap} {d i : Nat} (h : okR m d i = true) (j : Nat) (h1 : i ≤ j) (h2 : j < i + d) : 0 ≤ m.Weights.getD j 0 := (okZ_w (okR_at m d i h j h1 h2)).2.1
theorem wsum_bd (m : SRemovalMap) : ∀ (d i : Nat), okR m d i = true → 0 ≤ wsum m d i ∧ wsum m d i ≤ (d : Int) * 1000 := by
  intro d
  induction d with
  | zero => intro i _; exact ⟨Int.le_refl _, by show (0 : Int) ≤ _; omega⟩
  | succ d ih =>
    intro i h
    rw [okR, Bool.and_eq_true] at h
    have h1 := okZ_w h.1
    have h2 := ih (i + 1) h.2
    rw [wsum]; omega
/-- The fault of a map. -/
def mapE (m : SRemovalMap) : Int :=
  if 1 ≤ m.Heights.length ∧ m.Heights.length ≤ 40 then (if m.Q.length = m.Heights.length then (if m.Weights.length = m.Heights.length then (match okR m m.Heights.length 0 with | true => (if wsum m m.Heights.length 0 = 0 then 11 else 0) | false => 2) else 10) else 10) else 10
theorem checkMap_any (k : Nat) (m : SRemovalMap) (hk : 50 ≤ k) : nfigure_CheckMap (k + 2) m = some (mapE m) ∧ nspeculumref06_CheckMap (k + 2) m = some (mapE m) := by
  unfold nfigure_CheckMap nspeculumref06_CheckMap mapE
  rw [within_fig, within_base, Option.bind_some, Option.bind_some]
  by_cases h0 : 1 ≤ m.Heights.length ∧ m.Heights.length ≤ 40
  · have h0' : decide ((1 : Int) ≤ (m.Heights.length : Int) ∧ (m.Heights.length : Int) ≤ 40) = true := decide_eq_true (by omega)
    rw [h0', if_pos rfl, if_pos rfl, if_pos h0]
    by_cases h1 : m.Q.length = m.Heights.length
    · rw [if_pos (show (m.Q.length : Int) = (m.Heights.length : Int) by omega), if_pos (show (m.Q.length : Int) = (m.Heights.length : Int) by omega), if_pos h1]
      by_cases h2 : m.Weights.length = m.Heights.length
      · rw [if_pos (show (m.Weights.length : Int) = (m.Heights.length : Int) by omega), if_pos (show (m.Weights.length : Int) = (m.Heights.length : Int) by omega), if_pos h2]
        have e1 : nfigure_CheckMap_l0_0 (k + 2) m (k + 2) 0 = some (sumB (okR m m.Heights.length 0)) := checkMap_l k m h1 h2 (by omega) m.Heights.length (k + 2) 0 (by omega) (by omega)
        have e2 : nspeculumref06_CheckMap_l0_0 (k + 2) m (k + 2) 0 0 = some (match okR m m.Heights.length 0 with | true => .inr (0 + wsum m m.Heights.length 0) | false => .inl ()) := checkMapR_l (k + 2) m h1 h2 (by omega) m.Heights.length (k + 2) 0 0 (by omega) (by omega) (by omega) (by omega)
        rw [e1, e2, Option.bind_some, Option.bind_some]
        cases ho : okR m m.Heights.length 0 with
        | false => exact ⟨rfl, rfl⟩
        | true =>
          obtain ⟨d, hd⟩ : ∃ d, m.Heights.length = d + 1 := ⟨m.Heights.length - 1, by omega⟩
          have ho' := ho
          rw [hd, okR, Bool.and_eq_true] at ho'
          have hw0 := okR_W ho 0 (by omega) (by omega)
          obtain ⟨r, f1, f2, f3⟩ := max_l (k + 2) m (by omega) d (k + 2) 1 (m.Weights.getD 0 0) (by omega) (by omega) hw0 (fun j g1 g2 => okR_W ho j (by omega) (by omega))
          have hm : nslices_Max_int_int_ (k + 2) m.Weights = some r := by
            unfold nslices_Max_int_int_
            have f1' : nslices_Max_int_int__l0_0 (k + 2) m.Weights (k + 2) (m.Weights.getD ((0 : Int)).toNat 0) 1 = some r := f1
            rw [if_neg (by omega), if_pos (by omega), f1']; rfl
          have hs : wsum m m.Heights.length 0 = m.Weights.getD 0 0 + wsum m d 1 := by rw [hd, wsum]
          have hz : r = 0 ↔ wsum m m.Heights.length 0 = 0 := by rw [f3, hs]; omega
          show (Option.bind (nslices_Max_int_int_ (k + 2) m.Weights) _ = _) ∧ (if 0 + wsum m m.Heights.length 0 = 0 then some 11 else some 0) = some (if wsum m m.Heights.length 0 = 0 then 11 else 0)
          rw [hm, Option.bind_some, Int.zero_add]
          by_cases h3 : wsum m m.Heights.length 0 = 0
          · rw [if_pos (hz.2 h3), if_pos h3, if_pos h3]; exact ⟨rfl, rfl⟩
          · rw [if_neg (fun e => h3 (hz.1 e)), if_neg h3, if_neg h3]; exact ⟨rfl, rfl⟩
      · rw [if_neg (show ¬ (m.Weights.length : Int) = (m.Heights.length : Int) by omega), if_neg (show ¬ (m.Weights.length : Int) = (m.Heights.length : Int) by omega), if_neg h2]; exact ⟨rfl, rfl⟩
    · rw [if_neg (show ¬ (m.Q.length : Int) = (m.Heights.length : Int) by omega), if_neg (show ¬ (m.Q.length : Int) = (m.Heights.length : Int) by omega), if_neg h1]; exact ⟨rfl, rfl⟩
  · have h0' : decide ((1 : Int) ≤ (m.Heights.length : Int) ∧ (m.Heights.length : Int) ≤ 40) = false := decide_eq_false (by omega)
    rw [h0', if_neg (show ¬ (false = true) by decide), if_neg (show ¬ (false = true) by decide), if_neg h0]; exact ⟨rfl, rfl⟩
theorem mapE_zero {m : SRemovalMap} (h : mapE m = 0) : (1 ≤ m.Heights.length ∧ m.Heights.length ≤ 40) ∧ m.Q.length = m.Heights.length ∧ m.Weights.length = m.Heights.length ∧ okR m m.Heights.length 0 = true ∧ wsum m m.Heights.length 0 ≠ 0 := by
  unfold mapE at h
  by_cases h0 : 1 ≤ m.Heights.length ∧ m.Heights.length ≤ 40
  · rw [if_pos h0] at h
    by_cases h1 : m.Q.length = m.Heights.length
    · rw [if_pos h1] at h
      by_cases h2 : m.Weights.length = m.Heights.length
      · rw [if_pos h2] at h
        cases ho : okR m m.Heights.length 0 with
        | false => rw [ho] at h; cases h
        | true =>
          rw [ho] at h
          by_cases h3 : wsum m m.Heights.length 0 = 0
          · have h' : (if wsum m m.Heights.length 0 = 0 then (11 : Int) else 0) = 0 := h
            rw [if_pos h3] at h'; cases h'
          · exact ⟨h0, h1, h2, rfl, h3⟩
      · rw [if_neg h2] at h; cases h
    · rw [if_neg h1] at h; cases h
  · rw [if_neg h0] at h; cases h

theorem mean_l (k : Nat) (m : SRemovalMap) (hq : m.Q.length = m.Weights.length) (hl : m.Weights.length ≤ 40) : ∀ (d fuel i : Nat) (s t : Int), m.Weights.length = i + d → d < fuel → okR m d i = true → 0 ≤ s → s ≤ (i : Int) * 1000000 → 0 ≤ t → t ≤ (i : Int) * 1000 →
    ∃ s', nfigure_mean_l0_0 k m fuel (i : Int) s t = some (s', t + wsum m d i) ∧ nspeculumref06_Mean_l0_0 k m fuel s t (i : Int) = some (s', t + wsum m d i) ∧ 0 ≤ s' ∧ s' ≤ 40000000 := by
  intro d
  induction d with
  | zero =>
    intro fuel i s t h hf _ h0 h1 h2 h3
    obtain ⟨g, rfl⟩ : ∃ g, fuel = g + 1 := ⟨fuel - 1, by omega⟩
    refine ⟨s, ?_, ?_, h0, by omega⟩
    · rw [nfigure_mean_l0_0.eq_2, if_neg (by omega)]
      show some (s, t) = some (s, t + 0)
      rw [Int.add_zero]
    · rw [nspeculumref06_Mean_l0_0.eq_2, if_neg (by omega)]
      show some (s, t) = some (s, t + 0)
      rw [Int.add_zero]
  | succ d ih =>
    intro fuel i s t h hf ho h0 h1 h2 h3
    obtain ⟨g, rfl⟩ : ∃ g, fuel = g + 1 := ⟨fuel - 1, by omega⟩
    rw [okR, Bool.and_eq_true] at ho
    have hz := okZ_w ho.1
    have p1 : 0 ≤ m.Weights.getD i 0 * m.Q.getD i 0 := Int.mul_nonneg hz.2.1 hz.1.1
    have p2 : m.Weights.getD i 0 * m.Q.getD i 0 ≤ 1000 * 1000 := Int.mul_le_mul hz.2.2 hz.1.2 hz.1.1 (by omega)
    obtain ⟨s', e1, e2, e3, e4⟩ := ih g (i + 1) (s + m.Weights.getD i 0 * m.Q.getD i 0) (t + m.Weights.getD i 0) (by omega) (by omega) ho.2 (by omega) (by omega) (by omega) (by omega)
    rw [Int.add_assoc] at e1 e2
    refine ⟨s', ?_, ?_, e3, e4⟩
    · rw [nfigure_mean_l0_0.eq_2, if_pos (by omega), if_pos (by omega), if_pos (by omega), Int.toNat_natCast, w64_succ (by omega), w64_id (n := m.Weights.getD i 0 * m.Q.getD i 0) (by omega) (by omega), w64_id (by omega) (by omega), w64_id (by omega) (by omega), wsum]
      exact e1
    · rw [nspeculumref06_Mean_l0_0.eq_2, if_pos (by omega), if_pos (by omega), if_pos (by omega), Int.toNat_natCast, w64_succ (by omega), w64_id (n := m.Weights.getD i 0 * m.Q.getD i 0) (by omega) (by omega), w64_id (by omega) (by omega), w64_id (by omega) (by omega), wsum]
      exact e2
theorem gcd_l (k : Nat) : ∀ (n fuel : Nat) (x y : Int), 0 ≤ x → 0 ≤ y → x ≤ 1000000000 → y ≤ 1000000000 → (0 < x ∨ 0 < y) → y < (n : Int) → n ≤ fuel →
    ∃ g, nfigure_divisor_l0_0 k fuel x y = some g ∧ nspeculumbase_Gcd_l0_0 k fuel x y = some g ∧ 0 < g ∧ g ≤ 1000000000 := by
  intro n
  induction n with
  | zero => intro fuel x y _ h1 _ _ _ h _; omega
  | succ n ih =>
    intro fuel x y hx hy bx bY hp hn hf
    obtain ⟨f, rfl⟩ : ∃ f, fuel = f + 1 := ⟨fuel - 1, by omega⟩
    rw [nfigure_divisor_l0_0.eq_2, nspeculumbase_Gcd_l0_0.eq_2]
    by_cases h : y = 0
    · rw [if_pos h, if_pos h]; exact ⟨x, rfl, rfl, by omega, bx⟩
    · rw [if_neg h, if_neg h, if_pos h, if_pos h, Int.tmod_eq_emod_of_nonneg hx]
      have m1 := Int.emod_nonneg x h
      have m2 := Int.emod_lt_of_pos x (show 0 < y by omega)
      exact ih f y (x % y) hy m1 bY (by omega) (.inl (by omega)) (by omega) (by omega)
theorem lowest_any (k : Nat) (x y : Int) (hx : 0 ≤ x) (hy : 0 < y) (bx : x ≤ 1000000000) (bY : y ≤ 1000000000) (hk : y < (k : Int)) : ∃ f, nfigure_lowest k x y = some f ∧ nspeculumbase_Lowest k x y = some f := by
  obtain ⟨g, e1, e2, e3, e4⟩ := gcd_l k k k x y hx (by omega) bx bY (.inr hy) hk (Nat.le_refl _)
  have hd : nfigure_divisor k x y = some g := by
    unfold nfigure_divisor
    rw [e1, Option.bind_some, w64_id (by omega) (by omega)]
    unfold maxI
    rw [if_neg (by omega)]
  have hg : nspeculumbase_Gcd k x y = some g := by
    unfold nspeculumbase_Gcd nspeculumbase_Abs
    rw [e2, Option.bind_some, if_neg (by omega)]; rfl
  unfold nfigure_lowest nspeculumbase_Lowest
  rw [hd, hg, Option.bind_some, Option.bind_some, if_pos (by omega), if_neg (by omega)]
  exact ⟨_, rfl, rfl⟩
theorem mean_any (k : Nat) (m : SRemovalMap) (h : mapE m = 0) (hk : 100000 ≤ k) : ∃ f, nfigure_mean k m = some f ∧ nspeculumref06_Mean k m = some f := by
  obtain ⟨h0, h1, h2, h3, h4⟩ := mapE_zero h
  rw [← h2] at h3 h4
  obtain ⟨s, e1, e2, e3, e4⟩ := mean_l k m (by omega) (by omega) m.Weights.length k 0 0 0 (by omega) (by omega) h3 (by omega) (by omega) (by omega) (by omega)
  have hb := wsum_bd m m.Weights.length 0 h3
  obtain ⟨f, g1, g2⟩ := lowest_any k s (0 + wsum m m.Weights.length 0) e3 (by omega) (by omega) (by omega) (by omega)
  unfold nfigure_mean nspeculumref06_Mean
  have e1' : nfigure_mean_l0_0 k m k 0 0 0 = some (s, 0 + wsum m m.Weights.length 0) := e1
  have e2' : nspeculumref06_Mean_l0_0 k m k 0 0 0 = some (s, 0 + wsum m m.Weights.length 0) := e2
  rw [e1', e2', Option.bind_some, Option.bind_some, g1, g2]
  exact ⟨_, rfl, rfl⟩

theorem law_maps (m : SRemovalMap) : nspeculumlaw06_FigureMaps 200000 m = some true := by
  unfold nspeculumlaw06_FigureMaps nawake
  obtain ⟨r, e1, e2⟩ := few_any 199996 m
  have e1' : nspeculumlaw06_Few 200000 m = some r := e1
  rw [Option.bind_some, if_pos rfl]
  change Option.bind (nspeculumlaw06_Few 200000 m) _ = _
  rw [e1', Option.bind_some]
  cases r with
  | false => rfl
  | true =>
    rw [if_pos rfl]
    change Option.bind (nspeculumlaw06_mapped 200000 m) _ = _
    rw [mapped_any 200000 m (e2 rfl), Option.bind_some]
    obtain ⟨c1, c2⟩ := checkMap_any 199998 m (by omega)
    have c1' : nfigure_CheckMap 200000 m = some (mapE m) := c1
    have c2' : nspeculumref06_CheckMap 200000 m = some (mapE m) := c2
    change Option.bind (nfigure_Mean 200000 m) (fun r508 => Option.bind (nspeculumref06_CheckMap 200000 m) (fun r510 => Option.bind (nfigure_CheckMap 200000 m) _)) = _
    by_cases h : mapE m = 0
    · obtain ⟨f, g1, g2⟩ := mean_any 200000 m h (by omega)
      have hM : nfigure_Mean 200000 m = some (f, 0) := by
        unfold nfigure_Mean
        change Option.bind (nfigure_CheckMap 200000 m) (fun r => if r = 0 then Option.bind (nfigure_mean 200000 m) _ else _) = _
        rw [c1', Option.bind_some, if_pos h, g1]; rfl
      rw [hM, Option.bind_some, c2', Option.bind_some, c1', Option.bind_some, if_pos rfl, if_pos h, if_pos rfl]
      change Option.bind (nspeculumref06_Mean 200000 m) _ = _
      rw [g2, Option.bind_some]
      simp
    · have hM : nfigure_Mean 200000 m = some (⟨0, 0⟩, mapE m) := by
        unfold nfigure_Mean
        change Option.bind (nfigure_CheckMap 200000 m) (fun r => if r = 0 then _ else _) = _
        rw [c1', Option.bind_some, if_neg h]
      rw [hM, Option.bind_some, c2', Option.bind_some, c1', Option.bind_some, if_pos rfl, if_neg h, if_pos rfl]
      rfl
theorem vc_maps (m : SRemovalMap) : VC Go.Proofs.Try.prog 3 [.ag [.tr (m.Heights.map vi) m.Heights.length, .tr (m.Q.map vi) m.Q.length, .tr (m.Weights.map vi) m.Weights.length]] (vb true) :=
  nspeculumlaw06_FigureMaps_ok 200000 m true (law_maps m)
end Go.Proofs.Yteicfenmfnpmgaa.Vg

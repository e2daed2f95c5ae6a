/- The law of the least removal. -/
import Derived.Test.YtmjepoalhmdfjaaF1
import Derived.Test.YtmjepoalhmdfjaaE2
import Derived.Test.YtmjepoalhmdfjaaWb
set_option linter.unusedVariables false
set_option linter.unusedSimpArgs false
namespace Go.Proofs.Ytmjepoalhmdfjaa.Vg
open Go Go.Proofs.Ytmjepoalhmdfjaa.Ev Go.Proofs.Ytmjepoalhmdfjaa.Vv
section
variable {k : Nat} {m : SRemovalMap} {n : Nat}
def OfI (l : SLowerLine) : Prop := (In64 l.Start.Num ∧ In64 l.Start.Den) ∧ In64 l.Slope.Num ∧ In64 l.Slope.Den
theorem isLow_any (hk : 9223372036854775808 < k) (f : SFrac) (h2 : f.Den ≤ 9223372036854775807) : ∃ b, nspeculumbase_IsLowest k f = some b ∧ (b = true → Low f) := by
  unfold nspeculumbase_IsLowest
  by_cases h : 0 < f.Den
  · rw [if_pos h, (gcds k hk (x := f.Num) h h2).1]
    exact ⟨_, rfl, fun e => ⟨h, by have := of_decide_eq_true e; omega⟩⟩
  · rw [if_neg h]; exact ⟨_, rfl, fun e => by cases e⟩
def ofL (f : SFrac) : Bool := decide (f.Den ≤ 1000 ∧ -1000000000 ≤ f.Num ∧ f.Num ≤ 1000000000)
theorem ofL_ref (f : SFrac) (k : Nat) (x : Option (Sum Unit Unit)) : (if 1000 < f.Den then (some (.inl ())) else ((nspeculumbase_Within k f.Num (-1000000000) 1000000000).bind fun r => (if r = true then x else (some (.inl ()))))) = (if ofL f = true then x else some (.inl ())) := by
  unfold ofL
  rw [within_base, Option.bind_some]
  by_cases h1 : 1000 < f.Den
  · rw [if_pos h1, if_neg (by simp; omega)]
  · rw [if_neg h1]
    by_cases h2 : -1000000000 ≤ f.Num ∧ f.Num ≤ 1000000000
    · rw [if_pos (decide_eq_true h2), if_pos (decide_eq_true ⟨by omega, h2⟩)]
    · rw [if_neg (by simpa using h2), if_neg (by simp; omega)]
theorem refLine_any (hk : 9223372036854775808 < k) (l : SLowerLine) (h1 : l.Start.Den ≤ 9223372036854775807) (h2 : l.Slope.Den ≤ 9223372036854775807) : ∃ e, nspeculumref06_CheckLine (k + 2) l = some e ∧ (e = 0 → LO l) := by
  obtain ⟨b1, q1, d1⟩ := isLow_any (k := k + 2) (by omega) l.Start h1
  obtain ⟨b2, q2, d2⟩ := isLow_any (k := k + 2) (by omega) l.Slope h2
  have f0 : nspeculumref06_CheckLine_l0_0 (k + 2) l (k + 2) 0 = some (sumB (b1 && b2)) := by
    rw [nspeculumref06_CheckLine_l0_0.eq_2, if_pos (by decide), if_pos rfl]
    change Option.bind (nspeculumbase_IsLowest (k + 2) l.Start) _ = _
    rw [q1, Option.bind_some]
    cases b1 with
    | false => rfl
    | true =>
      rw [if_pos rfl, nspeculumref06_CheckLine_l0_0.eq_2, if_pos (by decide), if_neg (by decide), if_pos (by decide)]
      change Option.bind (nspeculumbase_IsLowest (k + 2) l.Slope) _ = _
      rw [q2, Option.bind_some]
      cases b2 with
      | false => rfl
      | true =>
        obtain ⟨k', rfl⟩ : ∃ k', k = k' + 1 := ⟨k - 1, by omega⟩
        rw [if_pos rfl, nspeculumref06_CheckLine_l0_0.eq_2, if_neg (by decide)]; rfl
  have e2 : nspeculumref06_CheckLine_l1_0 (k + 2) l (k + 2) 0 = some (sumB (ofL l.Start && ofL l.Slope)) := by
    rw [nspeculumref06_CheckLine_l1_0.eq_2, if_pos (by decide), if_pos rfl, ofL_ref]
    cases h1 : ofL l.Start with
    | false => rfl
    | true =>
      rw [if_pos rfl, nspeculumref06_CheckLine_l1_0.eq_2, if_pos (by decide), if_neg (by decide), if_pos (by decide), ofL_ref]
      cases h2 : ofL l.Slope with
      | false => rfl
      | true =>
        obtain ⟨k', rfl⟩ : ∃ k', k = k' + 1 := ⟨k - 1, by omega⟩
        rw [if_pos rfl, nspeculumref06_CheckLine_l1_0.eq_2, if_neg (by decide)]; rfl
  unfold nspeculumref06_CheckLine
  rw [f0, Option.bind_some]
  cases b1 with
  | false => exact ⟨3, rfl, fun e => by cases e⟩
  | true =>
    cases b2 with
    | false => exact ⟨3, rfl, fun e => by cases e⟩
    | true =>
      change ∃ e, Option.bind (nspeculumref06_CheckLine_l1_0 (k + 2) l (k + 2) 0) _ = _ ∧ _
      rw [e2, Option.bind_some]
      cases h1 : ofL l.Start with
      | false => exact ⟨2, rfl, fun e => by cases e⟩
      | true =>
        cases h2 : ofL l.Slope with
        | false => exact ⟨2, rfl, fun e => by cases e⟩
        | true =>
          have o1 := of_decide_eq_true h1
          have o2 := of_decide_eq_true h2
          exact ⟨0, rfl, fun _ => ⟨d1 rfl, d2 rfl, o1.1, o2.1, by omega, by omega⟩⟩
/-! the table of removals -/
def remT (m : SRemovalMap) (l : SLowerLine) (i : Nat) : List SFrac := (List.range i).map fun p => lw (rem m l p) (dD l)
theorem removal_l (hk : 9223372036854775808 < k) (M : OKM m n) {l : SLowerLine} (h : LO l) : ∀ (d fuel i : Nat), n = i + d → d < fuel → nfigure_Removal_l0_0 k m l fuel (remT m l i) (i : Int) = some (remT m l n) := by
  have hn := M.n2
  have hl := M.ln
  have hd := dD_bd h
  intro d
  induction d with
  | zero =>
    intro fuel i he hf
    obtain ⟨f, rfl⟩ : ∃ f, fuel = f + 1 := ⟨fuel - 1, by omega⟩
    rw [nfigure_Removal_l0_0.eq_2, if_neg (by omega), show i = n by omega]
  | succ d ih =>
    intro fuel i he hf
    obtain ⟨f, rfl⟩ : ∃ f, fuel = f + 1 := ⟨fuel - 1, by omega⟩
    obtain ⟨e1, e2⟩ := remTD_p (k := k) M h (i := i) (by omega)
    have b := rem_bd M h (i := i) (by omega)
    have hlen : (remT m l i).length = i := by simp [remT]
    rw [nfigure_Removal_l0_0.eq_2, if_pos (by omega), e1, Option.bind_some, e2, Option.bind_some, (lowests k hk (x := rem m l i) (y := dD l) (by omega) hd.1 (by omega)).2, Option.bind_some, if_pos (by simp only [hlen, List.length_cons, List.length_nil]; omega), w64_succ (by omega)]
    have : remT m l i ++ [lw (rem m l i) (dD l)] = remT m l (i + 1) := by simp [remT, List.range_succ]
    rw [this]
    exact ih f (i + 1) (by omega) (by omega)
theorem removal_p (hk : 9223372036854775808 < k) (h0 : mapE m = 0) {l : SLowerLine} (h : LO l) : nfigure_Removal (k + 2) m l = some (remT m l m.Heights.length, 0) := by
  have M := mapE_ok h0
  have hn := M.n2
  unfold nfigure_Removal
  have e : nfigure_Removal_l0_0 (k + 2) m l (k + 2) [] 0 = _ := removal_l (by omega) M h m.Heights.length (k + 2) 0 (by omega) (by omega)
  rw [checkLine_p hk h0 h, Option.bind_some, if_pos rfl, e]; rfl
theorem remT_at (m : SRemovalMap) (l : SLowerLine) {i : Nat} (hi : i < n) : (remT m l n).getD i default = lw (rem m l i) (dD l) := by
  simp [remT, List.getD_eq_getElem?_getD, List.getElem?_map, List.getElem?_range hi]
theorem law_l (hk : 9223372036854775808 < k) (M : OKM m n) {l : SLowerLine} (h : LO l) (hb : RB m n l) (e : Int) (r : SFrac × Int) : ∀ (d fuel i : Nat), n = i + d → d < fuel → (∀ p, p < i → 0 ≤ rem m l p) →
    nspeculumlaw06_FigureLeast_l0_0 k m l (remT m l n, e) r fuel (sumF (wr m l) i) (i : Int) = some (.inl true) ∨ ((∀ p, p < n → 0 ≤ rem m l p) ∧ nspeculumlaw06_FigureLeast_l0_0 k m l (remT m l n, e) r fuel (sumF (wr m l) i) (i : Int) = some (.inr (sumF (wr m l) n))) := by
  have hn := M.n2
  have hl := M.ln
  have hw := M.lw
  have hd := dD_bd h
  have hlen : (remT m l n).length = n := by simp [remT]
  intro d
  induction d with
  | zero =>
    intro fuel i he hf hp
    obtain ⟨f, rfl⟩ : ∃ f, fuel = f + 1 := ⟨fuel - 1, by omega⟩
    right
    refine ⟨fun p hpn => hp p (by omega), ?_⟩
    rw [nspeculumlaw06_FigureLeast_l0_0.eq_2, if_neg (show ¬ (i : Int) < ((remT m l n).length : Int) by omega), show i = n by omega]
  | succ d ih =>
    intro fuel i he hf hp
    obtain ⟨f, rfl⟩ : ∃ f, fuel = f + 1 := ⟨fuel - 1, by omega⟩
    have b1 := wr_bd M hb (i := i) (by omega)
    have b2 := wr_sum M hb (i := i) (by omega)
    have b3 := hb i (by omega)
    have b4 := M.w i (by omega)
    obtain ⟨g1, g2, g3, g4⟩ := lwr (r := rem m l i) hd.1
    have g5 := lw_le (x := rem m l i) hd.1
    have g6 := (lw_low (x := rem m l i) hd.1).d
    have e0 : nspeculumlaw06_FigureLeast_l0_0 k m l (remT m l n, e) r (f + 1) (sumF (wr m l) i) (i : Int) = if (lw (rem m l i) (dD l)).Num < 0 then some (.inl true) else nspeculumlaw06_FigureLeast_l0_0 k m l (remT m l n, e) r f (w64 (sumF (wr m l) i + w64 (w64 (ww m i * (lw (rem m l i) (dD l)).Num) * w64 ((w64 (dD l)).tdiv (lw (rem m l i) (dD l)).Den)))) (w64 ((i : Int) + 1)) := by
      rw [nspeculumlaw06_FigureLeast_l0_0.eq_2]
      dsimp only
      rw [if_pos (show (i : Int) < ((remT m l n).length : Int) by omega), if_pos (show 0 ≤ (i : Int) ∧ (i : Int) < ((remT m l n).length : Int) by omega), refRem_p hk M h (by omega), Option.bind_some, Int.toNat_natCast, remT_at m l (by omega), if_pos (by simp), if_pos (show 0 ≤ (i : Int) ∧ (i : Int) < (m.Weights.length : Int) by omega), if_pos (show (lw (rem m l i) (dD l)).Den ≠ 0 by omega)]
      rfl
    rw [e0]
    by_cases c : rem m l i < 0
    · left; rw [if_pos (g1.2 c)]
    · rw [if_neg (fun hh => c (g1.1 hh))]
      have hwn : (ww m i * (lw (rem m l i) (dD l)).Num).natAbs ≤ 20000000000000000 := Nat.le_trans (abs_mul (a := 1000) (b := 20000000000000) (by omega) (by omega)) (by omega)
      have hpr : ww m i * (lw (rem m l i) (dD l)).Num * (dD l).tdiv (lw (rem m l i) (dD l)).Den = wr m l i := by
        rw [Int.mul_assoc, g3]; rfl
      rw [w64_id (n := dD l) (by omega) (by omega), w64_id (n := ww m i * _) (by omega) (by omega), w64_id (n := (dD l).tdiv _) (by omega) (by omega), hpr, w64_id (n := wr m l i) (by omega) (by omega), w64_id (n := sumF (wr m l) i + _) (by omega) (by omega), w64_id (n := (i : Int) + 1) (by omega) (by omega)]
      exact ih f (i + 1) (by omega) (by omega) (fun p hpi => by
        by_cases c2 : p = i
        · subst c2; omega
        · exact hp p (by omega))
theorem fcmp {x1 y1 x2 y2 : Int} (a1 : 0 < y1 ∧ y1 ≤ 1000000) (a2 : 0 < y2 ∧ y2 ≤ 1000000) (b1 : x1.natAbs ≤ 800000000000000000) (b2 : x2.natAbs ≤ 800000000000000000) (hle : x2 * y1 ≤ x1 * y2) :
    ((nspeculumbase_Floor k x1 y1).bind fun r1998 => ((nspeculumbase_Floor k x2 y2).bind fun r2001 => (if r2001 < r1998 then (some true) else (if r1998 = r2001 then (some (decide ((w64 ((w64 (x2 - (w64 (r2001 * y2)))) * y1)) ≤ (w64 ((w64 (x1 - (w64 (r1998 * y1)))) * y2))))) else (some false))))) = some true := by
  obtain ⟨f1, e1, c1, d1, n1⟩ := floor_p (k := k) x1 y1 a1.1 (by omega) (by omega)
  obtain ⟨f2, e2, c2, d2, n2⟩ := floor_p (k := k) x2 y2 a2.1 (by omega) (by omega)
  rw [e1, Option.bind_some, e2, Option.bind_some]
  by_cases h1 : f2 < f1
  · rw [if_pos h1]
  · rw [if_neg h1]
    by_cases h2 : f1 = f2
    · rw [if_pos h2]
      have s1 := small_mul (x := x2 - f2 * y2) (y := y1) (by omega) (by omega)
      have s2 := small_mul (x := x1 - f1 * y1) (y := y2) (by omega) (by omega)
      rw [w64_id (n := f2 * y2) (by omega) (by omega), w64_id (n := f1 * y1) (by omega) (by omega), w64_id (n := x2 - f2 * y2) (by omega) (by omega), w64_id (n := x1 - f1 * y1) (by omega) (by omega), w64_id (n := (x2 - f2 * y2) * y1) (by omega) (by omega), w64_id (n := (x1 - f1 * y1) * y2) (by omega) (by omega), decide_eq_true]
      have e3 : (x2 - f2 * y2) * y1 = x2 * y1 - f2 * y1 * y2 := by grind
      have e4 : (x1 - f1 * y1) * y2 = x1 * y2 - f2 * y1 * y2 := by rw [h2]; grind
      omega
    · have := lt_mul a1.1 a2.1 (show f1 < f2 by omega) d1 c2
      omega
theorem law_least (m : SRemovalMap) (l : SLowerLine) (hl : OfI l) : ∃ K, nspeculumlaw06_FigureLeast K m l = some true := by
  obtain ⟨k, hk⟩ : ∃ k : Nat, 9223372036854775808 < k := ⟨9223372036854775809, by decide⟩
  refine ⟨k + 4, ?_⟩
  unfold nspeculumlaw06_FigureLeast nawake
  obtain ⟨r, e1, e2⟩ := few_any k m
  rw [Option.bind_some, if_pos rfl]
  change Option.bind (nspeculumlaw06_Few (k + 4) m) _ = _
  rw [e1, Option.bind_some]
  cases r with
  | false => rfl
  | true =>
    rw [if_pos rfl]
    change Option.bind (nspeculumref06_CheckMap (k + 4) m) _ = _
    rw [(checkMap_any (k + 2) m (by omega)).2, Option.bind_some]
    by_cases h0 : mapE m = 0
    case neg => rw [if_neg h0]
    rw [if_pos h0]
    obtain ⟨e, e3, e4⟩ := refLine_any (k := k + 2) (by omega) l hl.1.2.2 hl.2.2.2
    change Option.bind (nspeculumref06_CheckLine (k + 2 + 2) l) _ = _
    rw [e3, Option.bind_some]
    by_cases he : e = 0
    case neg => rw [if_neg he]
    rw [if_pos he]
    have L := e4 he
    rw [within_base, Option.bind_some]
    by_cases w1 : -10000000 ≤ l.Start.Num ∧ l.Start.Num ≤ 10000000
    case neg => rw [if_neg (by simpa using w1)]
    rw [if_pos (decide_eq_true w1), within_base, Option.bind_some]
    by_cases w2 : -10000000 ≤ l.Slope.Num ∧ l.Slope.Num ≤ 10000000
    case neg => rw [if_neg (by simpa using w2)]
    rw [if_pos (decide_eq_true w2)]
    have M := mapE_ok h0
    have hn := M.n2
    have hrb := rb_of M L (by omega) (by omega)
    obtain ⟨l0, a, b, F, _, hF⟩ := figure_p (k := k + 2) (by omega) h0
    have hR := removal_p (k := k + 2) (by omega) h0 L
    have hd := dD_bd L
    have hd0 := dD_bd F.lo
    have hs0 := wr_sum M (F.rb M) (i := m.Heights.length) (Nat.le_refl _)
    have hs1 := wr_sum M hrb (i := m.Heights.length) (Nat.le_refl _)
    have q1 := lw_le (x := sumF (wr m l0) m.Heights.length) hd0.1
    have q2 := (lw_low (x := sumF (wr m l0) m.Heights.length) hd0.1).d
    have q3 := lw_cross (x := sumF (wr m l0) m.Heights.length) hd0.1
    have q4 := lwr (r := sumF (wr m l0) m.Heights.length) hd0.1
    have q5 : 0 ≤ sumF (wr m l0) m.Heights.length := by
      have := sumF_ge (f := wr m l0) (a := 0) m.Heights.length (fun i hi => Int.mul_nonneg (M.w i hi).1 (F.all i hi))
      omega
    have hlen : (remT m l m.Heights.length).length = m.Heights.length := by simp [remT]
    change Option.bind (nspeculumlaw06_mapped (k + 4) m) _ = _
    rw [mapped_any (k + 4) m (e2 rfl), Option.bind_some]
    change Option.bind (nfigure_Removal (k + 2 + 2) m l) (fun r1909 => Option.bind (nfigure_Least (k + 2 + 2) m) _) = _
    rw [hR, Option.bind_some, hF, Option.bind_some]
    dsimp only
    unfold leastV
    rw [if_pos rfl, if_pos rfl, if_pos (show ((remT m l m.Heights.length).length : Int) = (m.Heights.length : Int) by omega), if_neg (by omega), if_neg (by omega), within_base, Option.bind_some, if_pos (decide_eq_true (by omega))]
    rcases law_l (k := k + 4) (by omega) M L hrb 0 (lw (sumF (wr m l0) m.Heights.length) (dD l0), 0) m.Heights.length (k + 4) 0 (by omega) (by omega) (fun p hp => by omega) with c | ⟨c0, c⟩
    · rw [show nspeculumlaw06_FigureLeast_l0_0 (k + 4) m l (remT m l m.Heights.length, 0) (lw (sumF (wr m l0) m.Heights.length) (dD l0), 0) (k + 4) 0 0 = _ from c]; rfl
    · rw [show nspeculumlaw06_FigureLeast_l0_0 (k + 4) m l (remT m l m.Heights.length, 0) (lw (sumF (wr m l0) m.Heights.length) (dD l0), 0) (k + 4) 0 0 = _ from c, Option.bind_some]
      dsimp only
      rw [show l.Start.Den * l.Slope.Den = dD l from rfl, w64_id (n := dD l) (by omega) (by omega)]
      refine fcmp hd ⟨q2, by omega⟩ hs1 (by omega) ?_
      have h5 := least_le M F L c0
      generalize (lw (sumF (wr m l0) m.Heights.length) (dD l0)).Num = N at *
      generalize (lw (sumF (wr m l0) m.Heights.length) (dD l0)).Den = D at *
      have h6 := Int.mul_le_mul_of_nonneg_right h5 (Int.le_of_lt q2)
      have h7 : dD l0 * (N * dD l) = dD l * sumF (wr m l0) m.Heights.length * D := by
        have : dD l * (N * dD l0) = dD l * (sumF (wr m l0) m.Heights.length * D) := by rw [q3]
        grind
      have h8 : dD l0 * sumF (wr m l) m.Heights.length * D = dD l0 * (sumF (wr m l) m.Heights.length * D) := by grind
      rw [← h7, h8] at h6
      exact Int.le_of_mul_le_mul_left h6 hd0.1
end
theorem vc_least (m : SRemovalMap) (l : SLowerLine) (hl : OfI l) : VC Go.Proofs.Try.prog 3 [.ag [.tr (m.Heights.map vi) m.Heights.length, .tr (m.Q.map vi) m.Q.length, .tr (m.Weights.map vi) m.Weights.length], .ag [vi l.Start.Num, vi l.Start.Den, vi l.Slope.Num, vi l.Slope.Den, vi l.Touch.e0, vi l.Touch.e1]] (vb true) := by
  obtain ⟨K, h⟩ := law_least m l hl
  exact nspeculumlaw06_FigureLeast_ok K m l true h
end Go.Proofs.Ytmjepoalhmdfjaa.Vg

/- The earliest times of a system of bounds: rounds of raising, plain. -/
import Derived.Test.YtejannnafdcgoaaAC
import Derived.Test.YtejannnafdcgoaaA5
set_option linter.unusedVariables false
set_option linter.unusedSimpArgs false
namespace Go.Proofs.Ytejannnafdcgoaa.Vg
open Go Go.Proofs.Ytejannnafdcgoaa.Ev Go.Proofs.Ytejannnafdcgoaa.Vv
def fB (b : SCoolBound) : Nat := (b.From + 1).toNat
def tB (b : SCoolBound) : Nat := (b.To + 1).toNat
structure BOK (N : Nat) (b : SCoolBound) : Prop where
  f : -1 ≤ b.From ∧ b.From + 1 < (N : Int)
  t : -1 ≤ b.To ∧ b.To + 1 < (N : Int)
  m : -1000000000000 ≤ b.Most ∧ b.Most ≤ 1000000000000
def gx (x : List Int) (j : Nat) : Int := x.getD j 0
theorem gx_set {x : List Int} {i : Nat} (h : i < x.length) (v : Int) (j : Nat) : gx (x.set i v) j = if j = i then v else gx x j := by
  unfold gx
  rw [List.getD_eq_getElem?_getD, List.getD_eq_getElem?_getD, List.getElem?_set]
  by_cases e : j = i
  · subst e; rw [if_pos rfl, if_pos rfl, if_pos h]; rfl
  · rw [if_neg e, if_neg (fun x => e x.symm)]
theorem gx_rep (N j : Nat) : gx (List.replicate N 0) j = 0 := by
  unfold gx
  rw [List.getD_eq_getElem?_getD, List.getElem?_replicate]
  split <;> rfl
/-- one round of raising. -/
def rsB : List SCoolBound → Nat → List Int → List Int → Int → Bool → Int × Bool × List Int × List Int
  | [], _, x, q, lev, ok => (lev, ok, x, q)
  | b :: l, i, x, q, lev, ok => if gx x (fB b) < gx x (tB b) - b.Most then rsB l (i + 1) (x.set (fB b) (gx x (tB b) - b.Most)) (q.set (fB b) (i : Int)) b.From true else rsB l (i + 1) x q lev ok
structure RsP (N L : Nat) (l : List SCoolBound) (x q : List Int) (ok : Bool) (r : Int × Bool × List Int × List Int) : Prop where
  lx : r.2.2.1.length = N
  lq : r.2.2.2.length = N
  up : ∀ j, gx x j ≤ gx r.2.2.1 j
  rel : ∀ b ∈ l, gx x (tB b) - b.Most ≤ gx r.2.2.1 (fB b)
  no : r.2.1 = false → ok = false ∧ r.2.2.1 = x
  yes : r.2.1 = true → ok = true ∨ ∃ j, j < N ∧ gx x j < gx r.2.2.1 j
  lev : -1 ≤ r.1 ∧ r.1 + 1 < (N : Int)
  q : ∀ j, 0 ≤ gx r.2.2.2 j ∧ gx r.2.2.2 j < (L : Int)
  bd : ∀ C : Int, (∀ j, gx x j ≤ C) → ∀ j, gx r.2.2.1 j ≤ C + (l.length : Int) * 1000000000000
  under : ∀ d : Nat → Int, (∀ b ∈ l, d (tB b) - b.Most ≤ d (fB b)) → (∀ j, gx x j ≤ d j) → ∀ j, gx r.2.2.1 j ≤ d j
theorem BOK.fN {N : Nat} {b : SCoolBound} (h : BOK N b) : fB b < N ∧ (fB b : Int) = b.From + 1 := by have := h.f; unfold fB; omega
theorem BOK.tN {N : Nat} {b : SCoolBound} (h : BOK N b) : tB b < N ∧ (tB b : Int) = b.To + 1 := by have := h.t; unfold tB; omega
theorem rs_props {N L : Nat} : ∀ (l : List SCoolBound) (i : Nat) (x q : List Int) (lev : Int) (ok : Bool), (∀ b ∈ l, BOK N b) → x.length = N → q.length = N → i + l.length ≤ L → (∀ j, 0 ≤ gx q j ∧ gx q j < (L : Int)) → (-1 ≤ lev ∧ lev + 1 < (N : Int)) →
    RsP N L l x q ok (rsB l i x q lev ok)
  | [], i, x, q, lev, ok, hb, hx, hq, hi, hqv, hlv => by
    refine ⟨hx, hq, fun j => Int.le_refl _, fun b h => (nomatch h), fun h => ⟨h, rfl⟩, fun h => .inl h, hlv, hqv, fun C hC j => by have := hC j; show gx x j ≤ _; simp; exact this, fun d _ h => h⟩
  | b :: l, i, x, q, lev, ok, hb, hx, hq, hi, hqv, hlv => by
    have hB := hb b (by simp)
    have hf := hB.fN
    have hbl : ∀ b' ∈ l, BOK N b' := fun b' h => hb b' (by simp [h])
    simp only [List.length_cons] at hi
    unfold rsB
    by_cases c : gx x (fB b) < gx x (tB b) - b.Most
    · rw [if_pos c]
      have hs := gx_set (x := x) (i := fB b) (by omega) (gx x (tB b) - b.Most)
      have hsq := gx_set (x := q) (i := fB b) (by omega) (i : Int)
      have hqv' : ∀ j, 0 ≤ gx (q.set (fB b) (i : Int)) j ∧ gx (q.set (fB b) (i : Int)) j < (L : Int) := fun j => by
        rw [hsq]
        split
        · omega
        · exact hqv j
      have ih := rs_props (L := L) l (i + 1) (x.set (fB b) (gx x (tB b) - b.Most)) (q.set (fB b) (i : Int)) b.From true hbl (by simp [hx]) (by simp [hq]) (by omega) hqv' hB.f
      have hup : ∀ j, gx x j ≤ gx (x.set (fB b) (gx x (tB b) - b.Most)) j := fun j => by
        rw [hs]; split
        · rename_i e; subst e; omega
        · exact Int.le_refl _
      refine ⟨ih.lx, ih.lq, fun j => Int.le_trans (hup j) (ih.up j), fun b' h => ?_, fun h => ?_, fun _ => .inr ⟨fB b, hf.1, ?_⟩, ih.lev, ih.q, fun C hC j => ?_, fun d hd hx0 j => ?_⟩
      · rcases List.mem_cons.1 h with e | e
        · subst e
          have := ih.up (fB b'); rw [hs, if_pos rfl] at this; exact this
        · have := ih.rel b' e
          have h2 := hup (tB b')
          omega
      · have := (ih.no h).1; cases this
      · have := ih.up (fB b); rw [hs, if_pos rfl] at this; omega
      · have := ih.bd (C + 1000000000000) (fun j => by
          rw [hs]; split
          · have := hC (tB b); have := hB.m; omega
          · have := hC j; omega) j
        simp only [List.length_cons]
        omega
      · refine ih.under d (fun b' h => hd b' (by simp [h])) (fun j => ?_) j
        rw [hs]; split
        · rename_i e; subst e
          have := hd b (by simp)
          have := hx0 (tB b); omega
        · exact hx0 j
    · rw [if_neg c]
      have ih := rs_props (L := L) l (i + 1) x q lev ok hbl hx hq (by omega) hqv hlv
      refine ⟨ih.lx, ih.lq, ih.up, fun b' h => ?_, ih.no, ih.yes, ih.lev, ih.q, fun C hC j => ?_, fun d hd => ih.under d (fun b' h => hd b' (by simp [h]))⟩
      · rcases List.mem_cons.1 h with e | e
        · subst e; have := ih.up (fB b'); omega
        · exact ih.rel b' e
      · have := ih.bd C hC j
        simp only [List.length_cons]
        omega
/-- so many rounds. -/
def rdB (l : List SCoolBound) : Nat → List Int → List Int → Int → Sum (List Int × List Int) (Int × List Int × List Int)
  | 0, x, q, lev => .inr (lev, x, q)
  | r + 1, x, q, _ => if (rsB l 0 x q 0 false).2.1 = true then rdB l r (rsB l 0 x q 0 false).2.2.1 (rsB l 0 x q 0 false).2.2.2 (rsB l 0 x q 0 false).1 else .inl ((rsB l 0 x q 0 false).2.2.1, (rsB l 0 x q 0 false).2.2.2)
/-- how many of the first n. -/
def cntP (p : Nat → Bool) : Nat → Nat
  | 0 => 0
  | n + 1 => cntP p n + (if p n = true then 1 else 0)
theorem cntP_le (p : Nat → Bool) : ∀ n, cntP p n ≤ n
  | 0 => Nat.le_refl _
  | n + 1 => by have := cntP_le p n; simp only [cntP]; split <;> omega
theorem cntP_mono {p q : Nat → Bool} (h : ∀ j, p j = true → q j = true) : ∀ n, cntP p n ≤ cntP q n
  | 0 => Nat.le_refl _
  | n + 1 => by
    have := cntP_mono h n
    have h2 := h n
    simp only [cntP]
    split
    · rename_i e; rw [if_pos (h2 e)]; omega
    · omega
theorem cntP_lt {p q : Nat → Bool} (h : ∀ j, p j = true → q j = true) {j : Nat} (hp : p j = false) (hq : q j = true) : ∀ n, j < n → cntP p n < cntP q n
  | 0, hj => by omega
  | n + 1, hj => by
    simp only [cntP]
    by_cases e : j = n
    · subst e
      have := cntP_mono h j
      rw [hp, hq]; simp; omega
    · have := cntP_lt h hp hq n (by omega)
      have h2 := h n
      split
      · rename_i e; rw [if_pos (h2 e)]; omega
      · omega
theorem cntP_pos {p : Nat → Bool} {j : Nat} (hp : p j = true) : ∀ n, j < n → 1 ≤ cntP p n
  | 0, hj => by omega
  | n + 1, hj => by
    simp only [cntP]
    by_cases e : j = n
    · subst e; rw [if_pos hp]; omega
    · have := cntP_pos hp n (by omega); omega
/-- Times keep the bounds. -/
structure Feas (N : Nat) (l : List SCoolBound) (d : Nat → Int) : Prop where
  pos : ∀ j, 0 ≤ d j
  kept : ∀ b ∈ l, d (tB b) - b.Most ≤ d (fB b)
def sumD (d : Nat → Int) : Nat → Int
  | 0 => 0
  | n + 1 => sumD d n + d n
theorem sumD_le {d e : Nat → Int} (h : ∀ j, d j ≤ e j) : ∀ n, sumD d n ≤ sumD e n
  | 0 => Int.le_refl _
  | n + 1 => by have := sumD_le h n; have := h n; simp only [sumD]; omega
theorem sumD_lt {d e : Nat → Int} (h : ∀ j, d j ≤ e j) {j : Nat} (hj : d j < e j) : ∀ n, j < n → sumD d n < sumD e n
  | 0, hn => by omega
  | n + 1, hn => by
    simp only [sumD]
    by_cases c : j = n
    · subst c; have := sumD_le h j; omega
    · have := sumD_lt h hj n (by omega); have := h n; omega
theorem sumD_pos {d : Nat → Int} (h : ∀ j, 0 ≤ d j) : ∀ n, 0 ≤ sumD d n
  | 0 => Int.le_refl _
  | n + 1 => by have := sumD_pos h n; have := h n; simp only [sumD]; omega
theorem sumD_zero : ∀ n, sumD (fun _ => (0 : Int)) n = 0
  | 0 => rfl
  | n + 1 => by simp only [sumD, sumD_zero n]; rfl
/-- no set of levels can be lowered. -/
def TightD (N : Nat) (l : List SCoolBound) (d : Nat → Int) : Prop := ∀ U : Nat → Bool, (∃ j, j < N ∧ U j = true) → (∀ j, U j = true → 0 < d j) → ∃ b ∈ l, U (fB b) = true ∧ U (tB b) = false ∧ d (fB b) = d (tB b) - b.Most
theorem exists_tight {N : Nat} {l : List SCoolBound} : ∀ (s : Nat) (d : Nat → Int), Feas N l d → (sumD d N).toNat ≤ s → ∃ d', Feas N l d' ∧ TightD N l d' := by
  intro s
  induction s with
  | zero =>
    intro d hd hs
    refine ⟨d, hd, fun U ⟨j, hj, hU⟩ hp => ?_⟩
    have := sumD_lt (d := fun _ => 0) (e := d) hd.pos (hp j hU) N hj
    have h0 := sumD_zero N
    omega
  | succ s ih =>
    intro d hd hs
    by_cases ht : TightD N l d
    · exact ⟨d, hd, ht⟩
    · unfold TightD at ht
      simp only [Classical.not_forall] at ht
      obtain ⟨U, ⟨j, hj, hU⟩, hp, hno⟩ := ht
      refine ih (fun i => if U i = true then d i - 1 else d i) ⟨fun i => ?_, fun b hb => ?_⟩ ?_
      · show 0 ≤ (if U i = true then d i - 1 else d i)
        split
        · rename_i e; have := hp i e; omega
        · exact hd.pos i
      · show (if U (tB b) = true then d (tB b) - 1 else d (tB b)) - b.Most ≤ (if U (fB b) = true then d (fB b) - 1 else d (fB b))
        have h1 := hd.kept b hb
        by_cases e : U (fB b) = true
        · rw [if_pos e]
          by_cases e2 : U (tB b) = true
          · rw [if_pos e2]; omega
          · rw [if_neg e2]
            have : d (fB b) ≠ d (tB b) - b.Most := fun h => hno ⟨b, hb, e, by simpa using e2, h⟩
            omega
        · rw [if_neg e]; split <;> omega
      · have := sumD_lt (d := fun i => if U i = true then d i - 1 else d i) (e := d) (fun i => by split <;> omega) (j := j) (by rw [if_pos hU]; omega) N hj
        have := sumD_pos hd.pos N
        omega
section
variable {N : Nat} {l : List SCoolBound}
def QOK (N : Nat) (l : List SCoolBound) (q : List Int) : Prop := q.length = N ∧ ∀ j, 0 ≤ gx q j ∧ gx q j < (l.length : Int)
theorem rs_at (hb : ∀ b ∈ l, BOK N b) (hN : 2 ≤ N) {x q : List Int} (hx : x.length = N) (hq : QOK N l q) : RsP N l.length l x q false (rsB l 0 x q 0 false) :=
  rs_props l 0 x q 0 false hb hx hq.1 (by omega) hq.2 (by omega)
/-- a round settles one more level. -/
theorem settle (hb : ∀ b ∈ l, BOK N b) (hN : 2 ≤ N) {d : Nat → Int} (hd : Feas N l d) (ht : TightD N l d) {x q : List Int} (hx : x.length = N) (hq : QOK N l q) (h0 : ∀ j, 0 ≤ gx x j) (hle : ∀ j, gx x j ≤ d j) {j0 : Nat} (hj0 : j0 < N) (hne : gx x j0 < d j0) :
    cntP (fun j => decide (gx x j = d j)) N < cntP (fun j => decide (gx (rsB l 0 x q 0 false).2.2.1 j = d j)) N := by
  have hP := rs_at hb hN hx hq
  have hun := hP.under d hd.kept hle
  obtain ⟨b, hbl, u1, u2, u3⟩ := ht (fun j => decide (gx x j < d j)) ⟨j0, hj0, by simpa using hne⟩ (fun j h => by have h := of_decide_eq_true h; have := h0 j; omega)
  have u1 := of_decide_eq_true u1
  have u2 := of_decide_eq_false u2
  refine cntP_lt (fun j h => ?_) (j := fB b) ?_ ?_ N ((hb b hbl).fN).1
  · have h := of_decide_eq_true h
    have := hP.up j; have := hun j
    exact decide_eq_true (by omega)
  · exact decide_eq_false (by omega)
  · have h1 := hP.rel b hbl
    have h2 := hun (fB b)
    have h3 := hle (tB b)
    exact decide_eq_true (by omega)
theorem done_of (hb : ∀ b ∈ l, BOK N b) (hN : 2 ≤ N) {d : Nat → Int} (hd : Feas N l d) (ht : TightD N l d) : ∀ (r : Nat) (x q : List Int) (lev : Int), x.length = N → QOK N l q → (∀ j, 0 ≤ gx x j) → (∀ j, gx x j ≤ d j) → N < cntP (fun j => decide (gx x j = d j)) N + r → ∃ y, rdB l r x q lev = .inl y
  | 0, x, q, lev, hx, hq, h0, hle, hc => by have := cntP_le (fun j => decide (gx x j = d j)) N; omega
  | r + 1, x, q, lev, hx, hq, h0, hle, hc => by
    have hP := rs_at hb hN hx hq
    unfold rdB
    by_cases e : (rsB l 0 x q 0 false).2.1 = true
    · rw [if_pos e]
      have hun := hP.under d hd.kept hle
      rcases hP.yes e with h | ⟨j0, hj0, h⟩
      · cases h
      · have := hun j0
        have := settle hb hN hd ht hx hq h0 hle hj0 (by omega)
        exact done_of hb hN hd ht r _ _ _ hP.lx ⟨hP.lq, hP.q⟩ (fun j => Int.le_trans (h0 j) (hP.up j)) hun (by omega)
    · rw [if_neg e]; exact ⟨_, rfl⟩
/-- where there are times, the rounds end. -/
theorem rd_done (hb : ∀ b ∈ l, BOK N b) (hN : 2 ≤ N) {d : Nat → Int} (hd : Feas N l d) {q : List Int} (hq : QOK N l q) : ∃ y, rdB l N (List.replicate N 0) q 0 = .inl y := by
  obtain ⟨e, he, ht⟩ := exists_tight (sumD d N).toNat d hd (Nat.le_refl _)
  refine done_of hb hN he ht N _ q 0 (by simp) hq (fun j => by rw [gx_rep]; omega) (fun j => by rw [gx_rep]; exact he.pos j) ?_
  have : 1 ≤ cntP (fun j => decide (gx (List.replicate N 0) j = e j)) N := by
    by_cases c : ∃ j, j < N ∧ e j = 0
    · obtain ⟨j, hj, h⟩ := c
      exact cntP_pos (j := j) (by simp only [gx_rep]; exact decide_eq_true h.symm) N hj
    · exfalso
      obtain ⟨b, hbl, _, h2, _⟩ := ht (fun j => decide (j < N)) ⟨0, by omega, decide_eq_true (by omega)⟩ (fun j h => by
        have h := of_decide_eq_true h
        have := he.pos j
        have : e j ≠ 0 := fun h0 => c ⟨j, h, h0⟩
        omega)
      have := of_decide_eq_false h2
      exact this ((hb b hbl).tN).1
  omega
/-- where the rounds end, there are times: the least. -/
theorem rd_inl (hb : ∀ b ∈ l, BOK N b) (hN : 2 ≤ N) : ∀ (r : Nat) (x q : List Int) (lev : Int) (y : List Int × List Int), x.length = N → QOK N l q → (∀ j, 0 ≤ gx x j) → rdB l r x q lev = .inl y → y.1.length = N ∧ Feas N l (gx y.1) ∧ (∀ d, Feas N l d → (∀ j, gx x j ≤ d j) → ∀ j, gx y.1 j ≤ d j)
  | 0, x, q, lev, y, hx, hq, h0, h => by cases h
  | r + 1, x, q, lev, y, hx, hq, h0, h => by
    have hP := rs_at hb hN hx hq
    unfold rdB at h
    by_cases e : (rsB l 0 x q 0 false).2.1 = true
    · rw [if_pos e] at h
      obtain ⟨g1, g2, g3⟩ := rd_inl hb hN r _ _ _ y hP.lx ⟨hP.lq, hP.q⟩ (fun j => Int.le_trans (h0 j) (hP.up j)) h
      exact ⟨g1, g2, fun d hd hle => g3 d hd (hP.under d hd.kept hle)⟩
    · rw [if_neg e] at h
      injection h with h
      subst h
      have hn := (hP.no (by simpa using e)).2
      dsimp only
      rw [hn]
      refine ⟨hx, ⟨h0, fun b hbl => ?_⟩, fun d hd hle => hle⟩
      have := hP.rel b hbl
      rw [hn] at this; exact this
theorem rd_inr (hb : ∀ b ∈ l, BOK N b) (hN : 2 ≤ N) : ∀ (r : Nat) (x q : List Int) (lev : Int) (y : Int × List Int × List Int), x.length = N → QOK N l q → (-1 ≤ lev ∧ lev + 1 < (N : Int)) → rdB l r x q lev = .inr y → y.2.1.length = N ∧ QOK N l y.2.2 ∧ -1 ≤ y.1 ∧ y.1 + 1 < (N : Int)
  | 0, x, q, lev, y, hx, hq, hl, h => by injection h with h; subst h; exact ⟨hx, hq, hl⟩
  | r + 1, x, q, lev, y, hx, hq, hl, h => by
    have hP := rs_at hb hN hx hq
    unfold rdB at h
    by_cases e : (rsB l 0 x q 0 false).2.1 = true
    · rw [if_pos e] at h
      exact rd_inr hb hN r _ _ _ y hP.lx ⟨hP.lq, hP.q⟩ hP.lev h
    · rw [if_neg e] at h; cases h
end
/-- so many in fewer places. -/
theorem pigeon : ∀ (n : Nat) (f : Nat → Nat), (∀ i, i ≤ n → f i < n) → ∃ i j, i < j ∧ j ≤ n ∧ f i = f j
  | 0, f, h => by have := h 0 (Nat.le_refl _); omega
  | n + 1, f, h => by
    by_cases c : ∃ i, i ≤ n ∧ f i = f (n + 1)
    · obtain ⟨i, hi, e⟩ := c; exact ⟨i, n + 1, by omega, Nat.le_refl _, e⟩
    · have c : ∀ i, i ≤ n → f i ≠ f (n + 1) := fun i hi e => c ⟨i, hi, e⟩
      have hl := h (n + 1) (Nat.le_refl _)
      obtain ⟨i, j, h1, h2, h3⟩ := pigeon n (fun i => if f i = n then f (n + 1) else f i) (fun i hi => by
        have h1 := h i (by omega); have h2 := c i hi
        show (if f i = n then f (n + 1) else f i) < n
        split <;> omega)
      have h3 : (if f i = n then f (n + 1) else f i) = (if f j = n then f (n + 1) else f j) := h3
      have c1 := c i (by omega)
      have c2 := c j (by omega)
      refine ⟨i, j, h1, by omega, ?_⟩
      split at h3 <;> split at h3 <;> omega
def itN (g : Nat → Nat) : Nat → Nat → Nat
  | 0, s => s
  | n + 1, s => itN g n (g s)
theorem itN_add (g : Nat → Nat) : ∀ (a b s : Nat), itN g (a + b) s = itN g b (itN g a s)
  | 0, b, s => by rw [Nat.zero_add]; rfl
  | a + 1, b, s => by rw [show a + 1 + b = (a + b) + 1 by omega]; exact itN_add g a b (g s)
theorem itN_lt {g : Nat → Nat} {n : Nat} (h : ∀ j, j < n → g j < n) : ∀ (a s : Nat), s < n → itN g a s < n
  | 0, s, hs => hs
  | a + 1, s, hs => itN_lt h a (g s) (h s hs)
/-- after as many steps as there are places one stands on a circle. -/
theorem on_circle {g : Nat → Nat} {n : Nat} (h : ∀ j, j < n → g j < n) {s : Nat} (hs : s < n) : ∃ p, p ≤ n ∧ itN g p (g (itN g n s)) = itN g n s := by
  obtain ⟨i, j, h1, h2, h3⟩ := pigeon n (fun i => itN g i s) (fun i _ => itN_lt h i s hs)
  have h3 : itN g i s = itN g j s := h3
  refine ⟨j - i - 1, by omega, ?_⟩
  show itN g (j - i - 1 + 1) (itN g n s) = itN g n s
  rw [← itN_add]
  have e1 : itN g n s = itN g (n - i) (itN g i s) := by rw [← itN_add]; congr 1; omega
  have e2 : itN g (n + (j - i - 1 + 1)) s = itN g (n - i) (itN g j s) := by rw [← itN_add]; congr 1; omega
  rw [e2, e1, h3]
end Go.Proofs.Ytejannnafdcgoaa.Vg

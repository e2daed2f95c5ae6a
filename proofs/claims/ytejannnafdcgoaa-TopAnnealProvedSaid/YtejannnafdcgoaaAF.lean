/- blank.Earliest, plain. -/
import Derived.Test.YtejannnafdcgoaaAE
set_option linter.unusedVariables false
set_option linter.unusedSimpArgs false
namespace Go.Proofs.Ytejannnafdcgoaa.Vg
open Go Go.Proofs.Ytejannnafdcgoaa.Ev Go.Proofs.Ytejannnafdcgoaa.Vv
theorem lvlB_ok {N : Nat} (hN : 1 ≤ N) (i : Nat) : ∀ d, i + d + 1 ≤ N → ∀ b ∈ lvlB i d, BOK N b
  | 0, _, b, h => by cases h
  | d + 1, hd, b, h => by
    rcases List.mem_cons.1 h with e | e
    · subst e; exact ⟨by dsimp only; omega, by dsimp only; omega, by dsimp only; omega⟩
    · exact lvlB_ok hN (i + 1) d (by omega) b e
theorem stpB_ok {a : SAnnealing} (h : Ann a) (i : Nat) : ∀ d, i + d = a.Steps.length → ∀ b ∈ stpB a i d, BOK (a.Steps.length + 2) b
  | 0, _, b, h => by cases h
  | d + 1, hd, b, hm => by
    have hs := h.st _ (mem_getD (l := a.Steps) (i := i) (by omega))
    have hw := leastM_bd h (i := (i : Int)) (by omega)
    rcases List.mem_cons.1 hm with e | e
    · subst e; exact ⟨by dsimp only; omega, by dsimp only; omega, by dsimp only; omega⟩
    · rcases List.mem_cons.1 e with e | e
      · subst e; exact ⟨by dsimp only; omega, by dsimp only; omega, by dsimp only; omega⟩
      · exact stpB_ok h (i + 1) d (by omega) b e
theorem winB_ok {n : Nat} : ∀ l : List SCoolWindow, (∀ w ∈ l, 0 ≤ w.Level ∧ w.Level ≤ n ∧ 0 ≤ w.From ∧ w.From ≤ w.To ∧ w.To ≤ 1000000) → ∀ b ∈ winB l, BOK (n + 2) b
  | [], _, b, h => by cases h
  | w :: l, hl, b, hm => by
    have hw := hl w (by simp)
    rcases List.mem_cons.1 hm with e | e
    · subst e; exact ⟨by dsimp only; omega, by dsimp only; omega, by dsimp only; omega⟩
    · rcases List.mem_cons.1 e with e | e
      · subst e; exact ⟨by dsimp only; omega, by dsimp only; omega, by dsimp only; omega⟩
      · exact winB_ok l (fun w h => hl w (by simp [h])) b e
theorem sysB_ok {a : SAnnealing} (h : Ann a) : ∀ b ∈ sysB a, BOK (a.Steps.length + 2) b := by
  intro b hb
  unfold sysB at hb
  rcases List.mem_append.1 hb with hb | hb
  · rcases List.mem_append.1 hb with hb | hb
    · exact lvlB_ok (by omega) 0 _ (by omega) b hb
    · exact stpB_ok h 0 _ (by omega) b hb
  · exact winB_ok _ h.wi b hb
section
variable {a : SAnnealing} {l : List SCoolBound} {N : Nat}
theorem new_n (k : Nat) (hs : a.Steps.length ≤ 30) {r : List SCoolBound × Int} {L : Nat} (hL : a.Steps.length + 1 ≤ L) : ∀ (d fuel i : Nat) (y : List Int), a.Steps.length + 1 = i + d → d < fuel → y.length = a.Steps.length + 2 → (∀ j, 0 ≤ gx y j ∧ gx y j < (L : Int)) →
    ∃ q, nblank_Earliest_i25_l0_0 k a r fuel y (i : Int) = some q ∧ q.length = a.Steps.length + 2 ∧ ∀ j, 0 ≤ gx q j ∧ gx q j < (L : Int) := by
  intro d
  induction d with
  | zero =>
    intro fuel i y he hf hy hq
    obtain ⟨f, rfl⟩ : ∃ f, fuel = f + 1 := ⟨fuel - 1, by omega⟩
    refine ⟨y, ?_, hy, hq⟩
    rw [nblank_Earliest_i25_l0_0.eq_2, w64_id (n := (a.Steps.length : Int) + 1) (by omega) (by omega), if_neg (by omega)]
  | succ d ih =>
    intro fuel i y he hf hy hq
    obtain ⟨f, rfl⟩ : ∃ f, fuel = f + 1 := ⟨fuel - 1, by omega⟩
    rw [nblank_Earliest_i25_l0_0.eq_2, w64_id (n := (a.Steps.length : Int) + 1) (by omega) (by omega), if_pos (by omega), w64_succ (by omega), if_pos (by omega), Int.toNat_natCast]
    refine ih f (i + 1) _ (by omega) (by omega) (by simp [hy]) (fun j => ?_)
    rw [gx_set (by omega)]
    split
    · omega
    · exact hq j
theorem raise_n (k : Nat) (hb : ∀ b ∈ l, BOK N b) (hl : l.length ≤ 211) (y2 y3 : List Int) (x27 x8 : Int) : ∀ (d fuel i : Nat) (x q : List Int) (lev : Int) (ok : Bool) (C : Int), l.length = i + d → d < fuel → x.length = N → q.length = N → (∀ j, 0 ≤ gx x j ∧ gx x j ≤ C) → C + (d : Int) * 1000000000000 ≤ 8000000000000000000 → N ≤ 1000 →
    nblank_Earliest_i26_l0_0 k a (l, 0) y2 y3 x27 x8 fuel x q (i : Int) lev ok = some (rsB (l.drop i) i x q lev ok) := by
  intro d
  induction d with
  | zero =>
    intro fuel i x q lev ok C he hf hx hq hC hM hN
    obtain ⟨f, rfl⟩ : ∃ f, fuel = f + 1 := ⟨fuel - 1, by omega⟩
    rw [nblank_Earliest_i26_l0_0.eq_2, if_neg (by dsimp only; omega), List.drop_of_length_le (by omega)]; rfl
  | succ d ih =>
    intro fuel i x q lev ok C he hf hx hq hC hM hN
    obtain ⟨f, rfl⟩ : ∃ f, fuel = f + 1 := ⟨fuel - 1, by omega⟩
    have hB := hb _ (mem_getD (l := l) (i := i) (by omega))
    rw [nblank_Earliest_i26_l0_0.eq_2, if_pos (by dsimp only; omega), if_pos (by dsimp only; omega), drop_get (show i < l.length by omega) default]
    dsimp only
    simp only [Int.toNat_natCast]
    generalize l.getD i default = b at hB
    have hf := hB.fN
    have ht := hB.tN
    have h1 := hB.f
    have h2 := hB.t
    have h3 := hB.m
    have c1 := hC (tB b)
    rw [w64_id (n := b.To + 1) (by omega) (by omega), w64_id (n := b.From + 1) (by omega) (by omega), if_pos (by omega), if_pos (by omega)]
    rw [show x.getD (b.To + 1).toNat 0 = gx x (tB b) from rfl, show x.getD (b.From + 1).toNat 0 = gx x (fB b) from rfl, show (b.From + 1).toNat = fB b from rfl, w64_id (n := gx x (tB b) - b.Most) (by omega) (by omega), w64_succ (by omega)]
    unfold rsB
    by_cases c : gx x (fB b) < gx x (tB b) - b.Most
    · rw [if_pos c, if_pos c, if_pos (by omega)]
      refine ih f (i + 1) _ _ _ _ (C + 1000000000000) (by omega) (by omega) (by simp [hx]) (by simp [hq]) (fun j => ?_) (by omega) hN
      rw [gx_set (by omega)]
      have c2 := hC (fB b)
      split
      · omega
      · have := hC j; omega
    · rw [if_neg c, if_neg c]
      exact ih f (i + 1) _ _ _ _ C (by omega) (by omega) hx hq hC (by omega) hN
theorem rounds_n (k : Nat) (hk : 1000 < k) (hs : a.Steps.length ≤ 30) (hN : N = a.Steps.length + 2) (hb : ∀ b ∈ l, BOK N b) (hl : l.length ≤ 211) : ∀ (d fuel i : Nat) (x q : List Int) (lev : Int), N = i + d → d < fuel → x.length = N → QOK N l q → (∀ j, 0 ≤ gx x j ∧ gx x j ≤ (i : Int) * 211000000000000) →
    nblank_Earliest_l0_0 k a (l, 0) fuel x q (i : Int) lev = some (rdB l d x q lev) := by
  intro d
  induction d with
  | zero =>
    intro fuel i x q lev he hf hx hq hC
    obtain ⟨f, rfl⟩ : ∃ f, fuel = f + 1 := ⟨fuel - 1, by omega⟩
    rw [nblank_Earliest_l0_0.eq_2, w64_id (n := (a.Steps.length : Int) + 1) (by omega) (by omega), w64_id (n := (a.Steps.length : Int) + 1 + 1) (by omega) (by omega), if_neg (by omega)]; rfl
  | succ d ih =>
    intro fuel i x q lev he hf hx hq hC
    obtain ⟨f, rfl⟩ : ∃ f, fuel = f + 1 := ⟨fuel - 1, by omega⟩
    have hr := raise_n (a := a) k hb hl x q (i : Int) lev l.length k 0 x q 0 false ((i : Int) * 211000000000000) (by omega) (by omega) hx hq.1 hC (by omega) (by omega)
    rw [List.drop_zero] at hr
    have hP := rs_at hb (by omega) hx hq
    rw [nblank_Earliest_l0_0.eq_2, w64_id (n := (a.Steps.length : Int) + 1) (by omega) (by omega), w64_id (n := (a.Steps.length : Int) + 1 + 1) (by omega) (by omega), if_pos (by omega), show nblank_Earliest_i26_l0_0 k a (l, 0) x q (i : Int) lev k x q 0 0 false = _ from hr, Option.bind_some]
    rw [if_pos (hP.lx.trans hx.symm), if_pos (hP.lq.trans hq.1.symm)]
    unfold rdB
    by_cases c : (rsB l 0 x q 0 false).2.1 = true
    · rw [if_pos c, if_pos c, w64_succ (by omega)]
      refine ih f (i + 1) _ _ _ (by omega) (by omega) hP.lx ⟨hP.lq, hP.q⟩ (fun j => ⟨Int.le_trans (hC j).1 (hP.up j), ?_⟩)
      have := hP.bd _ (fun j => (hC j).2) j
      omega
    · rw [if_neg c, if_neg c, if_pos (by have := hP.lx; omega)]
def stepG (l : List SCoolBound) (q : List Int) (j : Nat) : Nat := tB (l.getD (gx q j).toNat default)
theorem stepG_lt (hb : ∀ b ∈ l, BOK N b) {q : List Int} (hq : QOK N l q) (j : Nat) : stepG l q j < N := by
  have := hq.2 j
  exact ((hb _ (mem_getD (l := l) (i := (gx q j).toNat) (by omega))).tN).1
theorem before_n (k : Nat) (hN : N ≤ 1000) (hb : ∀ b ∈ l, BOK N b) {x q : List Int} (hq : QOK N l q) {j : Nat} (hj : j < N) : n_blank_schedule_before k ⟨l, x, q⟩ ((j : Int) - 1) = some ((stepG l q j : Int) - 1) := by
  unfold n_blank_schedule_before
  have h1 := hq.1
  have h2 := hq.2 j
  have hB := hb _ (mem_getD (l := l) (i := (gx q j).toNat) (by omega))
  rw [show (j : Int) - 1 + 1 = (j : Int) by omega, w64_id (by omega) (by omega), Int.toNat_natCast]
  dsimp only
  rw [if_pos (by omega), show q.getD j 0 = gx q j from rfl, if_pos (by omega)]
  have := hB.tN.2
  congr 1
  show _ = (tB _ : Int) - 1
  omega
theorem walk_n (k : Nat) (hN : N ≤ 1000) (hb : ∀ b ∈ l, BOK N b) {x q : List Int} (hx : x.length = N) (hq : QOK N l q) : ∀ (d fuel i s : Nat), N = i + d → d < fuel → s < N → n_blank_schedule_circle_l0_0 k ⟨l, x, q⟩ fuel ((s : Int) - 1) (i : Int) = some ((itN (stepG l q) d s : Int) - 1) := by
  intro d
  induction d with
  | zero =>
    intro fuel i s he hf hs
    obtain ⟨f, rfl⟩ : ∃ f, fuel = f + 1 := ⟨fuel - 1, by omega⟩
    rw [n_blank_schedule_circle_l0_0.eq_2, if_neg (by dsimp only; omega)]; rfl
  | succ d ih =>
    intro fuel i s he hf hs
    obtain ⟨f, rfl⟩ : ∃ f, fuel = f + 1 := ⟨fuel - 1, by omega⟩
    rw [n_blank_schedule_circle_l0_0.eq_2, if_pos (by dsimp only; omega), before_n k hN hb hq hs, Option.bind_some, w64_succ (by omega)]
    exact ih f (i + 1) _ (by omega) (by omega) (stepG_lt hb hq s)
theorem round_n (k : Nat) (hN : N ≤ 1000) (hb : ∀ b ∈ l, BOK N b) {x q : List Int} (hq : QOK N l q) {t : Nat} : ∀ (p fuel s : Nat) (y : List Int), p < fuel → s < N → itN (stepG l q) p s = t → y.length + p ≤ 10000 → ∃ c, n_blank_schedule_circle_l1_0 k ⟨l, x, q⟩ ((t : Int) - 1) fuel y ((s : Int) - 1) = some c ∧ y.length ≤ c.length := by
  intro p
  induction p with
  | zero =>
    intro fuel s y hf hs ht hy
    obtain ⟨f, rfl⟩ : ∃ f, fuel = f + 1 := ⟨fuel - 1, by omega⟩
    have ht : s = t := ht
    refine ⟨y, ?_, Nat.le_refl _⟩
    rw [n_blank_schedule_circle_l1_0.eq_2, if_pos (by omega)]
  | succ p ih =>
    intro fuel s y hf hs ht hy
    obtain ⟨f, rfl⟩ : ∃ f, fuel = f + 1 := ⟨fuel - 1, by omega⟩
    rw [n_blank_schedule_circle_l1_0.eq_2]
    by_cases c : s = t
    · refine ⟨y, ?_, Nat.le_refl _⟩
      rw [if_pos (by omega)]
    · have h1 := hq.1
      obtain ⟨r, e, hr⟩ := ih f (stepG l q s) (y ++ ([(q.getD (s : Int).toNat 0)] : List Int)) (by omega) (stepG_lt hb hq s) ht (by simp; omega)
      refine ⟨r, ?_, by simp at hr; omega⟩
      rw [if_neg (by omega), show (s : Int) - 1 + 1 = (s : Int) by omega, w64_id (by omega) (by omega)]
      dsimp only
      rw [if_pos (by omega), if_pos (by simp; omega), before_n k hN hb hq hs, Option.bind_some]
      exact e
theorem circle_n (k : Nat) (hk : 1000 < k) (hN : N ≤ 900) (hb : ∀ b ∈ l, BOK N b) {x q : List Int} (hx : x.length = N) (hq : QOK N l q) {lev : Int} (hl : -1 ≤ lev ∧ lev + 1 < (N : Int)) : ∃ c, n_blank_schedule_circle k ⟨l, x, q⟩ lev = some c ∧ 1 ≤ c.length := by
  obtain ⟨s, hs, e⟩ : ∃ s : Nat, s < N ∧ lev = (s : Int) - 1 := ⟨(lev + 1).toNat, by omega, by omega⟩
  subst e
  have hlt : ∀ j, j < N → stepG l q j < N := fun j _ => stepG_lt hb hq j
  have hw := walk_n k (by omega) hb hx hq N k 0 s (by omega) (by omega) hs
  have ht := itN_lt hlt N s hs
  obtain ⟨p, hp, hc⟩ := on_circle hlt hs
  unfold n_blank_schedule_circle
  rw [show n_blank_schedule_circle_l0_0 k ⟨l, x, q⟩ k ((s : Int) - 1) 0 = _ from hw, Option.bind_some]
  generalize itN (stepG l q) N s = t at ht hc
  have h1 := hq.1
  obtain ⟨c, e, hc⟩ := round_n (x := x) k (by omega) hb hq (t := t) p k (stepG l q t) ([(q.getD (t : Int).toNat 0)] : List Int) (by omega) (stepG_lt hb hq t) hc (by simp; omega)
  refine ⟨c, ?_, hc⟩
  rw [show (t : Int) - 1 + 1 = (t : Int) by omega, w64_id (n := (t : Int)) (by omega) (by omega)]
  dsimp only
  rw [if_pos (by omega), before_n k (by omega) hb hq ht, Option.bind_some, e, Option.bind_some]
end
/-- Times, or none. -/
theorem earliest_any {a : SAnnealing} {k : Nat} (hA : Ann a) (c0 : annE a = 0) (hl : Lg a k) : (∃ x, nblank_Earliest k a = some (x.drop 1, [], 0) ∧ x.length = a.Steps.length + 2 ∧ Feas (a.Steps.length + 2) (sysB a) (gx x) ∧ ∀ d, Feas (a.Steps.length + 2) (sysB a) d → ∀ j, gx x j ≤ d j) ∨
    ∃ c, nblank_Earliest k a = some ([], c, 21) ∧ 1 ≤ c.length ∧ ∀ d, ¬ Feas (a.Steps.length + 2) (sysB a) d := by
  have hs := hA.ns
  have hw := hA.nw
  have hk := hl.hk
  have hlen := sysB_len a
  have hb := sysB_ok hA
  have hN : 2 ≤ a.Steps.length + 2 := by omega
  obtain ⟨q, e1, e2, e3⟩ := new_n (a := a) k (by omega) (r := (sysB a, 0)) (L := (sysB a).length) (by omega) (a.Steps.length + 1) k 0 (List.replicate (a.Steps.length + 2) 0) (by omega) (by omega) (by simp) (fun j => by rw [gx_rep]; omega)
  have hq : QOK (a.Steps.length + 2) (sysB a) q := ⟨e2, e3⟩
  have hr := rounds_n (a := a) k hk (by omega) rfl hb (by omega) (a.Steps.length + 2) k 0 (List.replicate (a.Steps.length + 2) 0) q 0 (by omega) (by omega) (by simp) hq (fun j => by rw [gx_rep]; omega)
  have h0 : ∀ j, 0 ≤ gx (List.replicate (a.Steps.length + 2) 0) j := fun j => by rw [gx_rep]; omega
  have hE : nblank_Earliest k a = (match rdB (sysB a) (a.Steps.length + 2) (List.replicate (a.Steps.length + 2) 0) q 0 with | .inl r => some (r.1.drop 1, [], 0) | .inr r => (n_blank_schedule_circle k ⟨sysB a, r.2.1, r.2.2⟩ r.1).bind fun c => some ([], c, 21)) := by
    unfold nblank_Earliest
    rw [cool_b hl, Option.bind_some, if_pos c0]
    dsimp only
    rw [if_pos rfl, w64_id (n := (a.Steps.length : Int) + 1) (by omega) (by omega), w64_id (n := (a.Steps.length : Int) + 1 + 1) (by omega) (by omega), if_pos (by omega), show ((a.Steps.length : Int) + 1 + 1).toNat = a.Steps.length + 2 by omega]
    rw [show nblank_Earliest_i25_l0_0 k a (sysB a, 0) k (List.replicate (a.Steps.length + 2) 0) 0 = some q from e1, Option.bind_some, show nblank_Earliest_l0_0 k a (sysB a, 0) k (List.replicate (a.Steps.length + 2) 0) q 0 0 = _ from hr, Option.bind_some]
    cases rdB (sysB a) (a.Steps.length + 2) (List.replicate (a.Steps.length + 2) 0) q 0 <;> rfl
  cases hy : rdB (sysB a) (a.Steps.length + 2) (List.replicate (a.Steps.length + 2) 0) q 0 with
  | inl y =>
    obtain ⟨g1, g2, g3⟩ := rd_inl hb hN _ _ q 0 y (by simp) hq h0 hy
    refine .inl ⟨y.1, by rw [hE, hy], g1, g2, fun d hd j => g3 d hd (fun j => by rw [gx_rep]; exact hd.pos j) j⟩
  | inr y =>
    obtain ⟨g1, g2, g3⟩ := rd_inr hb hN _ _ q 0 y (by simp) hq (by omega) hy
    obtain ⟨c, ec, hc⟩ := circle_n k hk (by omega) hb g1 g2 g3
    refine .inr ⟨c, by rw [hE, hy]; dsimp only; rw [ec]; rfl, hc, fun d hd => ?_⟩
    obtain ⟨z, hz⟩ := rd_done hb hN hd hq
    rw [hy] at hz; cases hz
theorem earliest_bad {a : SAnnealing} {k : Nat} (c0 : annE a ≠ 0) (hl : Lg a k) : nblank_Earliest k a = some ([], [], annE a) := by
  unfold nblank_Earliest
  rw [cool_b hl, Option.bind_some, if_neg c0]
  dsimp only
  rw [if_neg c0]
/-- when each level was raised last. -/
def rsT : List SCoolBound → Nat → Nat → List Int → (Nat → Nat) → Nat → Nat
  | [], _, _, _, T => T
  | b :: l, i, base, x, T => if gx x (fB b) < gx x (tB b) - b.Most then rsT l (i + 1) base (x.set (fB b) (gx x (tB b) - b.Most)) (fun v => if v = fB b then base + i + 1 else T v) else rsT l (i + 1) base x T
def bq (l : List SCoolBound) (q : List Int) (v : Nat) : SCoolBound := l.getD (gx q v).toNat default
structure Ch (N : Nat) (l : List SCoolBound) (x q : List Int) (T : Nat → Nat) (now : Nat) : Prop where
  le : ∀ v, T v ≤ now
  inj : ∀ v w, 0 < T v → T v = T w → v = w
  lt : ∀ v, 0 < T v → v < N
  f : ∀ v, 0 < T v → fB (bq l q v) = v
  ge : ∀ v, 0 < T v → gx x v ≤ gx x (tB (bq l q v)) - (bq l q v).Most
  gt : ∀ v, 0 < T v → T v < T (tB (bq l q v)) → gx x v < gx x (tB (bq l q v)) - (bq l q v).Most
  near : ∀ v, 0 < T v → T v ≤ T (tB (bq l q v)) + l.length
def Jd (l : List SCoolBound) (x : List Int) (T : Nat → Nat) (base i : Nat) : Prop := ∀ j, j < l.length → gx x (tB (l.getD j default)) - (l.getD j default).Most ≤ gx x (fB (l.getD j default)) ∨ (if j < i then base + j + 1 ≤ T (tB (l.getD j default)) else base + j + 1 ≤ T (tB (l.getD j default)) + l.length)
theorem rsT_props {N : Nat} {l : List SCoolBound} (hb : ∀ b ∈ l, BOK N b) (hne : ∀ b ∈ l, fB b ≠ tB b) (base : Nat) : ∀ (l2 : List SCoolBound) (i : Nat) (x q : List Int) (lev : Int) (ok : Bool) (T : Nat → Nat), l.drop i = l2 → i ≤ l.length → x.length = N → q.length = N → Ch N l x q T (base + i) → Jd l x T base i → (ok = true → base < T (lev + 1).toNat) →
    Ch N l (rsB l2 i x q lev ok).2.2.1 (rsB l2 i x q lev ok).2.2.2 (rsT l2 i base x T) (base + l.length) ∧ Jd l (rsB l2 i x q lev ok).2.2.1 (rsT l2 i base x T) base l.length ∧ ((rsB l2 i x q lev ok).2.1 = true → base < rsT l2 i base x T ((rsB l2 i x q lev ok).1 + 1).toNat)
  | [], i, x, q, lev, ok, T, hd, hi, hx, hq, hC, hJ, hok => by
    have : i = l.length := by have := congrArg List.length hd; simp at this; omega
    subst this
    exact ⟨hC, hJ, hok⟩
  | b :: l2, i, x, q, lev, ok, T, hd, hi, hx, hq, hC, hJ, hok => by
    have hlt : i < l.length := by
      rcases Nat.lt_or_ge i l.length with h | h
      · exact h
      · rw [List.drop_of_length_le h] at hd; cases hd
    have hd' := drop_get hlt default
    rw [hd] at hd'
    injection hd' with hb1 hd2
    have hmem : b ∈ l := by rw [hb1]; exact mem_getD hlt
    have hB := hb b hmem
    have hn := hne b hmem
    have hf := hB.fN
    have ht := hB.tN
    have hJi := hJ i hlt
    rw [← hb1, if_neg (by omega)] at hJi
    unfold rsB rsT
    by_cases c : gx x (fB b) < gx x (tB b) - b.Most
    · rw [if_pos c, if_pos c]
      have hJi : base + i + 1 ≤ T (tB b) + l.length := by rcases hJi with h | h; · omega
                                                          · exact h
      have hs := gx_set (x := x) (i := fB b) (by omega) (gx x (tB b) - b.Most)
      have hsq := gx_set (x := q) (i := fB b) (by omega) (i : Int)
      have hbf : bq l (q.set (fB b) (i : Int)) (fB b) = b := by unfold bq; rw [hsq, if_pos rfl, Int.toNat_natCast, ← hb1]
      have hbo : ∀ v, v ≠ fB b → bq l (q.set (fB b) (i : Int)) v = bq l q v := fun v h => by unfold bq; rw [hsq, if_neg h]
      generalize hTe : (fun v => if v = fB b then base + i + 1 else T v) = T'
      have hT : ∀ v, T' v = if v = fB b then base + i + 1 else T v := fun v => by rw [← hTe]
      refine rsT_props hb hne base l2 (i + 1) _ _ _ _ _ hd2.symm (by omega) (by simp [hx]) (by simp [hq]) ⟨fun v => ?_, fun v w hv hvw => ?_, fun v hv => ?_, fun v hv => ?_, fun v hv => ?_, fun v hv hlt => ?_, fun v hv => ?_⟩ (fun j hj => ?_) (fun _ => ?_)
      · rw [hT]; split
        · omega
        · have := hC.le v; omega
      · rw [hT] at hv hvw
        rw [hT] at hvw
        have h1 := hC.le v
        have h2 := hC.le w
        by_cases e1 : v = fB b
        · rw [if_pos e1] at hvw
          by_cases e2 : w = fB b
          · rw [e1, e2]
          · rw [if_neg e2] at hvw; omega
        · rw [if_neg e1] at hvw hv
          by_cases e2 : w = fB b
          · rw [if_pos e2] at hvw; omega
          · rw [if_neg e2] at hvw; exact hC.inj v w hv hvw
      · rw [hT] at hv
        by_cases e1 : v = fB b
        · rw [e1]; exact hf.1
        · rw [if_neg e1] at hv; exact hC.lt v hv
      · by_cases e1 : v = fB b
        · rw [e1, hbf]
        · rw [hT, if_neg e1] at hv; rw [hbo v e1]; exact hC.f v hv
      · by_cases e1 : v = fB b
        · rw [e1, hbf, hs, if_pos rfl, hs, if_neg (fun h => hn h.symm)]; exact Int.le_refl _
        · rw [hT, if_neg e1] at hv
          rw [hbo v e1, hs, if_neg e1, hs]
          have := hC.ge v hv
          split
          · rename_i e2; rw [e2] at this; omega
          · exact this
      · by_cases e1 : v = fB b
        · rw [e1, hbf, hT, hT, if_pos rfl, if_neg (fun h => hn h.symm)] at hlt
          have := hC.le (tB b); omega
        · rw [hT, if_neg e1] at hv
          rw [hbo v e1, hT, hT, if_neg e1] at hlt
          rw [hbo v e1, hs, if_neg e1, hs]
          have := hC.ge v hv
          by_cases e2 : tB (bq l q v) = fB b
          · rw [if_pos e2]; rw [e2] at this; omega
          · rw [if_neg e2]; rw [if_neg e2] at hlt; exact hC.gt v hv hlt
      · by_cases e1 : v = fB b
        · rw [e1, hbf, hT, hT, if_pos rfl, if_neg (fun h => hn h.symm)]; omega
        · rw [hT, if_neg e1] at hv
          rw [hbo v e1, hT, hT, if_neg e1]
          have h1 := hC.near v hv
          have h2 := hC.le v
          split
          · omega
          · exact h1
      · rw [hT, hs, hs]
        by_cases e0 : j = i
        · subst e0
          rw [← hb1, if_neg (fun h => hn h.symm), if_pos rfl]; exact .inl (Int.le_refl _)
        · by_cases e1 : tB (l.getD j default) = fB b
          · right
            rw [if_pos e1]
            split <;> omega
          · rw [if_neg e1, if_neg e1]
            rcases hJ j hj with h | h
            · left
              split
              · rename_i e2; rw [e2] at h; omega
              · exact h
            · right
              by_cases c2 : j < i
              · rw [if_pos c2] at h; rw [if_pos (by omega)]; exact h
              · rw [if_neg c2] at h; rw [if_neg (by omega)]; exact h
      · rw [hT, if_pos (show (b.From + 1).toNat = fB b from rfl)]; omega
    · rw [if_neg c, if_neg c]
      refine rsT_props hb hne base l2 (i + 1) x q lev ok T hd2.symm (by omega) hx hq ⟨fun v => by have := hC.le v; omega, hC.inj, hC.lt, hC.f, hC.ge, hC.gt, hC.near⟩ (fun j hj => ?_) hok
      by_cases e0 : j = i
      · subst e0; rw [← hb1]; left; omega
      · rcases hJ j hj with h | h
        · exact .inl h
        · right
          by_cases c2 : j < i
          · rw [if_pos c2] at h; rw [if_pos (by omega)]; exact h
          · rw [if_neg c2] at h; rw [if_neg (by omega)]; exact h
section
variable {N : Nat} {l : List SCoolBound}
theorem rd_ch (hb : ∀ b ∈ l, BOK N b) (hne : ∀ b ∈ l, fB b ≠ tB b) (hN : 2 ≤ N) : ∀ (r base : Nat) (x q : List Int) (lev : Int) (T : Nat → Nat) (y : Int × List Int × List Int), x.length = N → QOK N l q → Ch N l x q T base → Jd l x T base 0 → base < T (lev + 1).toNat + l.length → rdB l r x q lev = .inr y →
    ∃ T' now, Ch N l y.2.1 y.2.2 T' now ∧ base + r * l.length < T' (y.1 + 1).toNat + l.length
  | 0, base, x, q, lev, T, y, hx, hq, hC, hJ, hl, h => by
    injection h with h
    subst h
    exact ⟨T, base, hC, by dsimp only; omega⟩
  | r + 1, base, x, q, lev, T, y, hx, hq, hC, hJ, hl, h => by
    have hP := rs_at hb hN hx hq
    unfold rdB at h
    by_cases e : (rsB l 0 x q 0 false).2.1 = true
    · rw [if_pos e] at h
      obtain ⟨g1, g2, g3⟩ := rsT_props hb hne base l 0 x q 0 false T List.drop_zero (by omega) hx hq.1 hC hJ (fun h => by cases h)
      obtain ⟨T', now, k1, k2⟩ := rd_ch hb hne hN r (base + l.length) _ _ _ (rsT l 0 base x T) y hP.lx ⟨hP.lq, hP.q⟩ g1 (fun j hj => by
        have := g2 j hj
        rw [if_pos hj] at this
        rw [if_neg (by omega)]
        rcases this with h | h
        · exact .inl h
        · right; omega) (by have := g3 e; omega) h
      refine ⟨T', now, k1, ?_⟩
      rw [Nat.succ_mul]; omega
    · rw [if_neg e] at h; cases h
theorem bq_mem {q : List Int} (hq : QOK N l q) (v : Nat) : bq l q v ∈ l := by
  have := hq.2 v
  exact mem_getD (by omega)
theorem itN_succ (g : Nat → Nat) (n s : Nat) : itN g (n + 1) s = g (itN g n s) := by rw [itN_add]; rfl
/-- all levels on the circle were raised. -/
theorem all_raised {x q : List Int} {T : Nat → Nat} {now s : Nat} (hb : ∀ b ∈ l, BOK N b) (hq : QOK N l q) (hC : Ch N l x q T now) (hN : 2 ≤ N) (hs : s < N) (ht : N * l.length < T s + l.length) (n : Nat) : 0 < T (itN (stepG l q) n s) := by
  have hlt : ∀ j, j < N → stepG l q j < N := fun j _ => stepG_lt hb hq j
  obtain ⟨M, e⟩ : ∃ M, N = M + 1 := ⟨N - 1, by omega⟩
  have ht : M * l.length < T s := by rw [e, Nat.succ_mul] at ht; omega
  have hP : ∀ i, i ≤ M → T s ≤ T (itN (stepG l q) i s) + i * l.length ∧ 0 < T (itN (stepG l q) i s) := by
    intro i
    induction i with
    | zero => intro _; exact ⟨by simp [itN], by show 0 < T s; omega⟩
    | succ i ih =>
      intro hi
      obtain ⟨h1, h2⟩ := ih (by omega)
      have h3 := hC.near _ h2
      have h3 : T (itN (stepG l q) i s) ≤ T (stepG l q (itN (stepG l q) i s)) + l.length := h3
      rw [itN_succ]
      have h4 : (i + 1) * l.length ≤ M * l.length := Nat.mul_le_mul_right _ hi
      have h5 : (i + 1) * l.length = i * l.length + l.length := Nat.succ_mul _ _
      omega
  obtain ⟨i, j, h1, h2, h3⟩ := pigeon N (fun i => itN (stepG l q) i s) (fun i _ => itN_lt hlt i s hs)
  have h3 : itN (stepG l q) i s = itN (stepG l q) j s := h3
  have key : ∀ n, ∃ m, m ≤ M ∧ itN (stepG l q) n s = itN (stepG l q) m s := by
    intro n
    induction n using Nat.strongRecOn with
    | _ n ih =>
      by_cases c : n ≤ M
      · exact ⟨n, c, rfl⟩
      · obtain ⟨m, k1, k2⟩ := ih (i + (n - j)) (by omega)
        refine ⟨m, k1, ?_⟩
        rw [← k2, itN_add, h3, ← itN_add]
        congr 1; omega
  obtain ⟨m, k1, k2⟩ := key n
  rw [k2]
  exact (hP m k1).2
def pq (l : List SCoolBound) (q : List Int) : Nat → Nat → List Int
  | 0, _ => []
  | n + 1, v => gx q v :: pq l q n (stepG l q v)
def msum (l : List SCoolBound) (q : List Int) : Nat → Nat → Int
  | 0, _ => 0
  | n + 1, v => (bq l q v).Most + msum l q n (stepG l q v)
theorem pq_len (q : List Int) : ∀ n v, (pq l q n v).length = n
  | 0, v => rfl
  | n + 1, v => by simp [pq, pq_len q n]
theorem pq_last (q : List Int) : ∀ n v, (pq l q (n + 1) v).getD n 0 = gx q (itN (stepG l q) n v)
  | 0, v => rfl
  | n + 1, v => by
    show (pq l q (n + 1) (stepG l q v)).getD n 0 = _
    exact pq_last q n (stepG l q v)
theorem pq_mem {q : List Int} (hq : QOK N l q) : ∀ n v, ∀ m ∈ pq l q n v, 0 ≤ m ∧ m < (l.length : Int)
  | 0, v, m, h => by cases h
  | n + 1, v, m, h => by
    rcases List.mem_cons.1 h with e | e
    · rw [e]; exact hq.2 v
    · exact pq_mem hq n _ m e
/-- a way along the causes. -/
theorem way {x q : List Int} {T : Nat → Nat} {now : Nat} (hne : ∀ b ∈ l, fB b ≠ tB b) (hq : QOK N l q) (hC : Ch N l x q T now) : ∀ n v, (∀ i, 0 < T (itN (stepG l q) i v)) → gx x v + msum l q n v ≤ gx x (itN (stepG l q) n v) ∧ (0 < n → gx x v + msum l q n v < gx x (itN (stepG l q) n v) ∨ T (itN (stepG l q) n v) < T v)
  | 0, v, h => ⟨by simp [msum, itN], fun h => by omega⟩
  | n + 1, v, h => by
    have h0 : 0 < T v := h 0
    have h1 : 0 < T (stepG l q v) := h 1
    have hg : gx x v ≤ gx x (stepG l q v) - (bq l q v).Most := hC.ge v h0
    obtain ⟨i1, i2⟩ := way hne hq hC n (stepG l q v) (fun i => h (i + 1))
    show gx x v + ((bq l q v).Most + msum l q n (stepG l q v)) ≤ gx x (itN (stepG l q) n (stepG l q v)) ∧ _
    refine ⟨by omega, fun _ => ?_⟩
    show gx x v + ((bq l q v).Most + msum l q n (stepG l q v)) < gx x (itN (stepG l q) n (stepG l q v)) ∨ T (itN (stepG l q) n (stepG l q v)) < T v
    have hvu : stepG l q v ≠ v := fun e => by
      have h2 := hC.f v h0
      exact hne _ (bq_mem hq v) (h2.trans e.symm)
    by_cases c : T v < T (stepG l q v)
    · have : gx x v < gx x (stepG l q v) - (bq l q v).Most := hC.gt v h0 c
      left; omega
    · have hTne : T v ≠ T (stepG l q v) := fun e => hvu (hC.inj _ _ h1 e.symm)
      cases n with
      | zero => right; show T (stepG l q v) < T v; omega
      | succ n =>
        rcases i2 (by omega) with k | k
        · left; omega
        · right; omega
theorem round_e (k : Nat) (hN : N ≤ 1000) (hb : ∀ b ∈ l, BOK N b) {x q : List Int} (hq : QOK N l q) {t : Nat} : ∀ (p fuel s : Nat) (y : List Int), p < fuel → s < N → itN (stepG l q) p s = t → y.length + p ≤ 10000 → ∃ n, n ≤ p ∧ itN (stepG l q) n s = t ∧ n_blank_schedule_circle_l1_0 k ⟨l, x, q⟩ ((t : Int) - 1) fuel y ((s : Int) - 1) = some (y ++ pq l q n s) := by
  intro p
  induction p with
  | zero =>
    intro fuel s y hf hs ht hy
    obtain ⟨f, rfl⟩ : ∃ f, fuel = f + 1 := ⟨fuel - 1, by omega⟩
    have ht : s = t := ht
    refine ⟨0, Nat.le_refl _, ht, ?_⟩
    rw [n_blank_schedule_circle_l1_0.eq_2, if_pos (by omega)]; simp [pq]
  | succ p ih =>
    intro fuel s y hf hs ht hy
    obtain ⟨f, rfl⟩ : ∃ f, fuel = f + 1 := ⟨fuel - 1, by omega⟩
    rw [n_blank_schedule_circle_l1_0.eq_2]
    by_cases c : s = t
    · refine ⟨0, by omega, c, ?_⟩
      rw [if_pos (by omega)]; simp [pq]
    · have h1 := hq.1
      obtain ⟨n, hn, e1, e⟩ := ih f (stepG l q s) (y ++ ([(q.getD (s : Int).toNat 0)] : List Int)) (by omega) (stepG_lt hb hq s) ht (by simp; omega)
      refine ⟨n + 1, by omega, e1, ?_⟩
      rw [if_neg (by omega), show (s : Int) - 1 + 1 = (s : Int) by omega, w64_id (by omega) (by omega)]
      dsimp only
      rw [if_pos (by omega), if_pos (by simp; omega), before_n k hN hb hq hs, Option.bind_some, e]
      rw [List.append_assoc]; rfl
theorem circle_e (k : Nat) (hk : 1000 < k) (hN : N ≤ 900) (hb : ∀ b ∈ l, BOK N b) {x q : List Int} (hx : x.length = N) (hq : QOK N l q) {s : Nat} (hs : s < N) : ∃ n, n ≤ N ∧ itN (stepG l q) (n + 1) (itN (stepG l q) N s) = itN (stepG l q) N s ∧ n_blank_schedule_circle k ⟨l, x, q⟩ ((s : Int) - 1) = some (pq l q (n + 1) (itN (stepG l q) N s)) := by
  have hlt : ∀ j, j < N → stepG l q j < N := fun j _ => stepG_lt hb hq j
  have hw := walk_n k (by omega) hb hx hq N k 0 s (by omega) (by omega) hs
  have ht := itN_lt hlt N s hs
  obtain ⟨p, hp, hc⟩ := on_circle hlt hs
  unfold n_blank_schedule_circle
  rw [show n_blank_schedule_circle_l0_0 k ⟨l, x, q⟩ k ((s : Int) - 1) 0 = _ from hw, Option.bind_some]
  generalize itN (stepG l q) N s = t at ht hc
  have h1 := hq.1
  obtain ⟨n, hn, e1, e⟩ := round_e (x := x) k (by omega) hb hq (t := t) p k (stepG l q t) ([(q.getD (t : Int).toNat 0)] : List Int) (by omega) (stepG_lt hb hq t) hc (by simp; omega)
  refine ⟨n, by omega, e1, ?_⟩
  rw [show (t : Int) - 1 + 1 = (t : Int) by omega, w64_id (n := (t : Int)) (by omega) (by omega)]
  dsimp only
  rw [if_pos (by omega), before_n k (by omega) hb hq ht, Option.bind_some, e, Option.bind_some]; rfl
end
end Go.Proofs.Ytejannnafdcgoaa.Vg

/- blank.Earliest, plain. -/
import Derived.Test.YtclabanknlmneaaAE
set_option linter.unusedVariables false
set_option linter.unusedSimpArgs false
namespace Go.Proofs.Ytclabanknlmneaa.Vg
open Go Go.Proofs.Ytclabanknlmneaa.Ev Go.Proofs.Ytclabanknlmneaa.Vv
theorem lvlB_ok {N : Nat} (hN : 1 ≤ N) (i : Nat) : ∀ d, i + d + 1 ≤ N → ∀ b ∈ lvlB i d, BOK N b
  | 0, _, b, h => by cases h
  | d + 1, hd, b, h => by
    rcases List.mem_cons.1 h with e | e
    · subst e; exact ⟨by dsimp only; omega, by dsimp only; omega, by dsimp only; omega⟩
    · exact lvlB_ok hN (i + 1) d (by omega) b e
theorem stpB_ok {a : SAnnealing} (h : Ann a) (i : Nat) : ∀ d, i + d = a.Steps.length → ∀ b ∈ stpB a i d, BOK (a.Steps.length + 2) b
  | 0, _, b, h => by cases h
  | d + 1, hd, b, hm => by
    have hs := h.st _ (mem_getD (l := a.Steps) (i := i) (by omega))
    have hw := leastM_bd h (i := (i : Int)) (by omega)
    rcases List.mem_cons.1 hm with e | e
    · subst e; exact ⟨by dsimp only; omega, by dsimp only; omega, by dsimp only; omega⟩
    · rcases List.mem_cons.1 e with e | e
      · subst e; exact ⟨by dsimp only; omega, by dsimp only; omega, by dsimp only; omega⟩
      · exact stpB_ok h (i + 1) d (by omega) b e
theorem winB_ok {n : Nat} : ∀ l : List SCoolWindow, (∀ w ∈ l, 0 ≤ w.Level ∧ w.Level ≤ n ∧ 0 ≤ w.From ∧ w.From ≤ w.To ∧ w.To ≤ 1000000) → ∀ b ∈ winB l, BOK (n + 2) b
  | [], _, b, h => by cases h
  | w :: l, hl, b, hm => by
    have hw := hl w (by simp)
    rcases List.mem_cons.1 hm with e | e
    · subst e; exact ⟨by dsimp only; omega, by dsimp only; omega, by dsimp only; omega⟩
    · rcases List.mem_cons.1 e with e | e
      · subst e; exact ⟨by dsimp only; omega, by dsimp only; omega, by dsimp only; omega⟩
      · exact winB_ok l (fun w h => hl w (by simp [h])) b e
theorem sysB_ok {a : SAnnealing} (h : Ann a) : ∀ b ∈ sysB a, BOK (a.Steps.length + 2) b := by
  intro b hb
  unfold sysB at hb
  rcases List.mem_append.1 hb with hb | hb
  · rcases List.mem_append.1 hb with hb | hb
    · exact lvlB_ok (by omega) 0 _ (by omega) b hb
    · exact stpB_ok h 0 _ (by omega) b hb
  · exact winB_ok _ h.wi b hb
section
variable {a : SAnnealing} {l : List SCoolBound} {N : Nat}
theorem new_n (k : Nat) (hs : a.Steps.length ≤ 30) {r : List SCoolBound × Int} {L : Nat} (hL : a.Steps.length + 1 ≤ L) : ∀ (d fuel i : Nat) (y : List Int), a.Steps.length + 1 = i + d → d < fuel → y.length = a.Steps.length + 2 → (∀ j, 0 ≤ gx y j ∧ gx y j < (L : Int)) →
    ∃ q, nblank_Earliest_i77_l0_0 k a r fuel y (i : Int) = some q ∧ q.length = a.Steps.length + 2 ∧ ∀ j, 0 ≤ gx q j ∧ gx q j < (L : Int) := by
  intro d
  induction d with
  | zero =>
    intro fuel i y he hf hy hq
    obtain ⟨f, rfl⟩ : ∃ f, fuel = f + 1 := ⟨fuel - 1, by omega⟩
    refine ⟨y, ?_, hy, hq⟩
    rw [nblank_Earliest_i77_l0_0.eq_2, w64_id (n := (a.Steps.length : Int) + 1) (by omega) (by omega), if_neg (by omega)]
  | succ d ih =>
    intro fuel i y he hf hy hq
    obtain ⟨f, rfl⟩ : ∃ f, fuel = f + 1 := ⟨fuel - 1, by omega⟩
    rw [nblank_Earliest_i77_l0_0.eq_2, w64_id (n := (a.Steps.length : Int) + 1) (by omega) (by omega), if_pos (by omega), w64_succ (by omega), if_pos (by omega), Int.toNat_natCast]
    refine ih f (i + 1) _ (by omega) (by omega) (by simp [hy]) (fun j => ?_)
    rw [gx_set (by omega)]
    split
    · omega
    · exact hq j
theorem raise_n (k : Nat) (hb : ∀ b ∈ l, BOK N b) (hl : l.length ≤ 211) (y2 y3 : List Int) (x27 x8 : Int) : ∀ (d fuel i : Nat) (x q : List Int) (lev : Int) (ok : Bool) (C : Int), l.length = i + d → d < fuel → x.length = N → q.length = N → (∀ j, 0 ≤ gx x j ∧ gx x j ≤ C) → C + (d : Int) * 1000000000000 ≤ 8000000000000000000 → N ≤ 1000 →
    nblank_Earliest_i78_l0_0 k a (l, 0) y2 y3 x27 x8 fuel x q (i : Int) lev ok = some (rsB (l.drop i) i x q lev ok) := by
  intro d
  induction d with
  | zero =>
    intro fuel i x q lev ok C he hf hx hq hC hM hN
    obtain ⟨f, rfl⟩ : ∃ f, fuel = f + 1 := ⟨fuel - 1, by omega⟩
    rw [nblank_Earliest_i78_l0_0.eq_2, if_neg (by dsimp only; omega), List.drop_of_length_le (by omega)]; rfl
  | succ d ih =>
    intro fuel i x q lev ok C he hf hx hq hC hM hN
    obtain ⟨f, rfl⟩ : ∃ f, fuel = f + 1 := ⟨fuel - 1, by omega⟩
    have hB := hb _ (mem_getD (l := l) (i := i) (by omega))
    rw [nblank_Earliest_i78_l0_0.eq_2, if_pos (by dsimp only; omega), if_pos (by dsimp only; omega), drop_get (show i < l.length by omega) default]
    dsimp only
    simp only [Int.toNat_natCast]
    generalize l.getD i default = b at hB
    have hf := hB.fN
    have ht := hB.tN
    have h1 := hB.f
    have h2 := hB.t
    have h3 := hB.m
    have c1 := hC (tB b)
    rw [w64_id (n := b.To + 1) (by omega) (by omega), w64_id (n := b.From + 1) (by omega) (by omega), if_pos (by omega), if_pos (by omega)]
    rw [show x.getD (b.To + 1).toNat 0 = gx x (tB b) from rfl, show x.getD (b.From + 1).toNat 0 = gx x (fB b) from rfl, show (b.From + 1).toNat = fB b from rfl, w64_id (n := gx x (tB b) - b.Most) (by omega) (by omega), w64_succ (by omega)]
    unfold rsB
    by_cases c : gx x (fB b) < gx x (tB b) - b.Most
    · rw [if_pos c, if_pos c, if_pos (by omega)]
      refine ih f (i + 1) _ _ _ _ (C + 1000000000000) (by omega) (by omega) (by simp [hx]) (by simp [hq]) (fun j => ?_) (by omega) hN
      rw [gx_set (by omega)]
      have c2 := hC (fB b)
      split
      · omega
      · have := hC j; omega
    · rw [if_neg c, if_neg c]
      exact ih f (i + 1) _ _ _ _ C (by omega) (by omega) hx hq hC (by omega) hN
theorem rounds_n (k : Nat) (hk : 1000 < k) (hs : a.Steps.length ≤ 30) (hN : N = a.Steps.length + 2) (hb : ∀ b ∈ l, BOK N b) (hl : l.length ≤ 211) : ∀ (d fuel i : Nat) (x q : List Int) (lev : Int), N = i + d → d < fuel → x.length = N → QOK N l q → (∀ j, 0 ≤ gx x j ∧ gx x j ≤ (i : Int) * 211000000000000) →
    nblank_Earliest_l0_0 k a (l, 0) fuel x q (i : Int) lev = some (rdB l d x q lev) := by
  intro d
  induction d with
  | zero =>
    intro fuel i x q lev he hf hx hq hC
    obtain ⟨f, rfl⟩ : ∃ f, fuel = f + 1 := ⟨fuel - 1, by omega⟩
    rw [nblank_Earliest_l0_0.eq_2, w64_id (n := (a.Steps.length : Int) + 1) (by omega) (by omega), w64_id (n := (a.Steps.length : Int) + 1 + 1) (by omega) (by omega), if_neg (by omega)]; rfl
  | succ d ih =>
    intro fuel i x q lev he hf hx hq hC
    obtain ⟨f, rfl⟩ : ∃ f, fuel = f + 1 := ⟨fuel - 1, by omega⟩
    have hr := raise_n (a := a) k hb hl x q (i : Int) lev l.length k 0 x q 0 false ((i : Int) * 211000000000000) (by omega) (by omega) hx hq.1 hC (by omega) (by omega)
    rw [List.drop_zero] at hr
    have hP := rs_at hb (by omega) hx hq
    rw [nblank_Earliest_l0_0.eq_2, w64_id (n := (a.Steps.length : Int) + 1) (by omega) (by omega), w64_id (n := (a.Steps.length : Int) + 1 + 1) (by omega) (by omega), if_pos (by omega), show nblank_Earliest_i78_l0_0 k a (l, 0) x q (i : Int) lev k x q 0 0 false = _ from hr, Option.bind_some]
    rw [if_pos (hP.lx.trans hx.symm), if_pos (hP.lq.trans hq.1.symm)]
    unfold rdB
    by_cases c : (rsB l 0 x q 0 false).2.1 = true
    · rw [if_pos c, if_pos c, w64_succ (by omega)]
      refine ih f (i + 1) _ _ _ (by omega) (by omega) hP.lx ⟨hP.lq, hP.q⟩ (fun j => ⟨Int.le_trans (hC j).1 (hP.up j), ?_⟩)
      have := hP.bd _ (fun j => (hC j).2) j
      omega
    · rw [if_neg c, if_neg c, if_pos (by have := hP.lx; omega)]
def stepG (l : List SCoolBound) (q : List Int) (j : Nat) : Nat := tB (l.getD (gx q j).toNat default)
theorem stepG_lt (hb : ∀ b ∈ l, BOK N b) {q : List Int} (hq : QOK N l q) (j : Nat) : stepG l q j < N := by
  have := hq.2 j
  exact ((hb _ (mem_getD (l := l) (i := (gx q j).toNat) (by omega))).tN).1
theorem before_n (k : Nat) (hN : N ≤ 1000) (hb : ∀ b ∈ l, BOK N b) {x q : List Int} (hq : QOK N l q) {j : Nat} (hj : j < N) : n_blank_schedule_before k ⟨l, x, q⟩ ((j : Int) - 1) = some ((stepG l q j : Int) - 1) := by
  unfold n_blank_schedule_before
  have h1 := hq.1
  have h2 := hq.2 j
  have hB := hb _ (mem_getD (l := l) (i := (gx q j).toNat) (by omega))
  rw [show (j : Int) - 1 + 1 = (j : Int) by omega, w64_id (by omega) (by omega), Int.toNat_natCast]
  dsimp only
  rw [if_pos (by omega), show q.getD j 0 = gx q j from rfl, if_pos (by omega)]
  have := hB.tN.2
  congr 1
  show _ = (tB _ : Int) - 1
  omega
theorem walk_n (k : Nat) (hN : N ≤ 1000) (hb : ∀ b ∈ l, BOK N b) {x q : List Int} (hx : x.length = N) (hq : QOK N l q) : ∀ (d fuel i s : Nat), N = i + d → d < fuel → s < N → n_blank_schedule_circle_l0_0 k ⟨l, x, q⟩ fuel ((s : Int) - 1) (i : Int) = some ((itN (stepG l q) d s : Int) - 1) := by
  intro d
  induction d with
  | zero =>
    intro fuel i s he hf hs
    obtain ⟨f, rfl⟩ : ∃ f, fuel = f + 1 := ⟨fuel - 1, by omega⟩
    rw [n_blank_schedule_circle_l0_0.eq_2, if_neg (by dsimp only; omega)]; rfl
  | succ d ih =>
    intro fuel i s he hf hs
    obtain ⟨f, rfl⟩ : ∃ f, fuel = f + 1 := ⟨fuel - 1, by omega⟩
    rw [n_blank_schedule_circle_l0_0.eq_2, if_pos (by dsimp only; omega), before_n k hN hb hq hs, Option.bind_some, w64_succ (by omega)]
    exact ih f (i + 1) _ (by omega) (by omega) (stepG_lt hb hq s)
theorem round_n (k : Nat) (hN : N ≤ 1000) (hb : ∀ b ∈ l, BOK N b) {x q : List Int} (hq : QOK N l q) {t : Nat} : ∀ (p fuel s : Nat) (y : List Int), p < fuel → s < N → itN (stepG l q) p s = t → y.length + p ≤ 10000 → ∃ c, n_blank_schedule_circle_l1_0 k ⟨l, x, q⟩ ((t : Int) - 1) fuel y ((s : Int) - 1) = some c ∧ y.length ≤ c.length := by
  intro p
  induction p with
  | zero =>
    intro fuel s y hf hs ht hy
    obtain ⟨f, rfl⟩ : ∃ f, fuel = f + 1 := ⟨fuel - 1, by omega⟩
    have ht : s = t := ht
    refine ⟨y, ?_, Nat.le_refl _⟩
    rw [n_blank_schedule_circle_l1_0.eq_2, if_pos (by omega)]
  | succ p ih =>
    intro fuel s y hf hs ht hy
    obtain ⟨f, rfl⟩ : ∃ f, fuel = f + 1 := ⟨fuel - 1, by omega⟩
    rw [n_blank_schedule_circle_l1_0.eq_2]
    by_cases c : s = t
    · refine ⟨y, ?_, Nat.le_refl _⟩
      rw [if_pos (by omega)]
    · have h1 := hq.1
      obtain ⟨r, e, hr⟩ := ih f (stepG l q s) (y ++ ([(q.getD (s : Int).toNat 0)] : List Int)) (by omega) (stepG_lt hb hq s) ht (by simp; omega)
      refine ⟨r, ?_, by simp at hr; omega⟩
      rw [if_neg (by omega), show (s : Int) - 1 + 1 = (s : Int) by omega, w64_id (by omega) (by omega)]
      dsimp only
      rw [if_pos (by omega), if_pos (by simp; omega), before_n k hN hb hq hs, Option.bind_some]
      exact e
theorem circle_n (k : Nat) (hk : 1000 < k) (hN : N ≤ 900) (hb : ∀ b ∈ l, BOK N b) {x q : List Int} (hx : x.length = N) (hq : QOK N l q) {lev : Int} (hl : -1 ≤ lev ∧ lev + 1 < (N : Int)) : ∃ c, n_blank_schedule_circle k ⟨l, x, q⟩ lev = some c ∧ 1 ≤ c.length := by
  obtain ⟨s, hs, e⟩ : ∃ s : Nat, s < N ∧ lev = (s : Int) - 1 := ⟨(lev + 1).toNat, by omega, by omega⟩
  subst e
  have hlt : ∀ j, j < N → stepG l q j < N := fun j _ => stepG_lt hb hq j
  have hw := walk_n k (by omega) hb hx hq N k 0 s (by omega) (by omega) hs
  have ht := itN_lt hlt N s hs
  obtain ⟨p, hp, hc⟩ := on_circle hlt hs
  unfold n_blank_schedule_circle
  rw [show n_blank_schedule_circle_l0_0 k ⟨l, x, q⟩ k ((s : Int) - 1) 0 = _ from hw, Option.bind_some]
  generalize itN (stepG l q) N s = t at ht hc
  have h1 := hq.1
  obtain ⟨c, e, hc⟩ := round_n (x := x) k (by omega) hb hq (t := t) p k (stepG l q t) ([(q.getD (t : Int).toNat 0)] : List Int) (by omega) (stepG_lt hb hq t) hc (by simp; omega)
  refine ⟨c, ?_, hc⟩
  rw [show (t : Int) - 1 + 1 = (t : Int) by omega, w64_id (n := (t : Int)) (by omega) (by omega)]
  dsimp only
  rw [if_pos (by omega), before_n k (by omega) hb hq ht, Option.bind_some, e, Option.bind_some]
end
/-- Times, or none. -/
theorem earliest_any {a : SAnnealing} {k : Nat} (hA : Ann a) (c0 : annE a = 0) (hl : Lg a k) : (∃ x, nblank_Earliest k a = some (x.drop 1, [], 0) ∧ x.length = a.Steps.length + 2 ∧ Feas (a.Steps.length + 2) (sysB a) (gx x) ∧ ∀ d, Feas (a.Steps.length + 2) (sysB a) d → ∀ j, gx x j ≤ d j) ∨
    ∃ c, nblank_Earliest k a = some ([], c, 21) ∧ 1 ≤ c.length ∧ ∀ d, ¬ Feas (a.Steps.length + 2) (sysB a) d := by
  have hs := hA.ns
  have hw := hA.nw
  have hk := hl.hk
  have hlen := sysB_len a
  have hb := sysB_ok hA
  have hN : 2 ≤ a.Steps.length + 2 := by omega
  obtain ⟨q, e1, e2, e3⟩ := new_n (a := a) k (by omega) (r := (sysB a, 0)) (L := (sysB a).length) (by omega) (a.Steps.length + 1) k 0 (List.replicate (a.Steps.length + 2) 0) (by omega) (by omega) (by simp) (fun j => by rw [gx_rep]; omega)
  have hq : QOK (a.Steps.length + 2) (sysB a) q := ⟨e2, e3⟩
  have hr := rounds_n (a := a) k hk (by omega) rfl hb (by omega) (a.Steps.length + 2) k 0 (List.replicate (a.Steps.length + 2) 0) q 0 (by omega) (by omega) (by simp) hq (fun j => by rw [gx_rep]; omega)
  have h0 : ∀ j, 0 ≤ gx (List.replicate (a.Steps.length + 2) 0) j := fun j => by rw [gx_rep]; omega
  have hE : nblank_Earliest k a = (match rdB (sysB a) (a.Steps.length + 2) (List.replicate (a.Steps.length + 2) 0) q 0 with | .inl r => some (r.1.drop 1, [], 0) | .inr r => (n_blank_schedule_circle k ⟨sysB a, r.2.1, r.2.2⟩ r.1).bind fun c => some ([], c, 21)) := by
    unfold nblank_Earliest
    rw [cool_b hl, Option.bind_some, if_pos c0]
    dsimp only
    rw [if_pos rfl, w64_id (n := (a.Steps.length : Int) + 1) (by omega) (by omega), w64_id (n := (a.Steps.length : Int) + 1 + 1) (by omega) (by omega), if_pos (by omega), show ((a.Steps.length : Int) + 1 + 1).toNat = a.Steps.length + 2 by omega]
    rw [show nblank_Earliest_i77_l0_0 k a (sysB a, 0) k (List.replicate (a.Steps.length + 2) 0) 0 = some q from e1, Option.bind_some, show nblank_Earliest_l0_0 k a (sysB a, 0) k (List.replicate (a.Steps.length + 2) 0) q 0 0 = _ from hr, Option.bind_some]
    cases rdB (sysB a) (a.Steps.length + 2) (List.replicate (a.Steps.length + 2) 0) q 0 <;> rfl
  cases hy : rdB (sysB a) (a.Steps.length + 2) (List.replicate (a.Steps.length + 2) 0) q 0 with
  | inl y =>
    obtain ⟨g1, g2, g3⟩ := rd_inl hb hN _ _ q 0 y (by simp) hq h0 hy
    refine .inl ⟨y.1, by rw [hE, hy], g1, g2, fun d hd j => g3 d hd (fun j => by rw [gx_rep]; exact hd.pos j) j⟩
  | inr y =>
    obtain ⟨g1, g2, g3⟩ := rd_inr hb hN _ _ q 0 y (by simp) hq (by omega) hy
    obtain ⟨c, ec, hc⟩ := circle_n k hk (by omega) hb g1 g2 g3
    refine .inr ⟨c, by rw [hE, hy]; dsimp only; rw [ec]; rfl, hc, fun d hd => ?_⟩
    obtain ⟨z, hz⟩ := rd_done hb hN hd hq
    rw [hy] at hz; cases hz
theorem earliest_bad {a : SAnnealing} {k : Nat} (c0 : annE a ≠ 0) (hl : Lg a k) : nblank_Earliest k a = some ([], [], annE a) := by
  unfold nblank_Earliest
  rw [cool_b hl, Option.bind_some, if_neg c0]
  dsimp only
  rw [if_neg c0]
end Go.Proofs.Ytclabanknlmneaa.Vg

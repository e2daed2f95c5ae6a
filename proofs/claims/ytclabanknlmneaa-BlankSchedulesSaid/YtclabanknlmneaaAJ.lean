/- The circle behind a level that the last round raised, plain. -/
import Derived.Test.YtclabanknlmneaaAF
set_option linter.unusedVariables false
set_option linter.unusedSimpArgs false
namespace Go.Proofs.Ytclabanknlmneaa.Vg
open Go Go.Proofs.Ytclabanknlmneaa.Ev Go.Proofs.Ytclabanknlmneaa.Vv
/-- when each level was raised last. -/
def rsT : List SCoolBound → Nat → Nat → List Int → (Nat → Nat) → Nat → Nat
  | [], _, _, _, T => T
  | b :: l, i, base, x, T => if gx x (fB b) < gx x (tB b) - b.Most then rsT l (i + 1) base (x.set (fB b) (gx x (tB b) - b.Most)) (fun v => if v = fB b then base + i + 1 else T v) else rsT l (i + 1) base x T
def bq (l : List SCoolBound) (q : List Int) (v : Nat) : SCoolBound := l.getD (gx q v).toNat default
structure Ch (N : Nat) (l : List SCoolBound) (x q : List Int) (T : Nat → Nat) (now : Nat) : Prop where
  le : ∀ v, T v ≤ now
  inj : ∀ v w, 0 < T v → T v = T w → v = w
  lt : ∀ v, 0 < T v → v < N
  f : ∀ v, 0 < T v → fB (bq l q v) = v
  ge : ∀ v, 0 < T v → gx x v ≤ gx x (tB (bq l q v)) - (bq l q v).Most
  gt : ∀ v, 0 < T v → T v < T (tB (bq l q v)) → gx x v < gx x (tB (bq l q v)) - (bq l q v).Most
  near : ∀ v, 0 < T v → T v ≤ T (tB (bq l q v)) + l.length
def Jd (l : List SCoolBound) (x : List Int) (T : Nat → Nat) (base i : Nat) : Prop := ∀ j, j < l.length → gx x (tB (l.getD j default)) - (l.getD j default).Most ≤ gx x (fB (l.getD j default)) ∨ (if j < i then base + j + 1 ≤ T (tB (l.getD j default)) else base + j + 1 ≤ T (tB (l.getD j default)) + l.length)
theorem rsT_props {N : Nat} {l : List SCoolBound} (hb : ∀ b ∈ l, BOK N b) (hne : ∀ b ∈ l, fB b ≠ tB b) (base : Nat) : ∀ (l2 : List SCoolBound) (i : Nat) (x q : List Int) (lev : Int) (ok : Bool) (T : Nat → Nat), l.drop i = l2 → i ≤ l.length → x.length = N → q.length = N → Ch N l x q T (base + i) → Jd l x T base i → (ok = true → base < T (lev + 1).toNat) →
    Ch N l (rsB l2 i x q lev ok).2.2.1 (rsB l2 i x q lev ok).2.2.2 (rsT l2 i base x T) (base + l.length) ∧ Jd l (rsB l2 i x q lev ok).2.2.1 (rsT l2 i base x T) base l.length ∧ ((rsB l2 i x q lev ok).2.1 = true → base < rsT l2 i base x T ((rsB l2 i x q lev ok).1 + 1).toNat)
  | [], i, x, q, lev, ok, T, hd, hi, hx, hq, hC, hJ, hok => by
    have : i = l.length := by have := congrArg List.length hd; simp at this; omega
    subst this
    exact ⟨hC, hJ, hok⟩
  | b :: l2, i, x, q, lev, ok, T, hd, hi, hx, hq, hC, hJ, hok => by
    have hlt : i < l.length := by
      rcases Nat.lt_or_ge i l.length with h | h
      · exact h
      · rw [List.drop_of_length_le h] at hd; cases hd
    have hd' := drop_get hlt default
    rw [hd] at hd'
    injection hd' with hb1 hd2
    have hmem : b ∈ l := by rw [hb1]; exact mem_getD hlt
    have hB := hb b hmem
    have hn := hne b hmem
    have hf := hB.fN
    have ht := hB.tN
    have hJi := hJ i hlt
    rw [← hb1, if_neg (by omega)] at hJi
    unfold rsB rsT
    by_cases c : gx x (fB b) < gx x (tB b) - b.Most
    · rw [if_pos c, if_pos c]
      have hJi : base + i + 1 ≤ T (tB b) + l.length := by rcases hJi with h | h; · omega
                                                          · exact h
      have hs := gx_set (x := x) (i := fB b) (by omega) (gx x (tB b) - b.Most)
      have hsq := gx_set (x := q) (i := fB b) (by omega) (i : Int)
      have hbf : bq l (q.set (fB b) (i : Int)) (fB b) = b := by unfold bq; rw [hsq, if_pos rfl, Int.toNat_natCast, ← hb1]
      have hbo : ∀ v, v ≠ fB b → bq l (q.set (fB b) (i : Int)) v = bq l q v := fun v h => by unfold bq; rw [hsq, if_neg h]
      generalize hTe : (fun v => if v = fB b then base + i + 1 else T v) = T'
      have hT : ∀ v, T' v = if v = fB b then base + i + 1 else T v := fun v => by rw [← hTe]
      refine rsT_props hb hne base l2 (i + 1) _ _ _ _ _ hd2.symm (by omega) (by simp [hx]) (by simp [hq]) ⟨fun v => ?_, fun v w hv hvw => ?_, fun v hv => ?_, fun v hv => ?_, fun v hv => ?_, fun v hv hlt => ?_, fun v hv => ?_⟩ (fun j hj => ?_) (fun _ => ?_)
      · rw [hT]; split
        · omega
        · have := hC.le v; omega
      · rw [hT] at hv hvw
        rw [hT] at hvw
        have h1 := hC.le v
        have h2 := hC.le w
        by_cases e1 : v = fB b
        · rw [if_pos e1] at hvw
          by_cases e2 : w = fB b
          · rw [e1, e2]
          · rw [if_neg e2] at hvw; omega
        · rw [if_neg e1] at hvw hv
          by_cases e2 : w = fB b
          · rw [if_pos e2] at hvw; omega
          · rw [if_neg e2] at hvw; exact hC.inj v w hv hvw
      · rw [hT] at hv
        by_cases e1 : v = fB b
        · rw [e1]; exact hf.1
        · rw [if_neg e1] at hv; exact hC.lt v hv
      · by_cases e1 : v = fB b
        · rw [e1, hbf]
        · rw [hT, if_neg e1] at hv; rw [hbo v e1]; exact hC.f v hv
      · by_cases e1 : v = fB b
        · rw [e1, hbf, hs, if_pos rfl, hs, if_neg (fun h => hn h.symm)]; exact Int.le_refl _
        · rw [hT, if_neg e1] at hv
          rw [hbo v e1, hs, if_neg e1, hs]
          have := hC.ge v hv
          split
          · rename_i e2; rw [e2] at this; omega
          · exact this
      · by_cases e1 : v = fB b
        · rw [e1, hbf, hT, hT, if_pos rfl, if_neg (fun h => hn h.symm)] at hlt
          have := hC.le (tB b); omega
        · rw [hT, if_neg e1] at hv
          rw [hbo v e1, hT, hT, if_neg e1] at hlt
          rw [hbo v e1, hs, if_neg e1, hs]
          have := hC.ge v hv
          by_cases e2 : tB (bq l q v) = fB b
          · rw [if_pos e2]; rw [e2] at this; omega
          · rw [if_neg e2]; rw [if_neg e2] at hlt; exact hC.gt v hv hlt
      · by_cases e1 : v = fB b
        · rw [e1, hbf, hT, hT, if_pos rfl, if_neg (fun h => hn h.symm)]; omega
        · rw [hT, if_neg e1] at hv
          rw [hbo v e1, hT, hT, if_neg e1]
          have h1 := hC.near v hv
          have h2 := hC.le v
          split
          · omega
          · exact h1
      · rw [hT, hs, hs]
        by_cases e0 : j = i
        · subst e0
          rw [← hb1, if_neg (fun h => hn h.symm), if_pos rfl]; exact .inl (Int.le_refl _)
        · by_cases e1 : tB (l.getD j default) = fB b
          · right
            rw [if_pos e1]
            split <;> omega
          · rw [if_neg e1, if_neg e1]
            rcases hJ j hj with h | h
            · left
              split
              · rename_i e2; rw [e2] at h; omega
              · exact h
            · right
              by_cases c2 : j < i
              · rw [if_pos c2] at h; rw [if_pos (by omega)]; exact h
              · rw [if_neg c2] at h; rw [if_neg (by omega)]; exact h
      · rw [hT, if_pos (show (b.From + 1).toNat = fB b from rfl)]; omega
    · rw [if_neg c, if_neg c]
      refine rsT_props hb hne base l2 (i + 1) x q lev ok T hd2.symm (by omega) hx hq ⟨fun v => by have := hC.le v; omega, hC.inj, hC.lt, hC.f, hC.ge, hC.gt, hC.near⟩ (fun j hj => ?_) hok
      by_cases e0 : j = i
      · subst e0; rw [← hb1]; left; omega
      · rcases hJ j hj with h | h
        · exact .inl h
        · right
          by_cases c2 : j < i
          · rw [if_pos c2] at h; rw [if_pos (by omega)]; exact h
          · rw [if_neg c2] at h; rw [if_neg (by omega)]; exact h
section
variable {N : Nat} {l : List SCoolBound}
theorem rd_ch (hb : ∀ b ∈ l, BOK N b) (hne : ∀ b ∈ l, fB b ≠ tB b) (hN : 2 ≤ N) : ∀ (r base : Nat) (x q : List Int) (lev : Int) (T : Nat → Nat) (y : Int × List Int × List Int), x.length = N → QOK N l q → Ch N l x q T base → Jd l x T base 0 → base < T (lev + 1).toNat + l.length → rdB l r x q lev = .inr y →
    ∃ T' now, Ch N l y.2.1 y.2.2 T' now ∧ base + r * l.length < T' (y.1 + 1).toNat + l.length
  | 0, base, x, q, lev, T, y, hx, hq, hC, hJ, hl, h => by
    injection h with h
    subst h
    exact ⟨T, base, hC, by dsimp only; omega⟩
  | r + 1, base, x, q, lev, T, y, hx, hq, hC, hJ, hl, h => by
    have hP := rs_at hb hN hx hq
    unfold rdB at h
    by_cases e : (rsB l 0 x q 0 false).2.1 = true
    · rw [if_pos e] at h
      obtain ⟨g1, g2, g3⟩ := rsT_props hb hne base l 0 x q 0 false T List.drop_zero (by omega) hx hq.1 hC hJ (fun h => by cases h)
      obtain ⟨T', now, k1, k2⟩ := rd_ch hb hne hN r (base + l.length) _ _ _ (rsT l 0 base x T) y hP.lx ⟨hP.lq, hP.q⟩ g1 (fun j hj => by
        have := g2 j hj
        rw [if_pos hj] at this
        rw [if_neg (by omega)]
        rcases this with h | h
        · exact .inl h
        · right; omega) (by have := g3 e; omega) h
      refine ⟨T', now, k1, ?_⟩
      rw [Nat.succ_mul]; omega
    · rw [if_neg e] at h; cases h
theorem bq_mem {q : List Int} (hq : QOK N l q) (v : Nat) : bq l q v ∈ l := by
  have := hq.2 v
  exact mem_getD (by omega)
theorem itN_succ (g : Nat → Nat) (n s : Nat) : itN g (n + 1) s = g (itN g n s) := by rw [itN_add]; rfl
/-- all levels on the circle were raised. -/
theorem all_raised {x q : List Int} {T : Nat → Nat} {now s : Nat} (hb : ∀ b ∈ l, BOK N b) (hq : QOK N l q) (hC : Ch N l x q T now) (hN : 2 ≤ N) (hs : s < N) (ht : N * l.length < T s + l.length) (n : Nat) : 0 < T (itN (stepG l q) n s) := by
  have hlt : ∀ j, j < N → stepG l q j < N := fun j _ => stepG_lt hb hq j
  obtain ⟨M, e⟩ : ∃ M, N = M + 1 := ⟨N - 1, by omega⟩
  have ht : M * l.length < T s := by rw [e, Nat.succ_mul] at ht; omega
  have hP : ∀ i, i ≤ M → T s ≤ T (itN (stepG l q) i s) + i * l.length ∧ 0 < T (itN (stepG l q) i s) := by
    intro i
    induction i with
    | zero => intro _; exact ⟨by simp [itN], by show 0 < T s; omega⟩
    | succ i ih =>
      intro hi
      obtain ⟨h1, h2⟩ := ih (by omega)
      have h3 := hC.near _ h2
      have h3 : T (itN (stepG l q) i s) ≤ T (stepG l q (itN (stepG l q) i s)) + l.length := h3
      rw [itN_succ]
      have h4 : (i + 1) * l.length ≤ M * l.length := Nat.mul_le_mul_right _ hi
      have h5 : (i + 1) * l.length = i * l.length + l.length := Nat.succ_mul _ _
      omega
  obtain ⟨i, j, h1, h2, h3⟩ := pigeon N (fun i => itN (stepG l q) i s) (fun i _ => itN_lt hlt i s hs)
  have h3 : itN (stepG l q) i s = itN (stepG l q) j s := h3
  have key : ∀ n, ∃ m, m ≤ M ∧ itN (stepG l q) n s = itN (stepG l q) m s := by
    intro n
    induction n using Nat.strongRecOn with
    | _ n ih =>
      by_cases c : n ≤ M
      · exact ⟨n, c, rfl⟩
      · obtain ⟨m, k1, k2⟩ := ih (i + (n - j)) (by omega)
        refine ⟨m, k1, ?_⟩
        rw [← k2, itN_add, h3, ← itN_add]
        congr 1; omega
  obtain ⟨m, k1, k2⟩ := key n
  rw [k2]
  exact (hP m k1).2
def pq (l : List SCoolBound) (q : List Int) : Nat → Nat → List Int
  | 0, _ => []
  | n + 1, v => gx q v :: pq l q n (stepG l q v)
def msum (l : List SCoolBound) (q : List Int) : Nat → Nat → Int
  | 0, _ => 0
  | n + 1, v => (bq l q v).Most + msum l q n (stepG l q v)
theorem pq_len (q : List Int) : ∀ n v, (pq l q n v).length = n
  | 0, v => rfl
  | n + 1, v => by simp [pq, pq_len q n]
theorem pq_last (q : List Int) : ∀ n v, (pq l q (n + 1) v).getD n 0 = gx q (itN (stepG l q) n v)
  | 0, v => rfl
  | n + 1, v => by
    show (pq l q (n + 1) (stepG l q v)).getD n 0 = _
    exact pq_last q n (stepG l q v)
theorem pq_mem {q : List Int} (hq : QOK N l q) : ∀ n v, ∀ m ∈ pq l q n v, 0 ≤ m ∧ m < (l.length : Int)
  | 0, v, m, h => by cases h
  | n + 1, v, m, h => by
    rcases List.mem_cons.1 h with e | e
    · rw [e]; exact hq.2 v
    · exact pq_mem hq n _ m e
/-- a way along the causes. -/
theorem way {x q : List Int} {T : Nat → Nat} {now : Nat} (hne : ∀ b ∈ l, fB b ≠ tB b) (hq : QOK N l q) (hC : Ch N l x q T now) : ∀ n v, (∀ i, 0 < T (itN (stepG l q) i v)) → gx x v + msum l q n v ≤ gx x (itN (stepG l q) n v) ∧ (0 < n → gx x v + msum l q n v < gx x (itN (stepG l q) n v) ∨ T (itN (stepG l q) n v) < T v)
  | 0, v, h => ⟨by simp [msum, itN], fun h => by omega⟩
  | n + 1, v, h => by
    have h0 : 0 < T v := h 0
    have h1 : 0 < T (stepG l q v) := h 1
    have hg : gx x v ≤ gx x (stepG l q v) - (bq l q v).Most := hC.ge v h0
    obtain ⟨i1, i2⟩ := way hne hq hC n (stepG l q v) (fun i => h (i + 1))
    show gx x v + ((bq l q v).Most + msum l q n (stepG l q v)) ≤ gx x (itN (stepG l q) n (stepG l q v)) ∧ _
    refine ⟨by omega, fun _ => ?_⟩
    show gx x v + ((bq l q v).Most + msum l q n (stepG l q v)) < gx x (itN (stepG l q) n (stepG l q v)) ∨ T (itN (stepG l q) n (stepG l q v)) < T v
    have hvu : stepG l q v ≠ v := fun e => by
      have h2 := hC.f v h0
      exact hne _ (bq_mem hq v) (h2.trans e.symm)
    by_cases c : T v < T (stepG l q v)
    · have : gx x v < gx x (stepG l q v) - (bq l q v).Most := hC.gt v h0 c
      left; omega
    · have hTne : T v ≠ T (stepG l q v) := fun e => hvu (hC.inj _ _ h1 e.symm)
      cases n with
      | zero => right; show T (stepG l q v) < T v; omega
      | succ n =>
        rcases i2 (by omega) with k | k
        · left; omega
        · right; omega
theorem round_e (k : Nat) (hN : N ≤ 1000) (hb : ∀ b ∈ l, BOK N b) {x q : List Int} (hq : QOK N l q) {t : Nat} : ∀ (p fuel s : Nat) (y : List Int), p < fuel → s < N → itN (stepG l q) p s = t → y.length + p ≤ 10000 → ∃ n, n ≤ p ∧ itN (stepG l q) n s = t ∧ n_blank_schedule_circle_l1_0 k ⟨l, x, q⟩ ((t : Int) - 1) fuel y ((s : Int) - 1) = some (y ++ pq l q n s) := by
  intro p
  induction p with
  | zero =>
    intro fuel s y hf hs ht hy
    obtain ⟨f, rfl⟩ : ∃ f, fuel = f + 1 := ⟨fuel - 1, by omega⟩
    have ht : s = t := ht
    refine ⟨0, Nat.le_refl _, ht, ?_⟩
    rw [n_blank_schedule_circle_l1_0.eq_2, if_pos (by omega)]; simp [pq]
  | succ p ih =>
    intro fuel s y hf hs ht hy
    obtain ⟨f, rfl⟩ : ∃ f, fuel = f + 1 := ⟨fuel - 1, by omega⟩
    rw [n_blank_schedule_circle_l1_0.eq_2]
    by_cases c : s = t
    · refine ⟨0, by omega, c, ?_⟩
      rw [if_pos (by omega)]; simp [pq]
    · have h1 := hq.1
      obtain ⟨n, hn, e1, e⟩ := ih f (stepG l q s) (y ++ ([(q.getD (s : Int).toNat 0)] : List Int)) (by omega) (stepG_lt hb hq s) ht (by simp; omega)
      refine ⟨n + 1, by omega, e1, ?_⟩
      rw [if_neg (by omega), show (s : Int) - 1 + 1 = (s : Int) by omega, w64_id (by omega) (by omega)]
      dsimp only
      rw [if_pos (by omega), if_pos (by simp; omega), before_n k hN hb hq hs, Option.bind_some, e]
      rw [List.append_assoc]; rfl
theorem circle_e (k : Nat) (hk : 1000 < k) (hN : N ≤ 900) (hb : ∀ b ∈ l, BOK N b) {x q : List Int} (hx : x.length = N) (hq : QOK N l q) {s : Nat} (hs : s < N) : ∃ n, n ≤ N ∧ itN (stepG l q) (n + 1) (itN (stepG l q) N s) = itN (stepG l q) N s ∧ n_blank_schedule_circle k ⟨l, x, q⟩ ((s : Int) - 1) = some (pq l q (n + 1) (itN (stepG l q) N s)) := by
  have hlt : ∀ j, j < N → stepG l q j < N := fun j _ => stepG_lt hb hq j
  have hw := walk_n k (by omega) hb hx hq N k 0 s (by omega) (by omega) hs
  have ht := itN_lt hlt N s hs
  obtain ⟨p, hp, hc⟩ := on_circle hlt hs
  unfold n_blank_schedule_circle
  rw [show n_blank_schedule_circle_l0_0 k ⟨l, x, q⟩ k ((s : Int) - 1) 0 = _ from hw, Option.bind_some]
  generalize itN (stepG l q) N s = t at ht hc
  have h1 := hq.1
  obtain ⟨n, hn, e1, e⟩ := round_e (x := x) k (by omega) hb hq (t := t) p k (stepG l q t) ([(q.getD (t : Int).toNat 0)] : List Int) (by omega) (stepG_lt hb hq t) hc (by simp; omega)
  refine ⟨n, by omega, e1, ?_⟩
  rw [show (t : Int) - 1 + 1 = (t : Int) by omega, w64_id (n := (t : Int)) (by omega) (by omega)]
  dsimp only
  rw [if_pos (by omega), before_n k (by omega) hb hq ht, Option.bind_some, e, Option.bind_some]; rfl
end
end Go.Proofs.Ytclabanknlmneaa.Vg

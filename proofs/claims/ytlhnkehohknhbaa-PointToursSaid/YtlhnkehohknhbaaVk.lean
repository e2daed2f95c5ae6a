/- Arguments that come in, read as trees: lists of anything that opens. -/
import Derived.Test.YtlhnkehohknhbaaVi
import Derived.Deep.Slices
set_option linter.unusedVariables false
set_option linter.unusedSimpArgs false
namespace Go.Proofs.Ytlhnkehohknhbaa.Vv
open Go Go.Proofs.Ytlhnkehohknhbaa.Ev
open Go.ChangeShapes Go.WideShapes Go.RowKit Go.Joins Go.Deep
variable {H : Type} {enc : TypeId × Value → H} {P : Program} {W : World}
theorem list_choose {S : Type} {p : Nat → S → Prop} : ∀ (n : Nat), (∀ i, i < n → ∃ s, p i s) → ∃ xs : List S, xs.length = n ∧ ∀ i s, xs[i]? = some s → p i s
  | 0, _ => ⟨[], rfl, fun i s h => by simp at h⟩
  | n + 1, h => by
    obtain ⟨xs, h1, h2⟩ := list_choose n fun i hi => h i (by omega)
    obtain ⟨s, hs⟩ := h n (by omega)
    refine ⟨xs ++ [s], by simp [h1], fun i u hu => ?_⟩
    rcases Nat.lt_or_ge i n with hi | hi
    · rw [List.getElem?_append_left (by omega)] at hu; exact h2 i u hu
    · have hl := (List.getElem?_eq_some_iff.1 hu).1
      simp at hl
      obtain rfl : i = n := by omega
      rw [List.getElem?_append_right (by omega), h1, Nat.sub_self] at hu
      simp at hu; subst hu; exact hs
theorem flat_get {S : Type} {f : S → List VV} {m : Nat} (hf : ∀ s, (f s).length = m) : ∀ (xs : List S) (j : Nat) (v : VV), (xs.flatMap f)[j]? = some v → ∃ i s r, xs[i]? = some s ∧ j = i * m + r ∧ r < m ∧ (f s)[r]? = some v
  | [], j, v, h => by simp at h
  | s :: xs, j, v, h => by
    rw [List.flatMap_cons] at h
    rcases Nat.lt_or_ge j m with hj | hj
    · rw [List.getElem?_append_left (by rw [hf]; exact hj)] at h
      exact ⟨0, s, j, rfl, by omega, hj, h⟩
    · rw [List.getElem?_append_right (by rw [hf]; exact hj), hf] at h
      obtain ⟨i, u, r, h1, h2, h3, h4⟩ := flat_get hf xs (j - m) v h
      exact ⟨i + 1, u, r, by simpa using h1, by rw [Nat.add_mul]; omega, h3, h4⟩
theorem add_add (a : Addr) (x y : Nat) : (a.add x).add y = a.add (x + y) := by
  unfold Addr.add
  by_cases h1 : x = 0
  · subst h1; simp
  · by_cases h2 : y = 0
    · subst h2; simp [h1]
    · simp [h1, h2, Nat.add_assoc]
theorem T_of_cells' {a : Addr} {n c N : Nat} {vs : List VV} {f : Nat → Value} (hn : vs.length ≤ N) (hc : n ≤ c) (hN : 0 < c → 0 < N) (hcell : ∀ i, i < N → W.cell? (a.add i) = some (f i)) (hT : ∀ i v, vs[i]? = some v → T (allM W) v (f i)) : T (allM W) (.tr vs n) (.slice (some a) n c) := by
  rcases Nat.eq_zero_or_pos c with rfl | hpos
  · obtain rfl : n = 0 := by omega
    exact .e
  have hNp := hN hpos
  have key := T_of_cells (W := W) (a := a) (n := vs.length) (c := N) (vs := vs) (f := f) rfl hn hcell hT
  generalize vs.length = L at key
  cases key with
  | e => omega
  | tr hb h1 h2 h3 => exact .tr hb hc h2 h3
theorem opens_list {t e : TypeId} {m : Nat} {S : Type} {f : S → List VV} (ht : P.underlying t = some (.slice e)) (hm : P.cellsOf e = m) (hpos : 0 < m) (hf : ∀ s, (f s).length = m) (h : Opens H enc P W e S f) : Opens H enc P W t (List S) fun xs => [VV.tr (xs.flatMap f) xs.length] := by
  intro fuel cs x hx
  have one : ∀ {v' : Value} {xs : List S}, T (allM W) (.tr (xs.flatMap f) xs.length) v' → ∃ s : List S, [v'].length = [VV.tr (s.flatMap f) s.length].length ∧ ∀ (j : Nat) (v : VV) (u : Value), [VV.tr (s.flatMap f) s.length][j]? = some v → [v'][j]? = some u → T (allM W) v u := by
    intro v' xs h
    refine ⟨xs, rfl, fun j v u a b => ?_⟩
    cases j with
    | zero => simp at a b; subst a; subst b; exact h
    | succ j => simp at a
  rcases open_slice ht hx with ⟨hcs, _⟩ | ⟨a, len, cap, k, n, D, Pl, hcs, hb, hl, hmx, hmm, _, hel⟩
  · subst hcs
    exact one (xs := []) .e
  · subst hcs
    simp only [if_true] at hmm
    subst hmm
    rw [hm] at hel
    have hall : ∀ i, i < k → ∃ s : S, ∃ l : List Value, W.cells? 0 (a.add (i * m)) m = some l ∧ l.length = (f s).length ∧ ∀ (j : Nat) (v : VV) (v' : Value), (f s)[j]? = some v → l[j]? = some v' → T (allM W) v v' := by
      intro i hi
      obtain ⟨l, h1, h2⟩ := hel i hi
      obtain ⟨s, h3, h4⟩ := h n l _ h2
      exact ⟨s, l, h1, h3, h4⟩
    obtain ⟨ys, y1, y2⟩ := list_choose k hall
    have hcell : ∀ j, j < k * m → ∃ v, W.cell? (a.add j) = some v := by
      intro j hj
      have hi : j / m < k := Nat.div_lt_of_lt_mul (by rw [Nat.mul_comm]; exact hj)
      obtain ⟨l, h1, _⟩ := hel (j / m) hi
      obtain ⟨_, h2, h3⟩ := World.cells?_some h1
      have hr : j % m < m := Nat.mod_lt _ hpos
      have h4 := h3 (j % m) hr
      rw [add_add, show j / m * m + j % m = j by rw [Nat.mul_comm]; exact Nat.div_add_mod j m] at h4
      rw [h4]
      exact ⟨_, List.getElem?_eq_getElem (by omega)⟩
    have hlen : (ys.take len).length = len := by rw [List.length_take]; omega
    refine one (xs := ys.take len) ?_
    have hflat : ((ys.take len).flatMap f).length = len * m := by
      rw [List.length_flatMap, show (fun s => (f s).length) = fun _ => m from funext hf]
      simp [List.map_const', Nat.min_eq_left (show len ≤ ys.length by omega)]
    rw [hlen]
    refine T_of_cells' (N := k * m) (f := fun j => (W.cell? (a.add j)).getD undef) (by rw [hflat]; exact Nat.mul_le_mul_right m hl) hl (fun hk => Nat.mul_pos hk hpos) (fun j hj => ?_) (fun j v hv => ?_)
    · obtain ⟨v, hv⟩ := hcell j hj
      show _ = some ((W.cell? (a.add j)).getD undef)
      rw [hv]; rfl
    · obtain ⟨i, s, r, g1, g2, g3, g4⟩ := flat_get hf _ j v hv
      rw [List.getElem?_take] at g1
      by_cases hi : i < len
      · rw [if_pos hi] at g1
        obtain ⟨l, h1, h2, h3⟩ := y2 i s g1
        obtain ⟨_, h4, h5⟩ := World.cells?_some h1
        have h6 := h5 r g3
        rw [add_add, ← g2] at h6
        have hr : r < l.length := by omega
        rw [List.getElem?_eq_getElem hr] at h6
        show T (allM W) v ((W.cell? (a.add j)).getD undef)
        rw [h6]
        exact h3 r v _ g4 (List.getElem?_eq_getElem hr)
      · rw [if_neg hi] at g1; cases g1
theorem okWide_array2 {r : Reach} {base : Nat} {t e : TypeId} {v : Value} (ht : P.underlying t = some (.array 2 e)) (h : Value.okWide P W r base t v) : ∃ cs, v = .agg cs ∧ cs.size = P.cellsOf t := by
  simp only [Value.okWide, ht] at h
  obtain ⟨cs, h1, h2, _⟩ := h
  exact ⟨cs, h1, h2⟩
theorem opens_rows {t e q : TypeId} (ht : P.underlying t = some (.slice e)) (he : P.underlying e = some (.slice q)) (hq : P.underlying q = some (.int .i64)) (ce : P.cellsOf e = 1) (cq : P.cellsOf q = 1) : Opens H enc P W t (List (List Int)) fun xs => [VV.tr (xs.map fun x => VV.tr (x.map vi) x.length) xs.length] := by
  have h := opens_list (H := H) (enc := enc) (P := P) (W := W) (m := 1) ht ce (by decide) (fun _ => rfl) (opens_ints he hq cq)
  have e : (fun xs : List (List Int) => [VV.tr (xs.map fun x => VV.tr (x.map vi) x.length) xs.length]) = fun xs : List (List Int) => [VV.tr (xs.flatMap fun x => [VV.tr (x.map vi) x.length]) xs.length] := by
    funext xs; rw [List.map_eq_flatMap]
  rw [e]; exact h
/-- A slice that comes in. -/
theorem Opens.slice {t : TypeId} {S : Type} {g : S → VV} (h : Opens H enc P W t S fun s => [g s]) {a : Option Addr} {n c : Nat} {d : DataW H} {ps : List MemPlace} (hd : DataW.Trod enc P W 0 (fun _ => true) true t (.slice a n c) d ps) : ∃ s : S, T (allM W) (g s) (.slice a n c) := by
  obtain ⟨fuel, hf⟩ := hd
  obtain ⟨s, h1, h2⟩ := h fuel _ _ hf
  exact ⟨s, h2 0 _ _ rfl rfl⟩
theorem tr_map {A B : Type} {W : World} {mk : A → B} {f : A → List VV} {g : B → List VV} (hfg : ∀ x, g (mk x) = f x) {xs : List A} {v : Value} (h : T (allM W) (.tr (xs.flatMap f) xs.length) v) : T (allM W) (.tr ((xs.map mk).flatMap g) (xs.map mk).length) v := by
  rw [List.flatMap_map, List.length_map, show (fun x => g (mk x)) = f from funext hfg]; exact h
end Go.Proofs.Ytlhnkehohknhbaa.Vv

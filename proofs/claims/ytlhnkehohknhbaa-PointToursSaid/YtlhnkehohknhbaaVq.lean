/- Arguments that come in: read as natives of another type. -/
import Derived.Test.YtlhnkehohknhbaaVz
set_option linter.unusedVariables false
set_option linter.unusedSimpArgs false
namespace Go.Proofs.Ytlhnkehohknhbaa.Vv
open Go Go.Proofs.Ytlhnkehohknhbaa.Ev
variable {H : Type} {enc : TypeId × Value → H} {P : Program} {W : World}
theorem Opens.as {t : TypeId} {S A : Type} {f : S → List VV} (h : Opens H enc P W t S f) (mk : S → A) {g : A → List VV} (hfg : ∀ s, g (mk s) = f s) : Opens H enc P W t A g := by
  intro fuel cs x hx
  obtain ⟨s, h1, h2⟩ := h fuel cs x hx
  exact ⟨mk s, by rw [hfg]; exact h1, by rw [hfg]; exact h2⟩
/-- a list whose elements have a property. -/
theorem Opens.all {t : TypeId} {A : Type} {p : A → Prop} {g : A → List VV} (h : Opens H enc P W t (List { x : A // p x }) fun xs => [VV.tr (xs.flatMap fun x => g x.1) xs.length]) : Opens H enc P W t { xs : List A // ∀ x ∈ xs, p x } fun xs => [VV.tr (xs.1.flatMap g) xs.1.length] :=
  Opens.as (A := { xs : List A // ∀ x ∈ xs, p x }) (g := fun xs => [VV.tr (xs.1.flatMap g) xs.1.length]) h (fun xs => ⟨xs.map (·.1), fun x hx => by obtain ⟨y, _, rfl⟩ := List.mem_map.1 hx; exact y.2⟩)
    (fun xs => by
      show [VV.tr ((xs.map (·.1)).flatMap g) (xs.map (·.1)).length] = _
      rw [List.flatMap_map, List.length_map])
section
open Go.ChangeShapes Go.WideShapes Go.RowKit Go.Joins Go.Deep
theorem opens_listB {t e : TypeId} {m : Nat} {S : Type} {f : S → List VV} (ht : P.underlying t = some (.slice e)) (hm : P.cellsOf e = m) (hpos : 0 < m) (hf : ∀ s, (f s).length = m) (h : Opens H enc P W e S f) : Opens H enc P W t { xs : List S // xs.length ≤ 9223372036854775807 } fun xs => [VV.tr (xs.1.flatMap f) xs.1.length] := by
  intro fuel cs x hx
  have one : ∀ {v' : Value} {xs : List S}, xs.length ≤ 9223372036854775807 → T (allM W) (.tr (xs.flatMap f) xs.length) v' → ∃ s : { xs : List S // xs.length ≤ 9223372036854775807 }, [v'].length = [VV.tr (s.1.flatMap f) s.1.length].length ∧ ∀ (j : Nat) (v : VV) (u : Value), [VV.tr (s.1.flatMap f) s.1.length][j]? = some v → [v'][j]? = some u → T (allM W) v u := by
    intro v' xs hxs h
    refine ⟨⟨xs, hxs⟩, rfl, fun j v u a b => ?_⟩
    cases j with
    | zero => simp at a b; subst a; subst b; exact h
    | succ j => simp at a
  rcases open_slice ht hx with ⟨hcs, _⟩ | ⟨a, len, cap, k, n, D, Pl, hcs, hb, hl, hmx, hmm, _, hel⟩
  · subst hcs
    exact one (xs := []) (by simp) .e
  · subst hcs
    simp only [if_true] at hmm
    subst hmm
    rw [hm] at hel
    have hall : ∀ i, i < k → ∃ s : S, ∃ l : List Value, W.cells? 0 (a.add (i * m)) m = some l ∧ l.length = (f s).length ∧ ∀ (j : Nat) (v : VV) (v' : Value), (f s)[j]? = some v → l[j]? = some v' → T (allM W) v v' := by
      intro i hi
      obtain ⟨l, h1, h2⟩ := hel i hi
      obtain ⟨s, h3, h4⟩ := h n l _ h2
      exact ⟨s, l, h1, h3, h4⟩
    obtain ⟨ys, y1, y2⟩ := list_choose k hall
    have hcell : ∀ j, j < k * m → ∃ v, W.cell? (a.add j) = some v := by
      intro j hj
      have hi : j / m < k := Nat.div_lt_of_lt_mul (by rw [Nat.mul_comm]; exact hj)
      obtain ⟨l, h1, _⟩ := hel (j / m) hi
      obtain ⟨_, h2, h3⟩ := World.cells?_some h1
      have hr : j % m < m := Nat.mod_lt _ hpos
      have h4 := h3 (j % m) hr
      rw [add_add, show j / m * m + j % m = j by rw [Nat.mul_comm]; exact Nat.div_add_mod j m] at h4
      rw [h4]
      exact ⟨_, List.getElem?_eq_getElem (by omega)⟩
    have hlen : (ys.take len).length = len := by rw [List.length_take]; omega
    refine one (xs := ys.take len) (by rw [hlen]; unfold maxLen at hmx; omega) ?_
    have hflat : ((ys.take len).flatMap f).length = len * m := by
      rw [List.length_flatMap, show (fun s => (f s).length) = fun _ => m from funext hf]
      simp [List.map_const', Nat.min_eq_left (show len ≤ ys.length by omega)]
    rw [hlen]
    refine T_of_cells' (N := k * m) (f := fun j => (W.cell? (a.add j)).getD undef) (by rw [hflat]; exact Nat.mul_le_mul_right m hl) hl (fun hk => Nat.mul_pos hk hpos) (fun j hj => ?_) (fun j v hv => ?_)
    · obtain ⟨v, hv⟩ := hcell j hj
      show _ = some ((W.cell? (a.add j)).getD undef)
      rw [hv]; rfl
    · obtain ⟨i, s, r, g1, g2, g3, g4⟩ := flat_get hf _ j v hv
      rw [List.getElem?_take] at g1
      by_cases hi : i < len
      · rw [if_pos hi] at g1
        obtain ⟨l, h1, h2, h3⟩ := y2 i s g1
        obtain ⟨_, h4, h5⟩ := World.cells?_some h1
        have h6 := h5 r g3
        rw [add_add, ← g2] at h6
        have hr : r < l.length := by omega
        rw [List.getElem?_eq_getElem hr] at h6
        show T (allM W) v ((W.cell? (a.add j)).getD undef)
        rw [h6]
        exact h3 r v _ g4 (List.getElem?_eq_getElem hr)
      · rw [if_neg hi] at g1; cases g1
end
end Go.Proofs.Ytlhnkehohknhbaa.Vv

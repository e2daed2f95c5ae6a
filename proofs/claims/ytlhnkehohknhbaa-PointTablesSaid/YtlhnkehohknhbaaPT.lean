/- Chapter 9, plain: the law of tables. -/
import Derived.Test.YtlhnkehohknhbaaPA
import Derived.Test.YtlhnkehohknhbaaP1
set_option linter.unusedVariables false
set_option linter.unusedSimpArgs false
namespace Go.Proofs.Ytlhnkehohknhbaa.Vg
open Go Go.Proofs.Ytlhnkehohknhbaa.Ev Go.Proofs.Ytlhnkehohknhbaa.Vv
def mnL (x : Int) (l : List SSkyRow) : Int := l.foldl (fun m r => minI m r.Value) x
def mxL (x : Int) (l : List SSkyRow) : Int := l.foldl (fun m r => maxI m r.Value) x
theorem bounds_l (k : Nat) (l : List SSkyRow) (t : Int) (r : Int × Int) (hl : l.length < 1000000000) : ∀ (d fuel i : Nat) (x y : Int), l.length = i + d → d < fuel →
    nspeculumlaw09_PointTables_l0_0 k l t r fuel (i : Int) x y = some (mnL x (l.drop i), mxL y (l.drop i)) := by
  intro d
  induction d with
  | zero =>
    intro fuel i x y h hf
    obtain ⟨g, rfl⟩ : ∃ g, fuel = g + 1 := ⟨fuel - 1, by omega⟩
    rw [nspeculumlaw09_PointTables_l0_0.eq_2, if_neg (by omega), List.drop_eq_nil_of_le (by omega)]; rfl
  | succ d ih =>
    intro fuel i x y h hf
    obtain ⟨g, rfl⟩ : ∃ g, fuel = g + 1 := ⟨fuel - 1, by omega⟩
    rw [nspeculumlaw09_PointTables_l0_0.eq_2, if_pos (by omega), if_pos (by omega), w64_succ (by omega), ih g (i + 1) _ _ (by omega) (by omega), drop_get (y := l) (i := i) (by omega) default]
    simp only [Int.toNat_natCast]; rfl
theorem mnL_le : ∀ (l : List SSkyRow) (x : Int), mnL x l ≤ x ∧ ∀ r ∈ l, mnL x l ≤ r.Value
  | [], x => ⟨Int.le_refl _, fun r h => by cases h⟩
  | a :: l, x => by
    obtain ⟨h1, h2⟩ := mnL_le l (minI x a.Value)
    have e : mnL x (a :: l) = mnL (minI x a.Value) l := rfl
    have m1 : minI x a.Value ≤ x ∧ minI x a.Value ≤ a.Value := by unfold minI; split <;> omega
    rw [e]
    refine ⟨by omega, fun r hr => ?_⟩
    rcases List.mem_cons.1 hr with rfl | hr
    · omega
    · exact h2 r hr
theorem mxL_le : ∀ (l : List SSkyRow) (x : Int), x ≤ mxL x l ∧ ∀ r ∈ l, r.Value ≤ mxL x l
  | [], x => ⟨Int.le_refl _, fun r h => by cases h⟩
  | a :: l, x => by
    obtain ⟨h1, h2⟩ := mxL_le l (maxI x a.Value)
    have e : mxL x (a :: l) = mxL (maxI x a.Value) l := rfl
    have m1 : x ≤ maxI x a.Value ∧ a.Value ≤ maxI x a.Value := by unfold maxI; split <;> omega
    rw [e]
    refine ⟨by omega, fun r hr => ?_⟩
    rcases List.mem_cons.1 hr with rfl | hr
    · omega
    · exact h2 r hr
/-- a part of a difference. -/
theorem part_bd {v t d : Int} (ht : 0 ≤ t) (htd : t ≤ d) (hd : 0 < d) : (0 ≤ v → 0 ≤ v * t / d ∧ v * t / d ≤ v) ∧ (v ≤ 0 → v ≤ v * t / d ∧ v * t / d ≤ 0) := by
  constructor
  · intro hv
    refine ⟨Int.ediv_nonneg (Int.mul_nonneg hv ht) (by omega), ?_⟩
    have h1 : v * t ≤ v * d := Int.mul_le_mul_of_nonneg_left htd hv
    have := Int.ediv_le_ediv hd h1
    rwa [Int.mul_ediv_cancel _ (by omega)] at this
  · intro hv
    constructor
    · have h1 : v * d ≤ v * t := Int.mul_le_mul_of_nonpos_left hv htd
      have := Int.ediv_le_ediv hd h1
      rwa [Int.mul_ediv_cancel _ (by omega)] at this
    · have h1 : v * t ≤ 0 := Int.mul_nonpos_of_nonpos_of_nonneg hv ht
      have := Int.ediv_le_ediv hd h1
      simpa using this
theorem vrec_in (L H : Int) (t : Int) : ∀ (l : List SSkyRow) (a : SSkyRow), a.At ≤ t → (∀ r ∈ a :: l, L ≤ r.Value ∧ r.Value ≤ H) → L ≤ vrec a t l ∧ vrec a t l ≤ H
  | [], a, _, h => h a (by simp)
  | b :: l, a, ha, h => by
    simp only [vrec]
    by_cases c : t < b.At
    · rw [if_pos c]
      have h1 := h a (by simp)
      have h2 := h b (by simp)
      obtain ⟨p1, p2⟩ := part_bd (v := b.Value - a.Value) (t := t - a.At) (d := b.At - a.At) (by omega) (by omega) (by omega)
      unfold mid
      rcases Int.le_total 0 (b.Value - a.Value) with e | e
      · have := p1 e; omega
      · have := p2 e; omega
    · rw [if_neg c]
      exact vrec_in L H t l b (by omega) (fun r hr => h r (List.mem_cons_of_mem _ hr))
theorem law_tables (l : List SSkyRow) (t : Int) : nspeculumlaw09_PointTables 1000000 l t = some true := by
  unfold nspeculumlaw09_PointTables
  rw [show nawake 1000000 = some true from rfl, Option.bind_some, if_pos rfl, rows_any, Option.bind_some]
  cases hr : rowsB l with
  | false => rfl
  | true =>
    have hl : l.length ≤ 43 := by unfold rowsB at hr; have := of_decide_eq_true hr; omega
    rw [if_pos rfl, table_copy _ _ (by omega), Option.bind_some, tableAt_point _ (by decide) (by decide) _ (by omega), Option.bind_some, table_ref _ (by decide) (by decide) _ (by omega), Option.bind_some, table_point _ (by decide) (by decide) _ (by omega), Option.bind_some, if_pos rfl]
    by_cases h0 : tabE l = 0
    · have hT := Tab.of h0
      have hpos := hT.pos
      simp only [if_pos h0]
      rw [place_ref, Option.bind_some]
      cases hp : inR (-1000000) 1000000 t with
      | false => rfl
      | true =>
        have hp' := inR_t.1 hp
        rw [if_pos rfl, if_pos rfl, if_pos (by omega)]
        simp only [Int.toNat_zero]
        rw [show nspeculumlaw09_PointTables_l0_0 1000000 l t (val l t, 0) 1000000 1 (l.getD 0 default).Value (l.getD 0 default).Value = _ from bounds_l 1000000 l t _ (by omega) (l.length - 1) 1000000 1 _ _ (by omega) (by omega), Option.bind_some, if_pos trivial, value_ref _ (by decide) hT hp', Option.bind_some, if_pos rfl]
        have hall : ∀ r ∈ l, mnL (l.getD 0 default).Value (l.drop 1) ≤ r.Value ∧ r.Value ≤ mxL (l.getD 0 default).Value (l.drop 1) := by
          intro r hr
          obtain ⟨m1, m2⟩ := mnL_le (l.drop 1) (l.getD 0 default).Value
          obtain ⟨x1, x2⟩ := mxL_le (l.drop 1) (l.getD 0 default).Value
          rw [← head_tail hpos] at hr
          rcases List.mem_cons.1 hr with rfl | hr
          · exact ⟨m1, x1⟩
          · exact ⟨m2 r hr, x2 r hr⟩
        have hin : mnL (l.getD 0 default).Value (l.drop 1) ≤ val l t ∧ val l t ≤ mxL (l.getD 0 default).Value (l.drop 1) := by
          unfold val
          by_cases c : t < (l.getD 0 default).At
          · rw [if_pos c]
            exact hall _ (by rw [List.getD_eq_getElem?_getD, List.getElem?_eq_getElem hpos]; exact List.getElem_mem hpos)
          · rw [if_neg c]
            exact vrec_in _ _ t (l.drop 1) _ (by omega) (fun r hr => hall r (by rw [head_tail hpos] at hr; exact hr))
        dsimp only
        rw [if_pos hin.1, decide_eq_true hin.2]
    · simp only [if_neg h0]
      rfl
theorem vc_tables (l : List SSkyRow) (t : Int) : VC Go.Proofs.Try.prog 7 [VV.tr (l.flatMap c_SSkyRow) l.length, vi t] (vb true) := nspeculumlaw09_PointTables_ok 1000000 _ _ _ (law_tables l t)
end Go.Proofs.Ytlhnkehohknhbaa.Vg

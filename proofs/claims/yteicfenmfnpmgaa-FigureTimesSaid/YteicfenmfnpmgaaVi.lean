/- Arguments that come in, read as trees: lists of ints, lists of lists of ints; the row's last step. -/
import Derived.Test.YteicfenmfnpmgaaVv17
import Derived.ChangeSlices
import Derived.ChangeSame
import Derived.Deep.Matrix
import Derived.Lib.SmallJoins
set_option linter.unusedVariables false
set_option linter.unusedSimpArgs false
namespace Go.Proofs.Yteicfenmfnpmgaa.Vv
open Go Go.Proofs.Yteicfenmfnpmgaa.Ev
open Go.ChangeShapes Go.WideShapes Go.RowKit Go.Joins Go.Deep

theorem post_true3 {H : Type} {enc : TypeId × Value → H} {P : Program} {f : Func} {s : ChangeSpec} {W W' : World} {args : Array Value} {v : Value} {ds gs : List (DataW H)} {before pa : List MemPlace}
    (hW : DataW.Whole enc P f.params.toList s.vars false W args.toList ds gs before)
    (hres : DataW.TrodAll enc P W' W.heap.size (fun _ => false) false f.resultTypes.toList (v.resultList f.resultTypes.size) (s.fn H (ds ++ gs)).results [])
    (hargs : DataW.TrodAll enc P W' 0 (fun b => decide (b < W.heap.size)) true f.params.toList args.toList (s.fn H (ds ++ gs)).args pa)
    (hvars : DataW.TrodVars enc P W' (fun b => decide (b < W.heap.size)) s.vars (s.fn H (ds ++ gs)).vars []) (hb : Below W.heap.size W W') :
    s.post enc P f false true false false W args v W' :=
  ⟨ds, gs, before, [], pa, [], hW, hres, hargs, hvars, hb.frame _, fun h => nomatch h⟩

/-- A row of known cells is a tree. -/
theorem T_of_cells {W : World} {a : Addr} {n c : Nat} {vs : List VV} {f : Nat → Value} (hn : n = vs.length) (hc : n ≤ c) (hcell : ∀ i, i < c → W.cell? (a.add i) = some (f i)) (hT : ∀ i v, vs[i]? = some v → T (allM W) v (f i)) : T (allM W) (.tr vs n) (.slice (some a) n c) := by
  rcases Nat.eq_zero_or_pos c with rfl | hpos
  · obtain rfl : n = 0 := by omega
    exact .e
  obtain ⟨b, off, spot⟩ := a
  have h0 := hcell 0 hpos
  have e0 : (⟨b, off, spot⟩ : Addr).add 0 = ⟨b, off, spot⟩ := by unfold Addr.add; simp
  rw [e0] at h0
  unfold World.cell? at h0
  cases e : W.heap[b]? with
  | none => simp only [e] at h0; cases h0
  | some ob =>
    simp only [e] at h0
    cases ob with
    | cells cs t fz =>
      simp only at h0
      cases spot with
      | some q => simp at h0
      | none =>
        have hcell' : ∀ i, i < c → cs[off + i]? = some (f i) := by
          intro i hi
          have h1 := hcell i hi
          have e1 : (⟨b, off, none⟩ : Addr).add i = ⟨b, off + i, none⟩ := by
            unfold Addr.add
            split
            · rename_i h; subst h; rfl
            · rfl
          rw [e1] at h1
          unfold World.cell? at h1
          simp only [e] at h1
          simpa using h1
        refine .tr (cs := cs) (t := t) (fz := fz) e hc ?_ ?_
        · rcases Nat.eq_zero_or_pos vs.length with h | h
          · have := (Array.getElem?_eq_some_iff.1 (hcell' 0 hpos)).1; omega
          · have := (Array.getElem?_eq_some_iff.1 (hcell' (vs.length - 1) (by omega))).1; omega
        · intro j v v' hj hv
          have hjl := (List.getElem?_eq_some_iff.1 hj).1
          rw [hcell' j (by omega)] at hv
          injection hv with hv; subst hv
          exact hT j v hj
    | _ => cases h0
theorem T_ints_of {W : World} {a : Addr} {n c : Nat} {zs : List Int} (hz : zs.length = c) (hn : n ≤ c) (hcell : ∀ i, i < c → W.cell? (a.add i) = some (.int .i64 (zs.getD i 0))) :
    T (allM W) (.tr ((zs.take n).map vi) (zs.take n).length) (.slice (some a) n c) := by
  have hl : (zs.take n).length = n := by rw [List.length_take]; omega
  rw [hl]
  refine T_of_cells (f := fun i => .int .i64 (zs.getD i 0)) (by rw [List.length_map, hl]) hn hcell fun i v hv => ?_
  rw [List.getElem?_map, List.getElem?_take] at hv
  by_cases h : i < n
  · rw [if_pos h, List.getElem?_eq_getElem (by omega)] at hv
    injection hv with hv; subst hv
    rw [List.getD_eq_getElem?_getD, List.getElem?_eq_getElem (by omega)]
    exact .c rfl
  · rw [if_neg h] at hv; cases hv

theorem R_vb {o : OM} {fb : Nat} {m : MM} {b : Bool} {v : Value} (h : R o fb m (vb b) v) : v = .bool b := by
  cases h with
  | t h => cases h; rfl

section
variable {H : Type} {enc : TypeId × Value → H} {P : Program} {W : World}
theorem T_ints {t e : TypeId} (ht : P.underlying t = some (.slice e)) (he : P.underlying e = some (.int .i64)) (ce : P.cellsOf e = 1) {a : Option Addr} {n c : Nat} {d : DataW H} {ps : List MemPlace}
    (h : DataW.Trod enc P W 0 (fun _ => true) true t (.slice a n c) d ps) : ∃ xs : List Int, T (allM W) (.tr (xs.map vi) xs.length) (.slice a n c) := by
  obtain ⟨fuel, hf⟩ := h
  rcases open_ints ht he ce hf with ⟨hcs, _⟩ | ⟨x, l, k, zs, hcs, _, hl, hm, hz, _, hcell, hwz⟩
  · simp [Value.cells] at hcs
    obtain ⟨rfl, rfl, rfl⟩ := hcs
    exact ⟨[], .e⟩
  · simp [Value.cells] at hcs
    obtain ⟨rfl, rfl, rfl⟩ := hcs
    have hz' : zs.length = c := by simpa using hz
    exact ⟨zs.take n, T_ints_of hz' hl fun i hi => hcell i (by omega)⟩
theorem T_rows {t e q : TypeId} (ht : P.underlying t = some (.slice e)) (he : P.underlying e = some (.slice q)) (hq : P.underlying q = some (.int .i64)) (ce : P.cellsOf e = 1) (cq : P.cellsOf q = 1) {a : Option Addr} {n c : Nat} {d : DataW H} {ps : List MemPlace}
    (h : DataW.Trod enc P W 0 (fun _ => true) true t (.slice a n c) d ps) : ∃ xs : List (List Int), T (allM W) (.tr (xs.map fun x => VV.tr (x.map vi) x.length) xs.length) (.slice a n c) := by
  obtain ⟨fuel, hf⟩ := h
  rcases open_int_rows ht he hq ce cq hf with ⟨hcs, _⟩ | ⟨x, l, k, A, L, C, Z, hcs, _, hl, hm, _, hr⟩
  · simp [Value.cells] at hcs
    obtain ⟨rfl, rfl, rfl⟩ := hcs
    exact ⟨[], .e⟩
  · simp [Value.cells] at hcs
    obtain ⟨rfl, rfl, rfl⟩ := hcs
    refine ⟨(List.range n).map fun r => (Z r).take (L r), ?_⟩
    have hlen : ((List.range n).map fun r => (Z r).take (L r)).length = n := by simp
    rw [hlen]
    refine T_of_cells (f := fun i => .slice (A i) (L i) (C i)) (by rw [List.length_map, hlen]) hl (fun i hi => (hr i hi).1) fun i v hv => ?_
    rw [List.getElem?_map, List.getElem?_map] at hv
    by_cases hi : i < n
    · rw [List.getElem?_eq_getElem (by simpa using hi)] at hv
      simp only [List.getElem_range, Option.map_some] at hv
      injection hv with hv; subst hv
      obtain ⟨_, r1, r2, r3, r4, r5, r6⟩ := hr i (by omega)
      cases hA : A i with
      | none =>
        have h0 := r5 hA
        have h1 : (Z i).take (L i) = [] := by rw [show L i = 0 by omega]; rfl
        rw [h1, show L i = 0 by omega, h0]
        exact .e
      | some a' => exact T_ints_of r3 r1 fun j hj => (r6 a' hA).2 j hj
    · rw [List.getElem?_eq_none (by simpa using hi)] at hv; cases hv
end
end Go.Proofs.Yteicfenmfnpmgaa.Vv

/- Lists of ints that come in: opened; the row's last step for them. -/
import Derived.Test.YtfnmnnbmhfbkbaaP1
import Derived.ChangeSlices
set_option linter.unusedVariables false
set_option linter.unusedSimpArgs false
namespace Go.Proofs.Ytfnmnnbmhfbkbaa
open Go.ChangeShapes Go.WideShapes Go.RowKit

theorem post_true2 {H : Type} {enc : TypeId × Value → H} {P : Program} {f : Func} {s : ChangeSpec} {W W' : World} {args : Array Value} {v : Value} {ds gs : List (DataW H)} {before pa : List MemPlace}
    (hW : DataW.Whole enc P f.params.toList s.vars false W args.toList ds gs before)
    (hres : DataW.TrodAll enc P W' W.heap.size (fun _ => false) false f.resultTypes.toList (v.resultList f.resultTypes.size) (s.fn H (ds ++ gs)).results [])
    (hargs : DataW.TrodAll enc P W' 0 (fun b => decide (b < W.heap.size)) true f.params.toList args.toList (s.fn H (ds ++ gs)).args pa)
    (hvars : DataW.TrodVars enc P W' (fun b => decide (b < W.heap.size)) s.vars (s.fn H (ds ++ gs)).vars []) (hb : Below W.heap.size W W') :
    s.post enc P f false true false false W args v W' :=
  ⟨ds, gs, before, [], pa, [], hW, hres, hargs, hvars, hb.frame _, fun h => nomatch h⟩

theorem cells_intc : Try.prog.cellsOf 3 = 1 := by kernel_rfl
theorem IS_open {H : Type} {enc : TypeId × Value → H} {W : World} {a : Option Addr} {n c : Nat} {d : DataW H} {ps : List MemPlace}
    (h : DataW.Trod enc Try.prog W 0 (fun _ => true) true 63 (.slice a n c) d ps) : ∃ p : Row, IS W a n p ∧ SV a n c ∧ n ≤ 9223372036854775807 := by
  obtain ⟨fuel, hf⟩ := h
  rcases open_ints Try.underlying63 Try.underlying3 cells_intc hf with ⟨hcs, _⟩ | ⟨x, l, k, zs, hcs, _, hl, hm, hz, _, hcell, hwz⟩
  · simp [Value.cells] at hcs
    obtain ⟨rfl, rfl, rfl⟩ := hcs
    exact ⟨fun _ => 0, ⟨fun i hi => by omega, fun h => by omega⟩, fun _ => ⟨rfl, rfl⟩, by omega⟩
  · simp [Value.cells] at hcs
    obtain ⟨rfl, rfl, rfl⟩ := hcs
    have hz' : zs.length = c := by simpa using hz
    have hlz : n ≤ zs.length := by omega
    refine ⟨fun j => zs.getD j 0, ⟨fun i hi => ?_, fun hn => ?_⟩, (show SV (some x) n c from fun h => (nomatch h)), by simp only [maxLen] at hm; omega⟩
    · have hm1 : zs.getD i 0 ∈ zs := by
        rw [List.getD_eq_getElem?_getD, List.getElem?_eq_getElem (by omega)]
        exact List.getElem_mem _
      exact wf_I64 (hwz _ hm1)
    · obtain ⟨b, off, spot⟩ := x
      have h0 := hcell 0 (by omega)
      have e0 : (⟨b, off, spot⟩ : Addr).add 0 = ⟨b, off, spot⟩ := by unfold Addr.add; simp
      rw [e0] at h0
      have hs : spot = none := by
        cases spot with
        | none => rfl
        | some q =>
          unfold World.cell? at h0
          split at h0
          · simp at h0
          · cases h0
      subst hs
      have hb : b < W.heap.size := by
        rcases Nat.lt_or_ge b W.heap.size with h1 | h1
        · exact h1
        · unfold World.cell? at h0
          simp [Array.getElem?_eq_none h1] at h0
      refine ⟨b, off, rfl, hb, fun j hj => ?_⟩
      have h1 := hcell j (by omega)
      have e1 : (⟨b, off, none⟩ : Addr).add j = ⟨b, off + j, none⟩ := by
        unfold Addr.add
        split
        · rename_i h2; subst h2; rfl
        · rfl
      rw [e1] at h1
      exact h1

end Go.Proofs.Ytfnmnnbmhfbkbaa

/- Arrays of three that come in. -/
import Derived.Test.YtgaopkhkabbcfaaWb
set_option linter.unusedVariables false
set_option linter.unusedSimpArgs false
namespace Go.Proofs.Ytgaopkhkabbcfaa.Vv
open Go Go.Proofs.Ytgaopkhkabbcfaa.Ev
open Go.ChangeShapes Go.WideShapes Go.RowKit Go.Joins Go.Deep
variable {H : Type} {enc : TypeId × Value → H} {P : Program} {W : World}
theorem opens_array3 {t e : TypeId} {m : Nat} {S : Type} {f : S → List VV} (ht : P.underlying t = some (.array 3 e)) (hm : P.cellsOf e = m) (hc : P.cellsOf t = m + m + m) (h : Opens H enc P W e S f) : Opens H enc P W t (S × S × S × Unit) fun p => f p.1 ++ (f p.2.1 ++ (f p.2.2.1 ++ [])) := by
  intro fuel cs x hx
  obtain ⟨xs, n, _, _, hl, hlen, hf⟩ := DataW.trod_array ht hx
  have key : OpensF H enc P W 0 [⟨"", e, 0, false, "", "", 0⟩, ⟨"", e, 0 + m, false, "", "", 0⟩, ⟨"", e, 0 + m + m, false, "", "", 0⟩] (S × S × S × Unit) fun p => f p.1 ++ (f p.2.1 ++ (f p.2.2.1 ++ [])) :=
    opensF_cons rfl hm h (opensF_cons rfl hm h (opensF_cons rfl hm h opensF_nil))
  obtain ⟨s, h1, h2⟩ := key n cs (fun g hg => by
    have h0 := hf 0 (by omega)
    have h1 := hf 1 (by omega)
    have h2 := hf 2 (by omega)
    simp only [List.mem_cons, List.not_mem_nil, or_false] at hg
    rcases hg with rfl | rfl | rfl
    · refine ⟨xs[0]'(by omega), ?_⟩
      rw [Nat.zero_mul] at h0
      rw [h0]; exact List.getElem?_eq_getElem (by omega)
    · refine ⟨xs[1]'(by omega), ?_⟩
      rw [Nat.one_mul] at h1
      show DataW.trod enc P W 0 _ true n e ((cs.drop (0 + m)).take (P.cellsOf e)) = _
      rw [Nat.zero_add, ← hm, h1]; exact List.getElem?_eq_getElem (by omega)
    · refine ⟨xs[2]'(by omega), ?_⟩
      show DataW.trod enc P W 0 _ true n e ((cs.drop (0 + m + m)).take (P.cellsOf e)) = _
      rw [show 0 + m + m = 2 * P.cellsOf e by rw [hm]; omega, h2]; exact List.getElem?_eq_getElem (by omega)) (by simp [hm]; omega)
  exact ⟨s, by simpa using h1, fun j v v' a b => h2 j v v' a (by simpa using b)⟩
theorem okWide_array3 {r : Reach} {base : Nat} {t e : TypeId} {v : Value} (ht : P.underlying t = some (.array 3 e)) (h : Value.okWide P W r base t v) : ∃ cs, v = .agg cs ∧ cs.size = P.cellsOf t := by
  simp only [Value.okWide, ht] at h
  obtain ⟨cs, h1, h2, _⟩ := h
  exact ⟨cs, h1, h2⟩
end Go.Proofs.Ytgaopkhkabbcfaa.Vv

/- Arguments that come in, read as trees: integers with their bounds, arrays of two. -/
import Derived.Test.YteicfenmfnpmgaaVi
import Derived.OpenShut
set_option linter.unusedVariables false
set_option linter.unusedSimpArgs false
namespace Go.Proofs.Yteicfenmfnpmgaa.Vv
open Go Go.Proofs.Yteicfenmfnpmgaa.Ev
open Go.ChangeShapes Go.WideShapes Go.RowKit Go.Joins Go.Deep
variable {H : Type} {enc : TypeId × Value → H} {P : Program} {W : World}
/-- Integers of 64 bits. -/
def In64 (n : Int) : Prop := -9223372036854775808 ≤ n ∧ n ≤ 9223372036854775807
theorem opens_i64 {t : TypeId} (ht : P.underlying t = some (.int .i64)) : Opens H enc P W t { n : Int // In64 n } fun n => [vi n.1] := by
  intro fuel cs x h
  obtain ⟨n, e, _, hw⟩ := DataW.trod_int ht h
  subst e
  simp only [Lit.wf, Bool.and_eq_true, decide_eq_true_eq] at hw
  refine ⟨⟨n, hw⟩, rfl, fun j v v' a b => ?_⟩
  cases j with
  | zero => simp at a b; subst a; subst b; exact .c rfl
  | succ j => simp at a
theorem opens_array2 {t e : TypeId} {m : Nat} {S : Type} {f : S → List VV} (ht : P.underlying t = some (.array 2 e)) (hm : P.cellsOf e = m) (hc : P.cellsOf t = m + m) (h : Opens H enc P W e S f) : Opens H enc P W t (S × S × Unit) fun p => f p.1 ++ (f p.2.1 ++ []) := by
  intro fuel cs x hx
  obtain ⟨xs, n, _, _, hl, hlen, hf⟩ := DataW.trod_array ht hx
  have key : OpensF H enc P W 0 [⟨"", e, 0, false, "", "", 0⟩, ⟨"", e, 0 + m, false, "", "", 0⟩] (S × S × Unit) fun p => f p.1 ++ (f p.2.1 ++ []) :=
    opensF_cons rfl hm h (opensF_cons rfl hm h opensF_nil)
  obtain ⟨s, h1, h2⟩ := key n cs (fun g hg => by
    have h0 := hf 0 (by omega)
    have h1 := hf 1 (by omega)
    simp only [List.mem_cons, List.not_mem_nil, or_false] at hg
    rcases hg with rfl | rfl
    · refine ⟨xs[0]'(by omega), ?_⟩
      rw [Nat.zero_mul] at h0
      rw [h0]; exact List.getElem?_eq_getElem (by omega)
    · refine ⟨xs[1]'(by omega), ?_⟩
      rw [Nat.one_mul] at h1
      show DataW.trod enc P W 0 _ true n e ((cs.drop (0 + m)).take (P.cellsOf e)) = _
      rw [Nat.zero_add, ← hm, h1]; exact List.getElem?_eq_getElem (by omega)) (by simp [hm]; omega)
  exact ⟨s, by simpa using h1, fun j v v' a b => h2 j v v' a (by simpa using b)⟩
end Go.Proofs.Yteicfenmfnpmgaa.Vv

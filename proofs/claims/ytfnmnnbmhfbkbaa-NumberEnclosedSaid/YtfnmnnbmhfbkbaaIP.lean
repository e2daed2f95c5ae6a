/- A span that comes in, opened. -/
import Derived.Test.YtfnmnnbmhfbkbaaIO
import Derived.Lib.SmallJoins
set_option linter.unusedVariables false
set_option linter.unusedSimpArgs false
namespace Go.Proofs.Ytfnmnnbmhfbkbaa
open Go.ChangeShapes Go.WideShapes Go.RowKit Go.Joins Go.Deep

theorem cells_span : Try.prog.cellsOf 83 = 5 := by kernel_rfl
theorem cells_frac : Try.prog.cellsOf 23 = 2 := by kernel_rfl
theorem array5 {α : Type} {cs : Array α} (h : cs.size = 5) : ∃ c0 c1 c2 c3 c4, cs = #[c0, c1, c2, c3, c4] := by
  obtain ⟨l⟩ := cs
  match l, h with
  | [c0, c1, c2, c3, c4], _ => exact ⟨c0, c1, c2, c3, c4, rfl⟩
theorem frac_open {H : Type} {enc : TypeId × Value → H} {W : World} {u v : Value} {n : Nat} {x : DataW H × List MemPlace}
    (h : DataW.trod enc Try.prog W 0 (fun _ => true) true n 23 [u, v] = some x) : ∃ a b : Int, u = .int .i64 a ∧ v = .int .i64 b ∧ I64 a ∧ I64 b := by
  obtain ⟨y0, y1, m, _, _, h0, h1⟩ := trod_struct2 Try.underlying23 h
  simp [cells_intc] at h0 h1
  obtain ⟨a, e0, _, w0⟩ := DataW.trod_int Try.underlying3 h0
  obtain ⟨b, e1, _, w1⟩ := DataW.trod_int Try.underlying3 h1
  simp at e0 e1
  exact ⟨a, b, e0, e1, wf_I64 w0, wf_I64 w1⟩
set_option maxRecDepth 100000 in
theorem span_open {H : Type} {enc : TypeId × Value → H} {W : World} {base : Nat} {v : Value} {d : DataW H} {ps : List MemPlace}
    (hv : Value.okWide Try.prog W .any base 83 v) (h : DataW.Trod enc Try.prog W 0 (fun _ => true) true 83 v d ps) :
    ∃ a b c d' t : Int, v = .agg #[.int .i64 a, .int .i64 b, .int .i64 c, .int .i64 d', .int .i64 t] ∧ I64 a ∧ I64 b ∧ I64 c ∧ I64 d' ∧ I64 t := by
  obtain ⟨cs, rfl, hsz⟩ := okWide_struct Try.underlying83 hv
  obtain ⟨c0, c1, c2, c3, c4, rfl⟩ := array5 (hsz.trans cells_span)
  obtain ⟨fuel, hf⟩ := h
  obtain ⟨y0, y1, y2, m, _, _, h0, h1, h2⟩ := trod_struct3 Try.underlying83 hf
  simp [cells_intc, cells_frac, Value.cells] at h0 h1 h2
  obtain ⟨a, b, rfl, rfl, wa, wb⟩ := frac_open h0
  obtain ⟨c, d', rfl, rfl, wc, wd⟩ := frac_open h1
  obtain ⟨t, e2, _, wt⟩ := DataW.trod_int Try.underlying3 h2
  simp at e2
  subst e2
  exact ⟨a, b, c, d', t, rfl, wa, wb, wc, wd, wf_I64 wt⟩

end Go.Proofs.Ytfnmnnbmhfbkbaa

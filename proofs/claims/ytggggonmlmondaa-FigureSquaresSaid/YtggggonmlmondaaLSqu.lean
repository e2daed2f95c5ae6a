/- THE STATEMENT FigureSquares: for every input the law returns true and each argument reads as it did. No conditions. -/
import Derived.Test.YtggggonmlmondaaRows
import Derived.Test.YtggggonmlmondaaClP
import Derived.Test.YtggggonmlmondaaSE
import Derived.Test.YtggggonmlmondaaWb
import Derived.ChangeOld
import Derived.Carry
import Derived.WalkKit
import Derived.ProofKit
import Derived.OpenShut
import Derived.Lib.SmallJoins
set_option linter.unusedVariables false
set_option linter.unusedSimpArgs false
namespace Go.Proofs.Ytggggonmlmondaa.figureSquares
open Go.ChangeShapes Go.WideShapes Go.ChangeAt Go.RowKit Go.Joins
open Vv (VV)

theorem own : ownKnob Try.prog.godebug = none := by kernel_rfl

set_option maxHeartbeats 0 in
theorem closed : joinedFacts Try.pinned.checked.prog 3 Try.f3 Rows.figureSquaresSpec Rows.figureSquaresRow = true := by
  unfold joinedFacts
  simp only [Bool.and_eq_true]
  repeat' apply And.intro
  all_goals (first | with_reducible exact p_enter | with_reducible exact p_laid | (rw [p_lifts]; as_aux_lemma => kernel_rfl) | (as_aux_lemma => kernel_rfl))

set_option maxHeartbeats 0 in
set_option maxRecDepth 100000 in
theorem lifted (os : Os) (started : os.Started) (H : Type) (enc : TypeId × Value → H) :
    ReturnsInHanded {} Try.checked os 3 .any (Rows.figureSquaresSpec.pre6 enc Try.prog Try.f3 Rows.figureSquaresRow.domain false) (Rows.figureSquaresSpec.post enc Try.prog Try.f3 false true false false) := by
  refine returnsInHanded_of_change (C := Try.checked) own started (by kernel_rfl) Try.func3
    (ChangeSpec.witness6 (enc := enc) (C := Try.checked) false ⟨#[], #[.slice none 0 0], []⟩ 8 (by kernel_rfl) (by kernel_rfl) (by kernel_rfl) (by kernel_rfl)) ?_
  intro W base args ds gs before hval0 hW hcnd _
  have hval : ∀ (j : Nat) t v, Try.f3.params[j]? = some t → args[j]? = some v → Value.okWide Try.prog W .any base t v := hval0
  have hW' := hW
  obtain ⟨p, q, hA0, hV, rfl, hfz, hnd⟩ := hW
  have hA : DataW.TrodAll enc Try.prog W 0 (fun _ => true) true Try.f3.params.toList args.toList ds p := hA0
  rw [Try.params3] at hA hval
  obtain ⟨v0, vs0, d0, ds0, p0, q0, hargs, rfl, rfl, h0, r0⟩ := trodAll_cons hA
  obtain ⟨rfl, rfl, rfl⟩ := trodAll_nil r0
  obtain rfl : args = #[v0] := by cases args; simp_all
  obtain ⟨rfl, rfl⟩ := trodVars_none hV
  obtain ⟨a0, n0, c0, rfl⟩ := okWide_slice Try.underlying22 (hval 0 22 v0 rfl rfl)
  have k0 := h0
  have lt0 : ∀ x ∈ p0, x.block < W.heap.size := by obtain ⟨m, hm⟩ := k0; exact DataW.trod_lt m _ _ _ hm
  obtain ⟨s0, t0⟩ := ((Vv.opens_list (m := 2) Try.underlying22 (by kernel_rfl) (by decide) (fun _ => rfl) (Vv.Opens.as (Vv.opens_struct Try.underlying54 (by kernel_rfl) (Vv.opensF_cons (m := 1) rfl (by kernel_rfl) (Vv.opens_int Try.underlying3) (Vv.opensF_cons (m := 1) rfl (by kernel_rfl) (Vv.opens_int Try.underlying3) Vv.opensF_nil))) (A := Vg.SRange) (g := Vg.c_SRange) (fun s => ⟨s.1, s.2.1⟩) (fun _ => rfl)))).slice h0
  clear hA0 hval0
  have hvc := (Vg.vc_squares s0).2 W (Vv.allM W) [Value.slice a0 n0 c0] (Vv.allM_ok W) (.cons (.t t0) .nil)
  refine Calls.mono hvc fun e W' ⟨v', m', he, hg, _, _, _, hr⟩ => ?_
  subst he
  obtain rfl := Vv.R_vb hr
  exact ⟨_, rfl, Vv.post_true3 hW' (trodAll_cons_mk (shut_bool Try.underlying4 _) trodAll_mk0) (trodAll_cons_mk (Below.trod p_laid (by kernel_rfl) (of_decide_eq_true (by kernel_rfl)) k0 hg lt0) trodAll_mk0) rfl hg⟩

theorem over : Rows.figureSquaresRow.holds Try.pinned (OpenSpec.ofChange Rows.figureSquaresSpec) :=
  OpenClaim.holds_of_wide 3 Try.f3 rfl rfl rfl rfl rfl rfl rfl ⟨rfl, rfl, rfl, rfl, rfl⟩ rfl rfl rfl rfl rfl (by kernel_rfl) Try.func3 closed
    (of_decide_eq_true (by kernel_rfl)) (by unfold Func.isWrapper; first | (rw [if_pos (by decide +kernel)]; kernel_rfl) | (rw [if_neg (by decide +kernel)]; exact ⟨rfl, rfl⟩))
    (fun os started H enc _ => lifted os started H enc)

/-- The statement. -/
theorem proved : Rows.FigureSquaresSaid := over
#print axioms proved
end Go.Proofs.Ytggggonmlmondaa.figureSquares

/- THE STATEMENT OpticsHeights: for every input the law returns true and each argument reads as it did. No conditions. -/
import Derived.Test.YtkffimkedibmnaaRows
import Derived.Test.YtkffimkedibmnaaClP
import Derived.Test.YtkffimkedibmnaaOWh
import Derived.Test.YtkffimkedibmnaaWb
import Derived.ChangeOld
import Derived.Carry
import Derived.WalkKit
import Derived.ProofKit
import Derived.OpenShut
import Derived.Lib.SmallJoins
set_option linter.unusedVariables false
set_option linter.unusedSimpArgs false
namespace Go.Proofs.Ytkffimkedibmnaa.opticsHeights
open Go.ChangeShapes Go.WideShapes Go.ChangeAt Go.RowKit Go.Joins
open Vv (VV)

theorem own : ownKnob Try.prog.godebug = none := by kernel_rfl

set_option maxHeartbeats 0 in
theorem closed : joinedFacts Try.pinned.checked.prog 9 Try.f9 Rows.opticsHeightsSpec Rows.opticsHeightsRow = true := by
  unfold joinedFacts
  simp only [Bool.and_eq_true]
  repeat' apply And.intro
  all_goals (first | with_reducible exact p_enter | with_reducible exact p_laid | (rw [p_lifts]; as_aux_lemma => kernel_rfl) | (as_aux_lemma => kernel_rfl))

set_option maxHeartbeats 0 in
set_option maxRecDepth 100000 in
theorem lifted (os : Os) (started : os.Started) (H : Type) (enc : TypeId × Value → H) :
    ReturnsInHanded {} Try.checked os 9 .any (Rows.opticsHeightsSpec.pre6 enc Try.prog Try.f9 Rows.opticsHeightsRow.domain false) (Rows.opticsHeightsSpec.post enc Try.prog Try.f9 false true false false) := by
  refine returnsInHanded_of_change (C := Try.checked) own started (by kernel_rfl) Try.func9
    (ChangeSpec.witness6 (enc := enc) (C := Try.checked) false ⟨#[], #[.agg #[.int .i64 0, .int .i64 0, .int .i64 0, .int .i64 0, .int .i64 0, .int .i64 0, .int .i64 0, .int .i64 0, .int .i64 0, .int .i64 0], .slice none 0 0], []⟩ 8 (by kernel_rfl) (by kernel_rfl) (by kernel_rfl) (by kernel_rfl)) ?_
  intro W base args ds gs before hval0 hW hcnd _
  have hval : ∀ (j : Nat) t v, Try.f9.params[j]? = some t → args[j]? = some v → Value.okWide Try.prog W .any base t v := hval0
  have hW' := hW
  obtain ⟨p, q, hA0, hV, rfl, hfz, hnd⟩ := hW
  have hA : DataW.TrodAll enc Try.prog W 0 (fun _ => true) true Try.f9.params.toList args.toList ds p := hA0
  rw [Try.params9] at hA hval
  obtain ⟨v0, vs0, d0, ds0, p0, q0, hargs, rfl, rfl, h0, r0⟩ := trodAll_cons hA
  obtain ⟨v1, vs1, d1, ds1, p1, q1, rfl, rfl, rfl, h1, r1⟩ := trodAll_cons r0
  obtain ⟨rfl, rfl, rfl⟩ := trodAll_nil r1
  obtain rfl : args = #[v0, v1] := by cases args; simp_all
  obtain ⟨rfl, rfl⟩ := trodVars_none hV
  obtain ⟨cs0, rfl, sz0⟩ := okWide_struct Try.underlying81 (hval 0 81 v0 rfl rfl)
  have k0 := h0
  have lt0 : ∀ x ∈ p0, x.block < W.heap.size := by obtain ⟨m, hm⟩ := k0; exact DataW.trod_lt m _ _ _ hm
  obtain ⟨s0, t0⟩ := ((Vv.Opens.as (Vv.opens_struct Try.underlying81 (by kernel_rfl) (Vv.opensF_cons (m := 4) rfl (by kernel_rfl) (Vv.Opens.as (Vv.opens_struct Try.underlying62 (by kernel_rfl) (Vv.opensF_cons (m := 2) rfl (by kernel_rfl) (Vv.Opens.as (Vv.opens_struct Try.underlying26 (by kernel_rfl) (Vv.opensF_cons (m := 1) rfl (by kernel_rfl) (Vv.opens_i64 Try.underlying3) (Vv.opensF_cons (m := 1) rfl (by kernel_rfl) (Vv.opens_i64 Try.underlying3) Vv.opensF_nil))) (A := { x : Vg.SFrac // (Vv.In64 x.Num) ∧ (Vv.In64 x.Den) }) (g := fun x => Vg.c_SFrac x.1) (fun s => ⟨⟨s.1.1, s.2.1.1⟩, ⟨s.1.2, s.2.1.2⟩⟩) (fun _ => rfl)) (Vv.opensF_cons (m := 2) rfl (by kernel_rfl) (Vv.Opens.as (Vv.opens_struct Try.underlying26 (by kernel_rfl) (Vv.opensF_cons (m := 1) rfl (by kernel_rfl) (Vv.opens_i64 Try.underlying3) (Vv.opensF_cons (m := 1) rfl (by kernel_rfl) (Vv.opens_i64 Try.underlying3) Vv.opensF_nil))) (A := { x : Vg.SFrac // (Vv.In64 x.Num) ∧ (Vv.In64 x.Den) }) (g := fun x => Vg.c_SFrac x.1) (fun s => ⟨⟨s.1.1, s.2.1.1⟩, ⟨s.1.2, s.2.1.2⟩⟩) (fun _ => rfl)) Vv.opensF_nil))) (A := { x : Vg.SSpot // ((Vv.In64 x.R.Num) ∧ (Vv.In64 x.R.Den)) ∧ ((Vv.In64 x.Z.Num) ∧ (Vv.In64 x.Z.Den)) }) (g := fun x => Vg.c_SSpot x.1) (fun s => ⟨⟨s.1.1, s.2.1.1⟩, ⟨s.1.2, s.2.1.2⟩⟩) (fun _ => rfl)) (Vv.opensF_cons (m := 4) rfl (by kernel_rfl) (Vv.Opens.as (Vv.opens_array2 (m := 2) Try.underlying66 (by kernel_rfl) (by kernel_rfl) (Vv.Opens.as (Vv.opens_struct Try.underlying26 (by kernel_rfl) (Vv.opensF_cons (m := 1) rfl (by kernel_rfl) (Vv.opens_i64 Try.underlying3) (Vv.opensF_cons (m := 1) rfl (by kernel_rfl) (Vv.opens_i64 Try.underlying3) Vv.opensF_nil))) (A := { x : Vg.SFrac // (Vv.In64 x.Num) ∧ (Vv.In64 x.Den) }) (g := fun x => Vg.c_SFrac x.1) (fun s => ⟨⟨s.1.1, s.2.1.1⟩, ⟨s.1.2, s.2.1.2⟩⟩) (fun _ => rfl))) (A := { x : Vg.A66 // ((Vv.In64 x.e0.Num) ∧ (Vv.In64 x.e0.Den)) ∧ ((Vv.In64 x.e1.Num) ∧ (Vv.In64 x.e1.Den)) }) (g := fun x => Vg.c_A66 x.1) (fun s => ⟨⟨s.1.1, s.2.1.1⟩, ⟨s.1.2, s.2.1.2⟩⟩) (fun _ => rfl)) (Vv.opensF_cons (m := 2) rfl (by kernel_rfl) (Vv.Opens.as (Vv.opens_struct Try.underlying26 (by kernel_rfl) (Vv.opensF_cons (m := 1) rfl (by kernel_rfl) (Vv.opens_i64 Try.underlying3) (Vv.opensF_cons (m := 1) rfl (by kernel_rfl) (Vv.opens_i64 Try.underlying3) Vv.opensF_nil))) (A := { x : Vg.SFrac // (Vv.In64 x.Num) ∧ (Vv.In64 x.Den) }) (g := fun x => Vg.c_SFrac x.1) (fun s => ⟨⟨s.1.1, s.2.1.1⟩, ⟨s.1.2, s.2.1.2⟩⟩) (fun _ => rfl)) Vv.opensF_nil)))) (A := { x : Vg.SLine // (((Vv.In64 x.Point.R.Num) ∧ (Vv.In64 x.Point.R.Den)) ∧ ((Vv.In64 x.Point.Z.Num) ∧ (Vv.In64 x.Point.Z.Den))) ∧ (((Vv.In64 x.Toward.e0.Num) ∧ (Vv.In64 x.Toward.e0.Den)) ∧ ((Vv.In64 x.Toward.e1.Num) ∧ (Vv.In64 x.Toward.e1.Den))) ∧ ((Vv.In64 x.Z.Num) ∧ (Vv.In64 x.Z.Den)) }) (g := fun x => Vg.c_SLine x.1) (fun s => ⟨⟨s.1.1, s.2.1.1, s.2.2.1.1⟩, ⟨s.1.2, s.2.1.2, s.2.2.1.2⟩⟩) (fun _ => rfl))).agg h0
  obtain ⟨a1, n1, c1, rfl⟩ := okWide_slice Try.underlying82 (hval 1 82 v1 rfl rfl)
  have k1 := h1
  have lt1 : ∀ x ∈ p1, x.block < W.heap.size := by obtain ⟨m, hm⟩ := k1; exact DataW.trod_lt m _ _ _ hm
  obtain ⟨s1, t1⟩ := ((Vv.Opens.all (Vv.opens_list (m := 2) Try.underlying82 (by kernel_rfl) (by decide) (fun _ => rfl) (Vv.Opens.as (Vv.opens_struct Try.underlying26 (by kernel_rfl) (Vv.opensF_cons (m := 1) rfl (by kernel_rfl) (Vv.opens_i64 Try.underlying3) (Vv.opensF_cons (m := 1) rfl (by kernel_rfl) (Vv.opens_i64 Try.underlying3) Vv.opensF_nil))) (A := { x : Vg.SFrac // (Vv.In64 x.Num) ∧ (Vv.In64 x.Den) }) (g := fun x => Vg.c_SFrac x.1) (fun s => ⟨⟨s.1.1, s.2.1.1⟩, ⟨s.1.2, s.2.1.2⟩⟩) (fun _ => rfl))))).slice h1
  clear hA0 hval0
  have hvc := (Vg.vc_heights s0.1 s1.1 s0.2 s1.2).2 W (Vv.allM W) [Value.agg cs0, Value.slice a1 n1 c1] (Vv.allM_ok W) (.cons (.t t0) (.cons (.t t1) .nil))
  refine Calls.mono hvc fun e W' ⟨v', m', he, hg, _, _, _, hr⟩ => ?_
  subst he
  obtain rfl := Vv.R_vb hr
  exact ⟨_, rfl, Vv.post_true3 hW' (trodAll_cons_mk (shut_bool Try.underlying4 _) trodAll_mk0) (trodAll_cons_mk (Below.trod p_laid (by kernel_rfl) (of_decide_eq_true (by kernel_rfl)) k0 hg lt0) (trodAll_cons_mk (Below.trod p_laid (by kernel_rfl) (of_decide_eq_true (by kernel_rfl)) k1 hg lt1) trodAll_mk0)) rfl hg⟩

theorem over : Rows.opticsHeightsRow.holds Try.pinned (OpenSpec.ofChange Rows.opticsHeightsSpec) :=
  OpenClaim.holds_of_wide 9 Try.f9 rfl rfl rfl rfl rfl rfl rfl ⟨rfl, rfl, rfl, rfl, rfl⟩ rfl rfl rfl rfl rfl (by kernel_rfl) Try.func9 closed
    (of_decide_eq_true (by kernel_rfl)) (by unfold Func.isWrapper; first | (rw [if_pos (by decide +kernel)]; kernel_rfl) | (rw [if_neg (by decide +kernel)]; exact ⟨rfl, rfl⟩))
    (fun os started H enc _ => lifted os started H enc)

/-- The statement. -/
theorem proved : Rows.OpticsHeightsSaid := over
#print axioms proved
end Go.Proofs.Ytkffimkedibmnaa.opticsHeights

import Derived.Test.YtjomicmhnbmhoaaRows
import Derived.Test.YtjomicmhnbmhoaaClP
import Derived.Test.YtjomicmhnbmhoaaBT
import Derived.Test.YtjomicmhnbmhoaaWb
import Derived.ChangeOld
import Derived.Carry
import Derived.WalkKit
import Derived.ProofKit
import Derived.OpenShut
import Derived.Lib.SmallJoins
set_option linter.unusedVariables false
set_option linter.unusedSimpArgs false
namespace Go.Proofs.Ytjomicmhnbmhoaa.pointLeast
open Go.ChangeShapes Go.WideShapes Go.ChangeAt Go.RowKit Go.Joins
open Vv (VV)
theorem own : ownKnob Try.prog.godebug = none := by kernel_rfl
set_option maxHeartbeats 0 in
theorem closed : joinedFacts Try.pinned.checked.prog 3 Try.f3 Rows.pointLeastSpec Rows.pointLeastRow = true := by
 unfold joinedFacts
 simp only [Bool.and_eq_true]
 repeat' apply And.intro
 all_goals (first | with_reducible exact Q4e | with_reducible exact Q23 | (rw [Q4f]; as_aux_lemma => kernel_rfl) | (as_aux_lemma => kernel_rfl))
set_option maxHeartbeats 0 in
set_option maxRecDepth 100000 in
theorem lifted (os : Os) (started : os.Started) (H : Type) (enc : TypeId × Value -> H) :
 ReturnsInHanded {} Try.checked os 3 .any (Rows.pointLeastSpec.pre6 enc Try.prog Try.f3 Rows.pointLeastRow.domain false) (Rows.pointLeastSpec.post enc Try.prog Try.f3 false true false false) := by
 refine returnsInHanded_of_change (C := Try.checked) own started (by kernel_rfl) Try.func3
  (ChangeSpec.witness6 (enc := enc) (C := Try.checked) false ⟨#[], #[.agg #[.int .i64 0, .int .i64 0, .int .i64 0, .int .i64 0, .int .i64 0, .slice none 0 0, .slice none 0 0, .slice none 0 0, .int .i64 0, .int .i64 0]], []⟩ 8 (by kernel_rfl) (by kernel_rfl) (by kernel_rfl) (by kernel_rfl)) ?_
 intro W base args ds gs before hval0 hW hcnd _
 have hval : ∀ (j : Nat) t v, Try.f3.params[j]? = some t -> args[j]? = some v -> Value.okWide Try.prog W .any base t v := hval0
 have hW' := hW
 obtain ⟨p, q, hA0, hV, rfl, hfz, hnd⟩ := hW
 have hA : DataW.TrodAll enc Try.prog W 0 (fun _ => true) true Try.f3.params.toList args.toList ds p := hA0
 rw [Try.params3] at hA hval
 obtain ⟨v0, vs0, d0, ds0, p0, q0, hargs, rfl, rfl, h0, r0⟩ := trodAll_cons hA
 obtain ⟨rfl, rfl, rfl⟩ := trodAll_nil r0
 obtain rfl : args = #[v0] := by cases args; simp_all
 obtain ⟨rfl, rfl⟩ := trodVars_none hV
 obtain ⟨cs0, rfl, sz0⟩ := okWide_struct Try.underlying28 (hval 0 28 v0 rfl rfl)
 have k0 := h0
 have lt0 : ∀ x ∈ p0, x.block < W.heap.size := by obtain ⟨m, hm⟩ := k0; exact DataW.trod_lt m _ _ _ hm
 obtain ⟨s0, t0⟩ := ((Vv.Opens.as (Vv.Qhk Try.underlying28 (by kernel_rfl) (Vv.Jh (m := 7) rfl (by kernel_rfl) (Vv.Opens.as (Vv.Qhk Try.underlying24 (by kernel_rfl) (Vv.Jh (m := 1) rfl (by kernel_rfl) (Vv.Qc4 Try.underlying3) (Vv.Jh (m := 1) rfl (by kernel_rfl) (Vv.Qc4 Try.underlying3) (Vv.Jh (m := 1) rfl (by kernel_rfl) (Vv.Qc4 Try.underlying3) (Vv.Jh (m := 1) rfl (by kernel_rfl) (Vv.Qc4 Try.underlying3) (Vv.Jh (m := 1) rfl (by kernel_rfl) (Vv.Qc4 Try.underlying3) (Vv.Jh (m := 1) rfl (by kernel_rfl) (Vv.Qqk (m := 2) Try.underlying22 (by kernel_rfl) (by decide) (fun _ => rfl) (Vv.Opens.as (Vv.Qhk Try.underlying68 (by kernel_rfl) (Vv.Jh (m := 1) rfl (by kernel_rfl) (Vv.Qc4 Try.underlying3) (Vv.Jh (m := 1) rfl (by kernel_rfl) (Vv.Qc4 Try.underlying3) Vv.Qia))) (A := Vg.Qo) (g := Vg.Qg) (fun s => ⟨s.1, s.2.1⟩) (fun _ => rfl))) (Vv.Jh (m := 1) rfl (by kernel_rfl) (Vv.Qqk (m := 2) Try.underlying22 (by kernel_rfl) (by decide) (fun _ => rfl) (Vv.Opens.as (Vv.Qhk Try.underlying68 (by kernel_rfl) (Vv.Jh (m := 1) rfl (by kernel_rfl) (Vv.Qc4 Try.underlying3) (Vv.Jh (m := 1) rfl (by kernel_rfl) (Vv.Qc4 Try.underlying3) Vv.Qia))) (A := Vg.Qo) (g := Vg.Qg) (fun s => ⟨s.1, s.2.1⟩) (fun _ => rfl))) Vv.Qia)))))))) (A := Vg.Qc) (g := Vg.Qp) (fun s => ⟨s.1, s.2.1, s.2.2.1, s.2.2.2.1, s.2.2.2.2.1, s.2.2.2.2.2.1, s.2.2.2.2.2.2.1⟩) (fun _ => rfl)) (Vv.Jh (m := 1) rfl (by kernel_rfl) (Vv.Qug (m := 6) Try.underlying25 (by kernel_rfl) (by decide) (fun _ => rfl) (Vv.Opens.as (Vv.Qhk Try.underlying52 (by kernel_rfl) (Vv.Jh (m := 1) rfl (by kernel_rfl) (Vv.Qs1 Try.underlying9) (Vv.Jh (m := 1) rfl (by kernel_rfl) (Vv.Qc4 Try.underlying3) (Vv.Jh (m := 1) rfl (by kernel_rfl) (Vv.Qc4 Try.underlying3) (Vv.Jh (m := 1) rfl (by kernel_rfl) (Vv.Qc4 Try.underlying3) (Vv.Jh (m := 1) rfl (by kernel_rfl) (Vv.Qc4 Try.underlying3) (Vv.Jh (m := 1) rfl (by kernel_rfl) (Vv.Qc4 Try.underlying3) Vv.Qia))))))) (A := Vg.Qa) (g := Vg.Qb) (fun s => ⟨s.1, s.2.1, s.2.2.1, s.2.2.2.1, s.2.2.2.2.1, s.2.2.2.2.2.1⟩) (fun _ => rfl))) (Vv.Jh (m := 2) rfl (by kernel_rfl) (Vv.Opens.as (Vv.Qs2 (m := 1) Try.underlying26 (by kernel_rfl) (by kernel_rfl) (Vv.Qc4 Try.underlying3)) (A := Vg.A26) (g := Vg.Qch) (fun s => ⟨s.1, s.2.1⟩) (fun _ => rfl)) Vv.Qia)))) (A := { x : Vg.Qjq // (x.Targets.length <= 9223372036854775807) }) (g := fun x => Vg.Qj5 x.1) (fun s => ⟨⟨s.1, s.2.1.1, s.2.2.1⟩, s.2.1.2⟩) (fun _ => rfl))).agg h0
 clear hA0 hval0
 have hvc := (Vg.Q1x s0.1 s0.2).2 W (Vv.allM W) [Value.agg cs0] (Vv.Qub W) (.cons (.t t0) .nil)
 refine Calls.mono hvc fun e W' ⟨v', m', he, hg, _, _, _, hr⟩ => ?_
 subst he
 obtain rfl := Vv.R_vb hr
 exact ⟨_, rfl, Vv.Qxi hW' (trodAll_cons_mk (shut_bool Try.underlying4 _) trodAll_mk0) (trodAll_cons_mk (Below.trod Q23 (by kernel_rfl) (of_decide_eq_true (by kernel_rfl)) k0 hg lt0) trodAll_mk0) rfl hg⟩
theorem over : Rows.pointLeastRow.holds Try.pinned (OpenSpec.ofChange Rows.pointLeastSpec) :=
 OpenClaim.holds_of_wide 3 Try.f3 rfl rfl rfl rfl rfl rfl rfl ⟨rfl, rfl, rfl, rfl, rfl⟩ rfl rfl rfl rfl rfl (by kernel_rfl) Try.func3 closed
  (of_decide_eq_true (by kernel_rfl)) (by unfold Func.isWrapper; first | (rw [if_pos (by decide +kernel)]; kernel_rfl) | (rw [if_neg (by decide +kernel)]; exact ⟨rfl, rfl⟩))
  (fun os started H enc _ => lifted os started H enc)
theorem proved : Rows.PointLeastSaid := over
#print axioms proved
end Go.Proofs.Ytjomicmhnbmhoaa.pointLeast

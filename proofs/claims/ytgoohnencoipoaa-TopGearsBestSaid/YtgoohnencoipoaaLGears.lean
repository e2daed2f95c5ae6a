import Derived.Test.YtgoohnencoipoaaRows
import Derived.Test.YtgoohnencoipoaaClP
import Derived.Test.YtgoohnencoipoaaTGD
import Derived.Test.YtgoohnencoipoaaWb
import Derived.ChangeOld
import Derived.Carry
import Derived.WalkKit
import Derived.ProofKit
import Derived.OpenShut
import Derived.Lib.SmallJoins
set_option linter.unusedVariables false
set_option linter.unusedSimpArgs false
namespace Go.Proofs.Ytgoohnencoipoaa.topGearsBest
open Go.ChangeShapes Go.WideShapes Go.ChangeAt Go.RowKit Go.Joins
open Vv (VV)
theorem own : ownKnob Try.prog.godebug = none := by kernel_rfl
set_option maxHeartbeats 0 in
theorem closed : joinedFacts Try.pinned.checked.prog 3 Try.f3 Rows.topGearsBestSpec Rows.topGearsBestRow = true := by
 unfold joinedFacts
 simp only [Bool.and_eq_true]
 repeat' apply And.intro
 all_goals (first | with_reducible exact Qu1 | with_reducible exact Qog | (rw [Qu2]; as_aux_lemma => kernel_rfl) | (as_aux_lemma => kernel_rfl))
set_option maxHeartbeats 0 in
set_option maxRecDepth 100000 in
theorem lifted (os : Os) (started : os.Started) (H : Type) (enc : TypeId × Value -> H) :
 ReturnsInHanded {} Try.checked os 3 .any (Rows.topGearsBestSpec.pre6 enc Try.prog Try.f3 Rows.topGearsBestRow.domain false) (Rows.topGearsBestSpec.post enc Try.prog Try.f3 false true false false) := by
 refine returnsInHanded_of_change (C := Try.checked) own started (by kernel_rfl) Try.func3
  (ChangeSpec.witness6 (enc := enc) (C := Try.checked) false ⟨#[], #[.agg #[.int .i64 0, .int .i64 0], .slice none 0 0, .slice none 0 0], []⟩ 8 (by kernel_rfl) (by kernel_rfl) (by kernel_rfl) (by kernel_rfl)) ?_
 intro W base args ds gs before hval0 hW hcnd _
 have hval : ∀ (j : Nat) t v, Try.f3.params[j]? = some t -> args[j]? = some v -> Value.okWide Try.prog W .any base t v := hval0
 have hW' := hW
 obtain ⟨p, q, hA0, hV, rfl, hfz, hnd⟩ := hW
 have hA : DataW.TrodAll enc Try.prog W 0 (fun _ => true) true Try.f3.params.toList args.toList ds p := hA0
 rw [Try.params3] at hA hval
 obtain ⟨v0, vs0, d0, ds0, p0, q0, hargs, rfl, rfl, h0, r0⟩ := trodAll_cons hA
 obtain ⟨v1, vs1, d1, ds1, p1, q1, rfl, rfl, rfl, h1, r1⟩ := trodAll_cons r0
 obtain ⟨v2, vs2, d2, ds2, p2, q2, rfl, rfl, rfl, h2, r2⟩ := trodAll_cons r1
 obtain ⟨rfl, rfl, rfl⟩ := trodAll_nil r2
 obtain rfl : args = #[v0, v1, v2] := by cases args; simp_all
 obtain ⟨rfl, rfl⟩ := trodVars_none hV
 obtain ⟨cs0, rfl, sz0⟩ := okWide_struct Try.underlying23 (hval 0 23 v0 rfl rfl)
 have k0 := h0
 have lt0 : ∀ x ∈ p0, x.block < W.heap.size := by obtain ⟨m, hm⟩ := k0; exact DataW.trod_lt m _ _ _ hm
 obtain ⟨s0, t0⟩ := ((Vv.Opens.as (Vv.Qeu Try.underlying23 (by kernel_rfl) (Vv.Qb5 (m := 1) rfl (by kernel_rfl) (Vv.Qmh Try.underlying3) (Vv.Qb5 (m := 1) rfl (by kernel_rfl) (Vv.Qmh Try.underlying3) Vv.Qgx))) (A := { x : Vg.Qc // (Vv.In64 x.Num) /\ (Vv.In64 x.Den) }) (g := fun x => Vg.Qa x.1) (fun s => ⟨⟨s.1.1, s.2.1.1⟩, ⟨s.1.2, s.2.1.2⟩⟩) (fun _ => rfl))).agg h0
 obtain ⟨a1, n1, c1, rfl⟩ := okWide_slice Try.underlying24 (hval 1 24 v1 rfl rfl)
 have k1 := h1
 have lt1 : ∀ x ∈ p1, x.block < W.heap.size := by obtain ⟨m, hm⟩ := k1; exact DataW.trod_lt m _ _ _ hm
 obtain ⟨s1, t1⟩ := ((Vv.Qjy (m := 2) Try.underlying24 (by kernel_rfl) (by decide) (fun _ => rfl) (Vv.Opens.as (Vv.Qeu Try.underlying38 (by kernel_rfl) (Vv.Qb5 (m := 1) rfl (by kernel_rfl) (Vv.Qf9 Try.underlying3) (Vv.Qb5 (m := 1) rfl (by kernel_rfl) (Vv.Qf9 Try.underlying3) Vv.Qgx))) (A := Vg.Qe) (g := Vg.Qd) (fun s => ⟨s.1, s.2.1⟩) (fun _ => rfl)))).slice h1
 obtain ⟨a2, n2, c2, rfl⟩ := okWide_slice Try.underlying24 (hval 2 24 v2 rfl rfl)
 have k2 := h2
 have lt2 : ∀ x ∈ p2, x.block < W.heap.size := by obtain ⟨m, hm⟩ := k2; exact DataW.trod_lt m _ _ _ hm
 obtain ⟨s2, t2⟩ := ((Vv.Qjy (m := 2) Try.underlying24 (by kernel_rfl) (by decide) (fun _ => rfl) (Vv.Opens.as (Vv.Qeu Try.underlying38 (by kernel_rfl) (Vv.Qb5 (m := 1) rfl (by kernel_rfl) (Vv.Qf9 Try.underlying3) (Vv.Qb5 (m := 1) rfl (by kernel_rfl) (Vv.Qf9 Try.underlying3) Vv.Qgx))) (A := Vg.Qe) (g := Vg.Qd) (fun s => ⟨s.1, s.2.1⟩) (fun _ => rfl)))).slice h2
 clear hA0 hval0
 have hvc := (Vg.Qte s0.1 s1 s2 s0.2).2 W (Vv.allM W) [Value.agg cs0, Value.slice a1 n1 c1, Value.slice a2 n2 c2] (Vv.Qnt W) (.cons (.t t0) (.cons (.t t1) (.cons (.t t2) .nil)))
 refine Calls.mono hvc fun e W' ⟨v', m', he, hg, _, _, _, hr⟩ => ?_
 subst he
 obtain rfl := Vv.R_vb hr
 exact ⟨_, rfl, Vv.Qp9 hW' (trodAll_cons_mk (shut_bool Try.underlying4 _) trodAll_mk0) (trodAll_cons_mk (Below.trod Qog (by kernel_rfl) (of_decide_eq_true (by kernel_rfl)) k0 hg lt0) (trodAll_cons_mk (Below.trod Qog (by kernel_rfl) (of_decide_eq_true (by kernel_rfl)) k1 hg lt1) (trodAll_cons_mk (Below.trod Qog (by kernel_rfl) (of_decide_eq_true (by kernel_rfl)) k2 hg lt2) trodAll_mk0))) rfl hg⟩
theorem over : Rows.topGearsBestRow.holds Try.pinned (OpenSpec.ofChange Rows.topGearsBestSpec) :=
 OpenClaim.holds_of_wide 3 Try.f3 rfl rfl rfl rfl rfl rfl rfl ⟨rfl, rfl, rfl, rfl, rfl⟩ rfl rfl rfl rfl rfl (by kernel_rfl) Try.func3 closed
  (of_decide_eq_true (by kernel_rfl)) (by unfold Func.isWrapper; first | (rw [if_pos (by decide +kernel)]; kernel_rfl) | (rw [if_neg (by decide +kernel)]; exact ⟨rfl, rfl⟩))
  (fun os started H enc _ => lifted os started H enc)
theorem proved : Rows.TopGearsBestSaid := over
#print axioms proved
end Go.Proofs.Ytgoohnencoipoaa.topGearsBest

import Derived.Test.YtfeedchjdnedjaaRows
import Derived.Test.YtfeedchjdnedjaaClP
import Derived.Test.YtfeedchjdnedjaaSP
import Derived.Test.YtfeedchjdnedjaaWb
import Derived.ChangeOld
import Derived.Carry
import Derived.WalkKit
import Derived.ProofKit
import Derived.OpenShut
import Derived.Lib.SmallJoins
set_option linter.unusedVariables false
set_option linter.unusedSimpArgs false
namespace Go.Proofs.Ytfeedchjdnedjaa.blankPromises
open Go.ChangeShapes Go.WideShapes Go.ChangeAt Go.RowKit Go.Joins
open Vv (VV)
theorem own : ownKnob Try.prog.godebug = none := by kernel_rfl
set_option maxHeartbeats 0 in
theorem closed : joinedFacts Try.pinned.checked.prog 3 Try.f3 Rows.blankPromisesSpec Rows.blankPromisesRow = true := by
 unfold joinedFacts
 simp only [Bool.and_eq_true]
 repeat' apply And.intro
 all_goals (first | with_reducible exact Qxq | with_reducible exact Qpx | (rw [Qxr]; as_aux_lemma => kernel_rfl) | (as_aux_lemma => kernel_rfl))
set_option maxHeartbeats 0 in
set_option maxRecDepth 100000 in
theorem lifted (os : Os) (started : os.Started) (H : Type) (enc : TypeId × Value -> H) :
 ReturnsInHanded {} Try.checked os 3 .any (Rows.blankPromisesSpec.pre6 enc Try.prog Try.f3 Rows.blankPromisesRow.domain false) (Rows.blankPromisesSpec.post enc Try.prog Try.f3 false true false false) := by
 refine returnsInHanded_of_change (C := Try.checked) own started (by kernel_rfl) Try.func3
  (ChangeSpec.witness6 (enc := enc) (C := Try.checked) false ⟨#[], #[.slice none 0 0, .slice none 0 0, .agg #[.string ⟨#[]⟩, .string ⟨#[]⟩, .string ⟨#[]⟩]], []⟩ 8 (by kernel_rfl) (by kernel_rfl) (by kernel_rfl) (by kernel_rfl)) ?_
 intro W base args ds gs before hval0 hW hcnd _
 have hval : ∀ (j : Nat) t v, Try.f3.params[j]? = some t -> args[j]? = some v -> Value.okWide Try.prog W .any base t v := hval0
 have hW' := hW
 obtain ⟨p, q, hA0, hV, rfl, hfz, hnd⟩ := hW
 have hA : DataW.TrodAll enc Try.prog W 0 (fun _ => true) true Try.f3.params.toList args.toList ds p := hA0
 rw [Try.params3] at hA hval
 obtain ⟨v0, vs0, d0, ds0, p0, q0, hargs, rfl, rfl, h0, r0⟩ := trodAll_cons hA
 obtain ⟨v1, vs1, d1, ds1, p1, q1, rfl, rfl, rfl, h1, r1⟩ := trodAll_cons r0
 obtain ⟨v2, vs2, d2, ds2, p2, q2, rfl, rfl, rfl, h2, r2⟩ := trodAll_cons r1
 obtain ⟨rfl, rfl, rfl⟩ := trodAll_nil r2
 obtain rfl : args = #[v0, v1, v2] := by cases args; simp_all
 obtain ⟨rfl, rfl⟩ := trodVars_none hV
 obtain ⟨a0, n0, c0, rfl⟩ := okWide_slice Try.underlying22 (hval 0 22 v0 rfl rfl)
 have k0 := h0
 have lt0 : ∀ x ∈ p0, x.block < W.heap.size := by obtain ⟨m, hm⟩ := k0; exact DataW.trod_lt m _ _ _ hm
 obtain ⟨s0, t0⟩ := ((Vv.Qjt (m := 4) Try.underlying22 (by kernel_rfl) (by decide) (fun _ => rfl) (Vv.Opens.as (Vv.Qdb Try.underlying67 (by kernel_rfl) (Vv.Wp (m := 1) rfl (by kernel_rfl) (Vv.Qbc Try.underlying9) (Vv.Wp (m := 1) rfl (by kernel_rfl) (Vv.Qh7 Try.underlying3) (Vv.Wp (m := 1) rfl (by kernel_rfl) (Vv.Qh7 Try.underlying3) (Vv.Wp (m := 1) rfl (by kernel_rfl) (Vv.Qh7 Try.underlying3) Vv.Qe8))))) (A := Vg.Qd) (g := Vg.Qc) (fun s => ⟨s.1, s.2.1, s.2.2.1, s.2.2.2.1⟩) (fun _ => rfl)))).slice h0
 obtain ⟨a1, n1, c1, rfl⟩ := okWide_slice Try.underlying23 (hval 1 23 v1 rfl rfl)
 have k1 := h1
 have lt1 : ∀ x ∈ p1, x.block < W.heap.size := by obtain ⟨m, hm⟩ := k1; exact DataW.trod_lt m _ _ _ hm
 obtain ⟨s1, t1⟩ := ((Vv.Qjt (m := 2) Try.underlying23 (by kernel_rfl) (by decide) (fun _ => rfl) (Vv.Opens.as (Vv.Qdb Try.underlying25 (by kernel_rfl) (Vv.Wp (m := 1) rfl (by kernel_rfl) (Vv.Qbc Try.underlying9) (Vv.Wp (m := 1) rfl (by kernel_rfl) (Vv.Qbc Try.underlying9) Vv.Qe8))) (A := Vg.Qb) (g := Vg.Qa) (fun s => ⟨s.1, s.2.1⟩) (fun _ => rfl)))).slice h1
 obtain ⟨cs2, rfl, sz2⟩ := okWide_struct Try.underlying27 (hval 2 27 v2 rfl rfl)
 have k2 := h2
 have lt2 : ∀ x ∈ p2, x.block < W.heap.size := by obtain ⟨m, hm⟩ := k2; exact DataW.trod_lt m _ _ _ hm
 obtain ⟨s2, t2⟩ := ((Vv.Opens.as (Vv.Qdb Try.underlying27 (by kernel_rfl) (Vv.Wp (m := 2) rfl (by kernel_rfl) (Vv.Opens.as (Vv.Qdb Try.underlying25 (by kernel_rfl) (Vv.Wp (m := 1) rfl (by kernel_rfl) (Vv.Qbc Try.underlying9) (Vv.Wp (m := 1) rfl (by kernel_rfl) (Vv.Qbc Try.underlying9) Vv.Qe8))) (A := Vg.Qb) (g := Vg.Qa) (fun s => ⟨s.1, s.2.1⟩) (fun _ => rfl)) (Vv.Wp (m := 1) rfl (by kernel_rfl) (Vv.Qbc Try.underlying9) Vv.Qe8))) (A := Vg.Qeh) (g := Vg.Qgh) (fun s => ⟨s.1, s.2.1⟩) (fun _ => rfl))).agg h2
 clear hA0 hval0
 have hvc := (Vg.Qxm s0 s1 s2).2 W (Vv.allM W) [Value.slice a0 n0 c0, Value.slice a1 n1 c1, Value.agg cs2] (Vv.Qoa W) (.cons (.t t0) (.cons (.t t1) (.cons (.t t2) .nil)))
 refine Calls.mono hvc fun e W' ⟨v', m', he, hg, _, _, _, hr⟩ => ?_
 subst he
 obtain rfl := Vv.R_vb hr
 exact ⟨_, rfl, Vv.Qqo hW' (trodAll_cons_mk (shut_bool Try.underlying4 _) trodAll_mk0) (trodAll_cons_mk (Below.trod Qpx (by kernel_rfl) (of_decide_eq_true (by kernel_rfl)) k0 hg lt0) (trodAll_cons_mk (Below.trod Qpx (by kernel_rfl) (of_decide_eq_true (by kernel_rfl)) k1 hg lt1) (trodAll_cons_mk (Below.trod Qpx (by kernel_rfl) (of_decide_eq_true (by kernel_rfl)) k2 hg lt2) trodAll_mk0))) rfl hg⟩
theorem over : Rows.blankPromisesRow.holds Try.pinned (OpenSpec.ofChange Rows.blankPromisesSpec) :=
 OpenClaim.holds_of_wide 3 Try.f3 rfl rfl rfl rfl rfl rfl rfl ⟨rfl, rfl, rfl, rfl, rfl⟩ rfl rfl rfl rfl rfl (by kernel_rfl) Try.func3 closed
  (of_decide_eq_true (by kernel_rfl)) (by unfold Func.isWrapper; first | (rw [if_pos (by decide +kernel)]; kernel_rfl) | (rw [if_neg (by decide +kernel)]; exact ⟨rfl, rfl⟩))
  (fun os started H enc _ => lifted os started H enc)
theorem proved : Rows.BlankPromisesSaid := over
#print axioms proved
end Go.Proofs.Ytfeedchjdnedjaa.blankPromises

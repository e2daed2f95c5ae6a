import Derived.Test.YtbgajdbpdhipiaaRows
import Derived.Test.YtbgajdbpdhipiaaClP
import Derived.Test.YtbgajdbpdhipiaaBZ
import Derived.Test.YtbgajdbpdhipiaaWb
import Derived.ChangeOld
import Derived.Carry
import Derived.WalkKit
import Derived.ProofKit
import Derived.OpenShut
import Derived.Lib.SmallJoins
set_option linter.unusedVariables false
set_option linter.unusedSimpArgs false
namespace Go.Proofs.Ytbgajdbpdhipiaa.topReachable
open Go.ChangeShapes Go.WideShapes Go.ChangeAt Go.RowKit Go.Joins
open Vv (VV)
theorem own : ownKnob Try.prog.godebug = none := by kernel_rfl
set_option maxHeartbeats 0 in
theorem closed : joinedFacts Try.pinned.checked.prog 4 Try.f4 Rows.topReachableSpec Rows.topReachableRow = true := by
 unfold joinedFacts
 simp only [Bool.and_eq_true]
 repeat' apply And.intro
 all_goals (first | with_reducible exact Q07 | with_reducible exact Qwg | (rw [Q08]; as_aux_lemma => kernel_rfl) | (as_aux_lemma => kernel_rfl))
set_option maxHeartbeats 0 in
set_option maxRecDepth 100000 in
theorem lifted (os : Os) (started : os.Started) (H : Type) (enc : TypeId × Value -> H) :
 ReturnsInHanded {} Try.checked os 4 .any (Rows.topReachableSpec.pre6 enc Try.prog Try.f4 Rows.topReachableRow.domain false) (Rows.topReachableSpec.post enc Try.prog Try.f4 false true false false) := by
 refine returnsInHanded_of_change (C := Try.checked) own started (by kernel_rfl) Try.func4
  (ChangeSpec.witness6 (enc := enc) (C := Try.checked) false ⟨#[], #[.agg #[.int .i64 0, .int .i64 0, .int .i64 0, .int .i64 0, .int .i64 0, .slice none 0 0, .slice none 0 0, .slice none 0 0, .int .i64 0, .int .i64 0], .int .i64 0], []⟩ 8 (by kernel_rfl) (by kernel_rfl) (by kernel_rfl) (by kernel_rfl)) ?_
 intro W base args ds gs before hval0 hW hcnd _
 have hval : ∀ (j : Nat) t v, Try.f4.params[j]? = some t -> args[j]? = some v -> Value.okWide Try.prog W .any base t v := hval0
 have hW' := hW
 obtain ⟨p, q, hA0, hV, rfl, hfz, hnd⟩ := hW
 have hA : DataW.TrodAll enc Try.prog W 0 (fun _ => true) true Try.f4.params.toList args.toList ds p := hA0
 rw [Try.params4] at hA hval
 obtain ⟨v0, vs0, d0, ds0, p0, q0, hargs, rfl, rfl, h0, r0⟩ := trodAll_cons hA
 obtain ⟨v1, vs1, d1, ds1, p1, q1, rfl, rfl, rfl, h1, r1⟩ := trodAll_cons r0
 obtain ⟨rfl, rfl, rfl⟩ := trodAll_nil r1
 obtain rfl : args = #[v0, v1] := by cases args; simp_all
 obtain ⟨rfl, rfl⟩ := trodVars_none hV
 obtain ⟨cs0, rfl, sz0⟩ := okWide_struct Try.underlying28 (hval 0 28 v0 rfl rfl)
 have k0 := h0
 have lt0 : ∀ x ∈ p0, x.block < W.heap.size := by obtain ⟨m, hm⟩ := k0; exact DataW.trod_lt m _ _ _ hm
 obtain ⟨s0, t0⟩ := ((Vv.Opens.as (Vv.Qdk Try.underlying28 (by kernel_rfl) (Vv.Xd (m := 7) rfl (by kernel_rfl) (Vv.Opens.as (Vv.Qdk Try.underlying24 (by kernel_rfl) (Vv.Xd (m := 1) rfl (by kernel_rfl) (Vv.Wx Try.underlying3) (Vv.Xd (m := 1) rfl (by kernel_rfl) (Vv.Wx Try.underlying3) (Vv.Xd (m := 1) rfl (by kernel_rfl) (Vv.Wx Try.underlying3) (Vv.Xd (m := 1) rfl (by kernel_rfl) (Vv.Wx Try.underlying3) (Vv.Xd (m := 1) rfl (by kernel_rfl) (Vv.Wx Try.underlying3) (Vv.Xd (m := 1) rfl (by kernel_rfl) (Vv.Qmv (m := 2) Try.underlying22 (by kernel_rfl) (by decide) (fun _ => rfl) (Vv.Opens.as (Vv.Qdk Try.underlying96 (by kernel_rfl) (Vv.Xd (m := 1) rfl (by kernel_rfl) (Vv.Wx Try.underlying3) (Vv.Xd (m := 1) rfl (by kernel_rfl) (Vv.Wx Try.underlying3) Vv.Qed))) (A := Vg.Zg) (g := Vg.Zd) (fun s => ⟨s.1, s.2.1⟩) (fun _ => rfl))) (Vv.Xd (m := 1) rfl (by kernel_rfl) (Vv.Qmv (m := 2) Try.underlying22 (by kernel_rfl) (by decide) (fun _ => rfl) (Vv.Opens.as (Vv.Qdk Try.underlying96 (by kernel_rfl) (Vv.Xd (m := 1) rfl (by kernel_rfl) (Vv.Wx Try.underlying3) (Vv.Xd (m := 1) rfl (by kernel_rfl) (Vv.Wx Try.underlying3) Vv.Qed))) (A := Vg.Zg) (g := Vg.Zd) (fun s => ⟨s.1, s.2.1⟩) (fun _ => rfl))) Vv.Qed)))))))) (A := Vg.Qd) (g := Vg.Zf) (fun s => ⟨s.1, s.2.1, s.2.2.1, s.2.2.2.1, s.2.2.2.2.1, s.2.2.2.2.2.1, s.2.2.2.2.2.2.1⟩) (fun _ => rfl)) (Vv.Xd (m := 1) rfl (by kernel_rfl) (Vv.Qq3 (m := 6) Try.underlying25 (by kernel_rfl) (by decide) (fun _ => rfl) (Vv.Opens.as (Vv.Qdk Try.underlying51 (by kernel_rfl) (Vv.Xd (m := 1) rfl (by kernel_rfl) (Vv.Qpm Try.underlying9) (Vv.Xd (m := 1) rfl (by kernel_rfl) (Vv.Wx Try.underlying3) (Vv.Xd (m := 1) rfl (by kernel_rfl) (Vv.Wx Try.underlying3) (Vv.Xd (m := 1) rfl (by kernel_rfl) (Vv.Wx Try.underlying3) (Vv.Xd (m := 1) rfl (by kernel_rfl) (Vv.Wx Try.underlying3) (Vv.Xd (m := 1) rfl (by kernel_rfl) (Vv.Wx Try.underlying3) Vv.Qed))))))) (A := Vg.Qa) (g := Vg.Qb) (fun s => ⟨s.1, s.2.1, s.2.2.1, s.2.2.2.1, s.2.2.2.2.1, s.2.2.2.2.2.1⟩) (fun _ => rfl))) (Vv.Xd (m := 2) rfl (by kernel_rfl) (Vv.Opens.as (Vv.Qpn (m := 1) Try.underlying26 (by kernel_rfl) (by kernel_rfl) (Vv.Wx Try.underlying3)) (A := Vg.A26) (g := Vg.Qdy) (fun s => ⟨s.1, s.2.1⟩) (fun _ => rfl)) Vv.Qed)))) (A := { x : Vg.Qad // (x.Targets.length <= 9223372036854775807) }) (g := fun x => Vg.Qdo x.1) (fun s => ⟨⟨s.1, s.2.1.1, s.2.2.1⟩, s.2.1.2⟩) (fun _ => rfl))).agg h0
 obtain ⟨i1, rfl, wf1⟩ := okWide_int Try.underlying3 (hval 1 3 v1 rfl rfl)
 have k1 := h1
 have lt1 : ∀ x ∈ p1, x.block < W.heap.size := by obtain ⟨m, hm⟩ := k1; exact DataW.trod_lt m _ _ _ hm
 have t1 : Vv.T (Vv.allM W) (Vv.vi i1) (.int .i64 i1) := .c rfl
 clear hA0 hval0
 have hvc := (Vg.Qyk s0.1 i1 s0.2).2 W (Vv.allM W) [Value.agg cs0, Value.int .i64 i1] (Vv.Qq4 W) (.cons (.t t0) (.cons (.t t1) .nil))
 refine Calls.mono hvc fun e W' ⟨v', m', he, hg, _, _, _, hr⟩ => ?_
 subst he
 obtain rfl := Vv.R_vb hr
 exact ⟨_, rfl, Vv.Qui hW' (trodAll_cons_mk (shut_bool Try.underlying4 _) trodAll_mk0) (trodAll_cons_mk (Below.trod Qwg (by kernel_rfl) (of_decide_eq_true (by kernel_rfl)) k0 hg lt0) (trodAll_cons_mk (Below.trod Qwg (by kernel_rfl) (of_decide_eq_true (by kernel_rfl)) k1 hg lt1) trodAll_mk0)) rfl hg⟩
theorem over : Rows.topReachableRow.holds Try.pinned (OpenSpec.ofChange Rows.topReachableSpec) :=
 OpenClaim.holds_of_wide 4 Try.f4 rfl rfl rfl rfl rfl rfl rfl ⟨rfl, rfl, rfl, rfl, rfl⟩ rfl rfl rfl rfl rfl (by kernel_rfl) Try.func4 closed
  (of_decide_eq_true (by kernel_rfl)) (by unfold Func.isWrapper; first | (rw [if_pos (by decide +kernel)]; kernel_rfl) | (rw [if_neg (by decide +kernel)]; exact ⟨rfl, rfl⟩))
  (fun os started H enc _ => lifted os started H enc)
theorem proved : Rows.TopReachableSaid := over
#print axioms proved
end Go.Proofs.Ytbgajdbpdhipiaa.topReachable

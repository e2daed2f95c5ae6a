import Derived.Test.YtiekbdbedonnoaaRows
import Derived.Test.YtiekbdbedonnoaaClP
import Derived.Test.YtiekbdbedonnoaaKNa
import Derived.Test.YtiekbdbedonnoaaWb
import Derived.ChangeOld
import Derived.Carry
import Derived.WalkKit
import Derived.ProofKit
import Derived.OpenShut
import Derived.Lib.SmallJoins
set_option linter.unusedVariables false
set_option linter.unusedSimpArgs false
namespace Go.Proofs.Ytiekbdbedonnoaa.grindAdds
open Go.ChangeShapes Go.WideShapes Go.ChangeAt Go.RowKit Go.Joins
open Vv (VV)
theorem own : ownKnob Try.prog.godebug = none := by kernel_rfl
set_option maxHeartbeats 0 in
theorem closed : joinedFacts Try.pinned.checked.prog 4 Try.f4 Rows.grindAddsSpec Rows.grindAddsRow = true := by
 unfold joinedFacts
 simp only [Bool.and_eq_true]
 repeat' apply And.intro
 all_goals (first | with_reducible exact Q0v | with_reducible exact Qv9 | (rw [Q0w]; as_aux_lemma => kernel_rfl) | (as_aux_lemma => kernel_rfl))
set_option maxHeartbeats 0 in
set_option maxRecDepth 100000 in
theorem lifted (os : Os) (started : os.Started) (H : Type) (enc : TypeId × Value -> H) :
 ReturnsInHanded {} Try.checked os 4 .any (Rows.grindAddsSpec.pre6 enc Try.prog Try.f4 Rows.grindAddsRow.domain false) (Rows.grindAddsSpec.post enc Try.prog Try.f4 false true false false) := by
 refine returnsInHanded_of_change (C := Try.checked) own started (by kernel_rfl) Try.func4
  (ChangeSpec.witness6 (enc := enc) (C := Try.checked) false ⟨#[], #[.slice none 0 0, .agg #[.slice none 0 0, .slice none 0 0, .slice none 0 0, .string ⟨#[]⟩, .string ⟨#[]⟩, .int .i64 0]], []⟩ 8 (by kernel_rfl) (by kernel_rfl) (by kernel_rfl) (by kernel_rfl)) ?_
 intro W base args ds gs before hval0 hW hcnd _
 have hval : ∀ (j : Nat) t v, Try.f4.params[j]? = some t -> args[j]? = some v -> Value.okWide Try.prog W .any base t v := hval0
 have hW' := hW
 obtain ⟨p, q, hA0, hV, rfl, hfz, hnd⟩ := hW
 have hA : DataW.TrodAll enc Try.prog W 0 (fun _ => true) true Try.f4.params.toList args.toList ds p := hA0
 rw [Try.params4] at hA hval
 obtain ⟨v0, vs0, d0, ds0, p0, q0, hargs, rfl, rfl, h0, r0⟩ := trodAll_cons hA
 obtain ⟨v1, vs1, d1, ds1, p1, q1, rfl, rfl, rfl, h1, r1⟩ := trodAll_cons r0
 obtain ⟨rfl, rfl, rfl⟩ := trodAll_nil r1
 obtain rfl : args = #[v0, v1] := by cases args; simp_all
 obtain ⟨rfl, rfl⟩ := trodVars_none hV
 obtain ⟨a0, n0, c0, rfl⟩ := okWide_slice Try.underlying22 (hval 0 22 v0 rfl rfl)
 have k0 := h0
 have lt0 : ∀ x ∈ p0, x.block < W.heap.size := by obtain ⟨m, hm⟩ := k0; exact DataW.trod_lt m _ _ _ hm
 obtain ⟨s0, t0⟩ := ((Vv.Qtj (m := 2) Try.underlying22 (by kernel_rfl) (by decide) (fun _ => rfl) (Vv.Opens.as (Vv.Qek Try.underlying83 (by kernel_rfl) (Vv.Wq (m := 1) rfl (by kernel_rfl) (Vv.Qel Try.underlying9) (Vv.Wq (m := 1) rfl (by kernel_rfl) (Vv.Qje Try.underlying23 Try.underlying3 (by kernel_rfl)) Vv.Qf6))) (A := Vg.Qd) (g := Vg.Qc) (fun s => ⟨s.1, s.2.1⟩) (fun _ => rfl)))).slice h0
 obtain ⟨cs1, rfl, sz1⟩ := okWide_struct Try.underlying52 (hval 1 52 v1 rfl rfl)
 have k1 := h1
 have lt1 : ∀ x ∈ p1, x.block < W.heap.size := by obtain ⟨m, hm⟩ := k1; exact DataW.trod_lt m _ _ _ hm
 obtain ⟨s1, t1⟩ := ((Vv.Opens.as (Vv.Qek Try.underlying52 (by kernel_rfl) (Vv.Wq (m := 2) rfl (by kernel_rfl) (Vv.Opens.as (Vv.Qek Try.underlying25 (by kernel_rfl) (Vv.Wq (m := 1) rfl (by kernel_rfl) (Vv.Qje Try.underlying23 Try.underlying3 (by kernel_rfl)) (Vv.Wq (m := 1) rfl (by kernel_rfl) (Vv.Qje Try.underlying23 Try.underlying3 (by kernel_rfl)) Vv.Qf6))) (A := Vg.Qg) (g := Vg.Ze) (fun s => ⟨s.1, s.2.1⟩) (fun _ => rfl)) (Vv.Wq (m := 1) rfl (by kernel_rfl) (Vv.Qqg (m := 3) Try.underlying48 (by kernel_rfl) (by decide) (fun _ => rfl) (Vv.Opens.as (Vv.Qek Try.underlying50 (by kernel_rfl) (Vv.Wq (m := 1) rfl (by kernel_rfl) (Vv.Qel Try.underlying9) (Vv.Wq (m := 1) rfl (by kernel_rfl) (Vv.Qel Try.underlying9) (Vv.Wq (m := 1) rfl (by kernel_rfl) (Vv.Qov Try.underlying3) Vv.Qf6)))) (A := Vg.Qb) (g := Vg.Qa) (fun s => ⟨s.1, s.2.1, s.2.2.1⟩) (fun _ => rfl))) (Vv.Wq (m := 3) rfl (by kernel_rfl) (Vv.Opens.as (Vv.Qek Try.underlying50 (by kernel_rfl) (Vv.Wq (m := 1) rfl (by kernel_rfl) (Vv.Qel Try.underlying9) (Vv.Wq (m := 1) rfl (by kernel_rfl) (Vv.Qel Try.underlying9) (Vv.Wq (m := 1) rfl (by kernel_rfl) (Vv.Qov Try.underlying3) Vv.Qf6)))) (A := Vg.Qb) (g := Vg.Qa) (fun s => ⟨s.1, s.2.1, s.2.2.1⟩) (fun _ => rfl)) Vv.Qf6)))) (A := { x : Vg.SDay // (x.Sessions.length <= 9223372036854775807) }) (g := fun x => Vg.Qow x.1) (fun s => ⟨⟨s.1, s.2.1.1, s.2.2.1⟩, s.2.1.2⟩) (fun _ => rfl))).agg h1
 clear hA0 hval0
 have hvc := (Vg.Qz2 s0 s1.1 s1.2).2 W (Vv.allM W) [Value.slice a0 n0 c0, Value.agg cs1] (Vv.Qrj W) (.cons (.t t0) (.cons (.t t1) .nil))
 refine Calls.mono hvc fun e W' ⟨v', m', he, hg, _, _, _, hr⟩ => ?_
 subst he
 obtain rfl := Vv.R_vb hr
 exact ⟨_, rfl, Vv.Qti hW' (trodAll_cons_mk (shut_bool Try.underlying4 _) trodAll_mk0) (trodAll_cons_mk (Below.trod Qv9 (by kernel_rfl) (of_decide_eq_true (by kernel_rfl)) k0 hg lt0) (trodAll_cons_mk (Below.trod Qv9 (by kernel_rfl) (of_decide_eq_true (by kernel_rfl)) k1 hg lt1) trodAll_mk0)) rfl hg⟩
theorem over : Rows.grindAddsRow.holds Try.pinned (OpenSpec.ofChange Rows.grindAddsSpec) :=
 OpenClaim.holds_of_wide 4 Try.f4 rfl rfl rfl rfl rfl rfl rfl ⟨rfl, rfl, rfl, rfl, rfl⟩ rfl rfl rfl rfl rfl (by kernel_rfl) Try.func4 closed
  (of_decide_eq_true (by kernel_rfl)) (by unfold Func.isWrapper; first | (rw [if_pos (by decide +kernel)]; kernel_rfl) | (rw [if_neg (by decide +kernel)]; exact ⟨rfl, rfl⟩))
  (fun os started H enc _ => lifted os started H enc)
theorem proved : Rows.GrindAddsSaid := over
#print axioms proved
end Go.Proofs.Ytiekbdbedonnoaa.grindAdds

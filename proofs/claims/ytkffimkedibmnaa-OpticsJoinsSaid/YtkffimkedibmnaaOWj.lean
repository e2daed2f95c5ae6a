/- Chapter 2, plain: systems joined. -/
import Derived.Test.YtkffimkedibmnaaOWb
import Derived.Test.YtkffimkedibmnaaWJ
set_option linter.unusedVariables false
set_option linter.unusedSimpArgs false
namespace Go.Proofs.Ytkffimkedibmnaa.Vg
open Go Go.Proofs.Ytkffimkedibmnaa.Ev Go.Proofs.Ytkffimkedibmnaa.Vv
theorem checkFrac_ref (k : Nat) (hk : 100000000000000000000 ≤ k) {f : SFrac} (h : IF f) : nspeculumref02_CheckFrac k f = some (ckE f) := by
  have e := ckE_sm f
  unfold nspeculumref02_CheckFrac
  rw [isLowest_any k hk h, Option.bind_some, isSmall_any k hk h, Option.bind_some]
  cases hl : lowB f with
  | false => unfold ckE; rw [hl]; rfl
  | true =>
    rw [if_pos rfl]
    by_cases s : smB f = true
    · rw [if_pos s, e.2 s]
    · rw [if_neg s]
      have : ckE f ≠ 0 := fun h => s (e.1 h)
      unfold ckE at this ⊢
      rw [hl, if_pos rfl] at this ⊢
      split
      · rfl
      · split
        · rfl
        · rename_i h1 h2; rw [if_neg h1, if_neg h2] at this; exact absurd rfl this
structure IM (m : SMatrix) : Prop where
  a : IF m.A
  b : IF m.B
  c : IF m.C
  d : IF m.D
def maE (m : SMatrix) : Int := fcE [m.A, m.B, m.C, m.D]
theorem matrix_opt (k : Nat) (hk : 100000000000000000000 ≤ k) {m : SMatrix} (h : IM m) : noptics_checkMatrix k m = some (maE m) := by
  unfold noptics_checkMatrix maE
  rw [checkFracs_any k hk _ (fun f hf => by
    simp only [List.mem_cons, List.not_mem_nil, or_false] at hf
    rcases hf with rfl | rfl | rfl | rfl
    · exact h.a
    · exact h.b
    · exact h.c
    · exact h.d) (by simp), Option.bind_some]
theorem matrix_ref (k : Nat) (hk : 100000000000000000000 ≤ k) {m : SMatrix} (h : IM m) : nspeculumref02_CheckMatrix k m = some (maE m) := by
  have main : ∀ g, nspeculumref02_CheckMatrix_l0_0 k m (g + 5) 0 = some (if maE m = 0 then .inr () else .inl (maE m)) := by
    intro g
    unfold maE
    rw [nspeculumref02_CheckMatrix_l0_0.eq_2, if_pos (by decide), if_pos rfl, checkFrac_ref k hk h.a, Option.bind_some]
    by_cases c1 : ckE m.A = 0
    · rw [if_pos c1, show w64 (0 + 1) = 1 from by decide, nspeculumref02_CheckMatrix_l0_0.eq_2, if_pos (by decide), if_neg (by decide), if_pos rfl, checkFrac_ref k hk h.b, Option.bind_some]
      by_cases c2 : ckE m.B = 0
      · rw [if_pos c2, show w64 (1 + 1) = 2 from by decide, nspeculumref02_CheckMatrix_l0_0.eq_2, if_pos (by decide), if_neg (by decide), if_neg (by decide), if_pos rfl, checkFrac_ref k hk h.c, Option.bind_some]
        by_cases c3 : ckE m.C = 0
        · rw [if_pos c3, show w64 (2 + 1) = 3 from by decide, nspeculumref02_CheckMatrix_l0_0.eq_2, if_pos (by decide), if_neg (by decide), if_neg (by decide), if_neg (by decide), if_pos rfl, checkFrac_ref k hk h.d, Option.bind_some]
          by_cases c4 : ckE m.D = 0
          · rw [if_pos c4, show w64 (3 + 1) = 4 from by decide, nspeculumref02_CheckMatrix_l0_0.eq_2, if_neg (by decide)]
            simp only [fcE, c1, c2, c3, c4, if_true]
          · rw [if_neg c4]; simp only [fcE, c1, c2, c3, c4, if_true, if_false]
        · rw [if_neg c3]; simp only [fcE, c1, c2, c3, if_true, if_false]
      · rw [if_neg c2]; simp only [fcE, c1, c2, if_true, if_false]
    · rw [if_neg c1]; simp only [fcE, c1, if_false]
  obtain ⟨g, hg⟩ : ∃ g, k = g + 5 := ⟨k - 5, by omega⟩
  have := main g
  rw [← hg] at this
  unfold nspeculumref02_CheckMatrix
  rw [this, Option.bind_some]
  by_cases c : maE m = 0
  · rw [if_pos c, c]
  · rw [if_neg c]
structure SM (m : SMatrix) : Prop where
  a : Sm m.A
  b : Sm m.B
  c : Sm m.C
  d : Sm m.D
theorem fcE_cons {f : SFrac} {l : List SFrac} (h : fcE (f :: l) = 0) : ckE f = 0 ∧ fcE l = 0 := by
  simp only [fcE] at h
  split at h
  · exact ⟨by assumption, h⟩
  · exact absurd h (by assumption)
theorem SM.of {m : SMatrix} (h : maE m = 0) : SM m := by
  obtain ⟨h1, h⟩ := fcE_cons h
  obtain ⟨h2, h⟩ := fcE_cons h
  obtain ⟨h3, h⟩ := fcE_cons h
  obtain ⟨h4, _⟩ := fcE_cons h
  exact ⟨Sm.of ((ckE_sm _).1 h1), Sm.of ((ckE_sm _).1 h2), Sm.of ((ckE_sm _).1 h3), Sm.of ((ckE_sm _).1 h4)⟩
theorem det_both (k : Nat) (hk : 100000000000000000000 ≤ k) {m : SMatrix} (hm : IM m) (h : maE m = 0) : ∃ r, noptics_Determinant k m = some r ∧ nspeculumref02_Determinant k m = some r := by
  have S := SM.of h
  obtain ⟨v1, w1, q1, e1, f1, S1⟩ := mul_step k hk (q := ⟨false⟩) (a' := m.A) (b' := m.D) (fun _ => rfl) (fun _ => rfl) S.a S.d
  obtain ⟨v2, w2, q2, e2, f2, S2⟩ := mul_step k hk (q := q1) (a' := m.B) (b' := m.C) (fun _ => rfl) (fun _ => rfl) S.b S.c
  obtain ⟨v3, w3, q3, e3, f3, S3⟩ := sub_step k hk (q := q2) (fun h => S1.same (S2.keep h)) (fun h => S2.same h) S1.sm S2.sm
  unfold noptics_Determinant nspeculumref02_Determinant nspeculumref02_fraction noptics_beside_api_Frac_
  rw [matrix_opt k hk hm, Option.bind_some, if_pos h, show (⟨0⟩ : Sway) = fl ⟨false⟩ from rfl, e1, Option.bind_some, e2, Option.bind_some, e3, Option.bind_some, f1, Option.bind_some, f2, Option.bind_some, f3, Option.bind_some]
  dsimp only
  rw [first_one k hk, Option.bind_some, fl_failed]
  cases hq : q3.Large with
  | true => exact ⟨_, rfl, rfl⟩
  | false => rw [S3.same hq]; exact ⟨_, rfl, rfl⟩
theorem join_both (k : Nat) (hk : 100000000000000000000 ≤ k) {m n : SMatrix} (hm : IM m) (hn : IM n) (h1 : maE m = 0) (h2 : maE n = 0) : ∃ r, noptics_Join k m n = some r ∧ nspeculumref02_Join k m n = some r := by
  have S := SM.of h1
  have T := SM.of h2
  obtain ⟨a, _, _, _, _, a', q1, e1, f1, f2, f3, k1, s1, m1, _⟩ := prod_step k hk (q := ⟨false⟩) (a' := n.A) (b' := m.A) (c' := n.B) (d' := m.C) (fun _ => rfl) (fun _ => rfl) (fun _ => rfl) (fun _ => rfl) T.a S.a T.b S.c
  obtain ⟨b, _, _, _, _, b', q2, e2, f4, f5, f6, k2, s2, m2, _⟩ := prod_step k hk (q := q1) (a' := n.A) (b' := m.B) (c' := n.B) (d' := m.D) (fun _ => rfl) (fun _ => rfl) (fun _ => rfl) (fun _ => rfl) T.a S.b T.b S.d
  obtain ⟨c, _, _, _, _, c', q3, e3, f7, f8, f9, k3, s3, m3, _⟩ := prod_step k hk (q := q2) (a' := n.C) (b' := m.A) (c' := n.D) (d' := m.C) (fun _ => rfl) (fun _ => rfl) (fun _ => rfl) (fun _ => rfl) T.c S.a T.d S.c
  obtain ⟨d, _, _, _, _, d', q4, e4, g1, g2, g3, k4, s4, m4, _⟩ := prod_step k hk (q := q3) (a' := n.C) (b' := m.B) (c' := n.D) (d' := m.D) (fun _ => rfl) (fun _ => rfl) (fun _ => rfl) (fun _ => rfl) T.c S.b T.d S.d
  unfold noptics_Join nspeculumref02_Join noptics_beside_api_Matrix_
  rw [matrix_opt k hk hm, Option.bind_some, matrix_opt k hk hn, Option.bind_some, first_two k hk, Option.bind_some, if_pos h1, if_pos h2, show (⟨0⟩ : Sway) = fl ⟨false⟩ from rfl, e1, Option.bind_some, e2, Option.bind_some, e3, Option.bind_some, e4, Option.bind_some, f1, Option.bind_some, f2, Option.bind_some, f3, Option.bind_some, f4, Option.bind_some, f5, Option.bind_some, f6, Option.bind_some, f7, Option.bind_some, f8, Option.bind_some, f9, Option.bind_some, g1, Option.bind_some, g2, Option.bind_some, g3, Option.bind_some]
  dsimp only
  rw [first_one k hk, Option.bind_some, fl_failed]
  cases hq : q4.Large with
  | true => exact ⟨_, rfl, rfl⟩
  | false =>
    have h3 := k4 hq; have h2 := k3 h3; have h1 := k2 h2
    rw [s1 h1, s2 h2, s3 h3, s4 hq]; exact ⟨_, rfl, rfl⟩
theorem law_joins (m n : SMatrix) (hm : IM m) (hn : IM n) : nspeculumlaw02_OpticsJoins big m n = some true := by
  unfold nspeculumlaw02_OpticsJoins
  rw [awake_big, Option.bind_some, if_pos rfl, matrix_ref _ (by decide) hm]
  by_cases h1 : maE m = 0
  · obtain ⟨r, r1, r2⟩ := det_both big (by decide) hm h1
    by_cases h2 : maE n = 0
    · obtain ⟨s, s1, s2⟩ := join_both big (by decide) hm hn h1 h2
      rw [s1, Option.bind_some, r1, Option.bind_some, Option.bind_some, if_pos h1, r2, Option.bind_some, if_pos rfl, if_pos (by simp), matrix_ref _ (by decide) hn, Option.bind_some, if_pos h2, s2, Option.bind_some, if_pos rfl]
      simp
    · have hj : noptics_Join big m n = some (⟨⟨0, 0⟩, ⟨0, 0⟩, ⟨0, 0⟩, ⟨0, 0⟩⟩, maE n) := by
        unfold noptics_Join
        rw [matrix_opt _ (by decide) hm, Option.bind_some, matrix_opt _ (by decide) hn, Option.bind_some, first_two _ (by decide), Option.bind_some, if_pos h1, if_neg h2]
      rw [hj, Option.bind_some, r1, Option.bind_some, Option.bind_some, if_pos h1, r2, Option.bind_some, if_pos rfl, if_pos (by simp), matrix_ref _ (by decide) hn, Option.bind_some, if_neg h2, if_pos rfl]
      simp
  · have hj : noptics_Join big m n = some (⟨⟨0, 0⟩, ⟨0, 0⟩, ⟨0, 0⟩, ⟨0, 0⟩⟩, maE m) := by
      unfold noptics_Join
      rw [matrix_opt _ (by decide) hm, Option.bind_some, matrix_opt _ (by decide) hn, Option.bind_some, first_two _ (by decide), Option.bind_some, if_neg h1, if_neg h1]
    have hd : noptics_Determinant big m = some (⟨0, 0⟩, maE m) := by
      unfold noptics_Determinant
      rw [matrix_opt _ (by decide) hm, Option.bind_some, if_neg h1]
    rw [hj, Option.bind_some, hd, Option.bind_some, Option.bind_some, if_neg h1, if_pos rfl, if_pos rfl, if_pos (by simp)]
    simp
theorem vc_joins (m n : SMatrix) (hm : ((Vv.In64 m.A.Num) ∧ (Vv.In64 m.A.Den)) ∧ ((Vv.In64 m.B.Num) ∧ (Vv.In64 m.B.Den)) ∧ ((Vv.In64 m.C.Num) ∧ (Vv.In64 m.C.Den)) ∧ ((Vv.In64 m.D.Num) ∧ (Vv.In64 m.D.Den))) (hn : ((Vv.In64 n.A.Num) ∧ (Vv.In64 n.A.Den)) ∧ ((Vv.In64 n.B.Num) ∧ (Vv.In64 n.B.Den)) ∧ ((Vv.In64 n.C.Num) ∧ (Vv.In64 n.C.Den)) ∧ ((Vv.In64 n.D.Num) ∧ (Vv.In64 n.D.Den))) : VC Go.Proofs.Try.prog 4 [VV.ag (c_SMatrix m), VV.ag (c_SMatrix n)] (vb true) := nspeculumlaw02_OpticsJoins_ok _ _ _ _ (law_joins m n ⟨⟨hm.1.1, hm.1.2⟩, ⟨hm.2.1.1, hm.2.1.2⟩, ⟨hm.2.2.1.1, hm.2.2.1.2⟩, ⟨hm.2.2.2.1, hm.2.2.2.2⟩⟩ ⟨⟨hn.1.1, hn.1.2⟩, ⟨hn.2.1.1, hn.2.1.2⟩, ⟨hn.2.2.1.1, hn.2.2.1.2⟩, ⟨hn.2.2.2.1, hn.2.2.2.2⟩⟩)
end Go.Proofs.Ytkffimkedibmnaa.Vg

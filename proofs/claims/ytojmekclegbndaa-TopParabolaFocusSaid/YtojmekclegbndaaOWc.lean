/- Chapter 2, plain: what the laws of fractions share. -/
import Derived.Test.YtojmekclegbndaaOWb
set_option linter.unusedVariables false
set_option linter.unusedSimpArgs false
namespace Go.Proofs.Ytojmekclegbndaa.Vg
open Go Go.Proofs.Ytojmekclegbndaa.Ev Go.Proofs.Ytojmekclegbndaa.Vv
theorem low_self (k : Nat) (hk : 100000000000000000000 ≤ k) {f : SFrac} (h : Sm f) : nspeculumbase_Lowest k f.Num f.Den = some f := by
  have h1 := h.n0; have h2 := h.n1; have h3 := h.d0; have h4 := h.d1
  obtain ⟨g, _, e, _, g1, g2, g3, g4, g5⟩ := low_any k hk (n := f.Num) (d := f.Den) (by omega) (by omega) (by omega)
  have sg : Sm g := Sm.of (by unfold smB; rw [g3, inR_t.2 ⟨by omega, by omega⟩, decide_eq_true (by omega)]; rfl)
  rw [e, val_inj sg h]
  have c2 := cast_ne (x := g.Den) (by omega)
  have c3 := cast_ne (x := f.Den) (by omega)
  have c4 : (g.Num : Rat) * f.Den = f.Num * g.Den := by exact_mod_cast g2
  unfold val; grind
theorem sm_zero {f : SFrac} (h : Sm f) (h0 : f.Num = 0) : f = ⟨0, 1⟩ := by
  have g := h.g; have := h.d0
  unfold gcF at g
  rw [h0] at g
  have : f.Den = 1 := by
    have e : Nat.gcd 0 f.Den.natAbs = f.Den.natAbs := Nat.gcd_zero_left _
    have e2 : Nat.gcd (0 : Int).natAbs f.Den.natAbs = Nat.gcd 0 f.Den.natAbs := rfl
    omega
  cases f; simp at h0 this; rw [h0, this]
theorem fcE_cons {f : SFrac} {l : List SFrac} (h : fcE (f :: l) = 0) : ckE f = 0 ∧ fcE l = 0 := by
  simp only [fcE] at h
  split at h
  · exact ⟨by assumption, h⟩
  · exact absurd h (by assumption)
theorem mul_swap (k : Nat) (q : SWay) (a b : SFrac) : n_speculumref02_Way_Mul k q a b = n_speculumref02_Way_Mul k q b a := by
  unfold n_speculumref02_Way_Mul
  rw [Int.mul_comm a.Num, Int.mul_comm a.Den]
def st (s : Bool) (q : SWay) : SWay := if s = true then q else ⟨true⟩
theorem fit_at {k : Nat} {q q' : SWay} {n d : Int} {w : SFrac} (h : n_speculumref02_Way_fit k q n d = some (w, q')) : ∃ s, q' = st s q ∧ ∀ p, n_speculumref02_Way_fit k p n d = some (w, st s p) := by
  unfold n_speculumref02_Way_fit at h ⊢
  cases e : nspeculumbase_Lowest k n d with
  | none => rw [e] at h; cases h
  | some f =>
    rw [e, Option.bind_some] at h
    cases e2 : nspeculumbase_IsSmall k f with
    | none => rw [e2] at h; cases h
    | some b =>
      rw [e2, Option.bind_some] at h
      cases b with
      | true => rw [if_pos rfl] at h; cases h; exact ⟨true, rfl, fun p => by rw [Option.bind_some, e2, Option.bind_some]; rfl⟩
      | false => rw [if_neg (by decide)] at h; cases h; exact ⟨false, rfl, fun p => by rw [Option.bind_some, e2, Option.bind_some]; rfl⟩
theorem mul_at {k : Nat} {q q' : SWay} {a b w : SFrac} (h : n_speculumref02_Way_Mul k q a b = some (w, q')) : ∃ s, q' = st s q ∧ ∀ p, n_speculumref02_Way_Mul k p a b = some (w, st s p) := by
  unfold n_speculumref02_Way_Mul at h ⊢
  cases e : n_speculumref02_Way_fit k q (w64 (a.Num * b.Num)) (w64 (a.Den * b.Den)) with
  | none => rw [e] at h; cases h
  | some x =>
    rw [e, Option.bind_some] at h
    cases h
    obtain ⟨s, s1, s2⟩ := fit_at e
    exact ⟨s, s1, fun p => by rw [s2]; rfl⟩
theorem add_at {k : Nat} {q q' : SWay} {a b w : SFrac} (h : n_speculumref02_Way_Add k q a b = some (w, q')) : ∃ s, q' = st s q ∧ ∀ p, n_speculumref02_Way_Add k p a b = some (w, st s p) := by
  unfold n_speculumref02_Way_Add at h ⊢
  cases e : n_speculumref02_Way_fit k q (w64 ((w64 (a.Num * b.Den)) + (w64 (b.Num * a.Den)))) (w64 (a.Den * b.Den)) with
  | none => rw [e] at h; cases h
  | some x =>
    rw [e, Option.bind_some] at h
    cases h
    obtain ⟨s, s1, s2⟩ := fit_at e
    exact ⟨s, s1, fun p => by rw [s2]; rfl⟩
theorem sub_at {k : Nat} {q q' : SWay} {a b w : SFrac} (h : n_speculumref02_Way_Sub k q a b = some (w, q')) : ∃ s, q' = st s q ∧ ∀ p, n_speculumref02_Way_Sub k p a b = some (w, st s p) := by
  unfold n_speculumref02_Way_Sub at h ⊢
  cases e : n_speculumref02_Way_fit k q (w64 ((w64 (a.Num * b.Den)) - (w64 (b.Num * a.Den)))) (w64 (a.Den * b.Den)) with
  | none => rw [e] at h; cases h
  | some x =>
    rw [e, Option.bind_some] at h
    cases h
    obtain ⟨s, s1, s2⟩ := fit_at e
    exact ⟨s, s1, fun p => by rw [s2]; rfl⟩
theorem quo_at {k : Nat} {q q' : SWay} {a b w : SFrac} (h : n_speculumref02_Way_Quo k q a b = some (w, q')) : ∃ s, q' = st s q ∧ ∀ p, n_speculumref02_Way_Quo k p a b = some (w, st s p) := by
  unfold n_speculumref02_Way_Quo at h ⊢
  by_cases c : b.Num = 0
  · rw [if_pos c] at h; cases h
    exact ⟨false, rfl, fun p => by rw [if_pos c]; rfl⟩
  · rw [if_neg c] at h
    cases e : n_speculumref02_Way_fit k q (w64 (a.Num * b.Den)) (w64 (a.Den * b.Num)) with
    | none => rw [e] at h; cases h
    | some x =>
      rw [e, Option.bind_some] at h
      cases h
      obtain ⟨s, s1, s2⟩ := fit_at e
      exact ⟨s, s1, fun p => by rw [if_neg c, s2]; rfl⟩
theorem st_swap (s1 s2 : Bool) (q : SWay) : st s1 (st s2 q) = st s2 (st s1 q) := by
  unfold st; cases s1 <;> cases s2 <;> rfl
theorem sqnn (x : Int) : 0 ≤ x * x := by
  rcases Int.le_total 0 x with h | h
  · exact Int.mul_nonneg h h
  · have := Int.mul_nonneg (show 0 ≤ -x by omega) (show 0 ≤ -x by omega)
    rwa [Int.neg_mul_neg] at this
/-- a division by zero on the way. -/
theorem over_zero (k : Nat) (hk : 100000000000000000000 ≤ k) {a b : SFrac} (ha : Sm a) (hb : Sm b) (h : b.Num = 0) : n_optics_way_over k ⟨0⟩ a b = some (⟨0, 0⟩, ⟨11⟩) := by
  unfold n_optics_way_over n_optics_way_step_c1_number_Quo nnumber_Quo
  rw [if_pos rfl, ck_pair k hk ha hb, Option.bind_some, if_pos rfl, if_pos h]; rfl
theorem times_failed (k : Nat) (e : Int) (he : e ≠ 0) (a b : SFrac) : n_optics_way_times k ⟨e⟩ a b = some (⟨0, 0⟩, ⟨e⟩) := by
  unfold n_optics_way_times n_optics_way_step_c1_number_Mul; rw [if_neg he]; rfl
theorem plus_failed (k : Nat) (e : Int) (he : e ≠ 0) (a b : SFrac) : n_optics_way_plus k ⟨e⟩ a b = some (⟨0, 0⟩, ⟨e⟩) := by
  unfold n_optics_way_plus n_optics_way_step_c1_number_Add; rw [if_neg he]; rfl
theorem minus_failed (k : Nat) (e : Int) (he : e ≠ 0) (a b : SFrac) : n_optics_way_minus k ⟨e⟩ a b = some (⟨0, 0⟩, ⟨e⟩) := by
  unfold n_optics_way_minus n_optics_way_step_c1_number_Sub; rw [if_neg he]; rfl
theorem over_failed (k : Nat) (e : Int) (he : e ≠ 0) (a b : SFrac) : n_optics_way_over k ⟨e⟩ a b = some (⟨0, 0⟩, ⟨e⟩) := by
  unfold n_optics_way_over n_optics_way_step_c1_number_Quo; rw [if_neg he]; rfl
end Go.Proofs.Ytojmekclegbndaa.Vg

/- Law of fits: the fit of one or two terms to heights, and which fits are accepted. -/
import Derived.Test.YtbgdjjnkgjjffaaM3
set_option linter.unusedVariables false
set_option linter.unusedSimpArgs false
namespace Go.Proofs.Ytbgdjjnkgjjffaa.Vg
open Go Go.Proofs.Ytbgdjjnkgjjffaa.Ev Go.Proofs.Ytbgdjjnkgjjffaa.Vv

theorem w64_id {n : Int} (h1 : -9223372036854775808 ≤ n) (h2 : n ≤ 9223372036854775807) : w64 n = n := by
  unfold w64 IntKind.wrap
  simp [IntKind.signed, IntKind.bits]
  omega
theorem w64_succ {i : Nat} (h : i < 1000000000000) : w64 ((i : Int) + 1) = ((i + 1 : Nat) : Int) := by
  rw [w64_id (by omega) (by omega)]; omega
theorem drop_get {α : Type} {y : List α} {i : Nat} (h : i < y.length) (d : α) : y.drop i = y.getD i d :: y.drop (i + 1) := by
  rw [List.drop_eq_getElem_cons h, List.getD_eq_getElem?_getD, List.getElem?_eq_getElem h]; rfl
theorem take_set {α : Type} {y : List α} {i : Nat} (h : i < y.length) (v : α) : (y.set i v).take (i + 1) = y.take i ++ [v] := by
  apply List.ext_getElem
  · simp; omega
  · intro j h1 h2
    simp only [List.getElem_take, List.getElem_set, List.getElem_append, List.length_take]
    simp at h1 h2
    by_cases hj : i = j
    · subst hj; rw [if_pos rfl, dif_neg (by omega)]; simp
    · rw [if_neg hj, dif_pos (by omega)]
theorem get_set (y : List Int) (i : Nat) (h : i < y.length) (v : Int) : (y.set i v).getD i 0 = v := by
  rw [List.getD_eq_getElem?_getD, List.getElem?_set_self h]; rfl
def sumB (b : Bool) : Sum Unit Unit := match b with | true => .inr () | false => .inl ()
def inB (M n : Int) : Bool := decide (-M ≤ n ∧ n ≤ M)
theorem within_prof (k : Nat) (a b c : Int) : nprofile_isWithin k a b c = some (decide (b ≤ a ∧ a ≤ c)) := by
  unfold nprofile_isWithin
  by_cases h : b ≤ a
  · rw [if_pos h]; simp [h]
  · rw [if_neg h]; simp [h]
theorem within_base (k : Nat) (a b c : Int) : nspeculumbase_Within k a b c = some (decide (b ≤ a ∧ a ≤ c)) := by
  unfold nspeculumbase_Within
  by_cases h : b ≤ a
  · rw [if_pos h]; simp [h]
  · rw [if_neg h]; simp [h]
theorem small_l (k : Nat) (M : Int) (hM : 0 ≤ M ∧ M ≤ 10000000000000) (a : List Int) (hl : a.length < 1000000) : ∀ (d fuel i : Nat), a.length = i + d → d < fuel →
    nprofile_areSmall_l0_0 k M a fuel (i : Int) = some (sumB ((a.drop i).all (inB M))) := by
  intro d
  induction d with
  | zero =>
    intro fuel i h hf
    obtain ⟨g, rfl⟩ : ∃ g, fuel = g + 1 := ⟨fuel - 1, by omega⟩
    rw [nprofile_areSmall_l0_0.eq_2, if_neg (by omega), List.drop_eq_nil_of_le (by omega)]; rfl
  | succ d ih =>
    intro fuel i h hf
    obtain ⟨g, rfl⟩ : ∃ g, fuel = g + 1 := ⟨fuel - 1, by omega⟩
    rw [nprofile_areSmall_l0_0.eq_2, if_pos (by omega), if_pos (by omega), within_prof, Option.bind_some, w64_succ (by omega), ih g (i + 1) (by omega) (by omega), drop_get (y := a) (i := i) (by omega) 0, w64_id (by omega) (by omega), Int.zero_sub]
    simp only [Int.toNat_natCast, List.all_cons]
    change (if inB M _ = true then _ else _) = _
    cases inB M (a.getD i 0) <;> rfl
theorem small_any (k : Nat) (M : Int) (hM : 0 ≤ M ∧ M ≤ 10000000000000) (a : List Int) (hl : a.length < 1000000) (hk : 1000000 ≤ k) : nprofile_areSmall k M a = some (a.all (inB M)) := by
  unfold nprofile_areSmall
  rw [show ((0 : Int)) = ((0 : Nat) : Int) from rfl, small_l k M hM a hl a.length k 0 (by omega) (by omega)]
  simp only [List.drop_zero]
  cases a.all (inB M) <;> rfl
def hasLen (n : Nat) (r : List Int) : Bool := decide (r.length = n)
def fE (t : List (List Int)) (h : List Int) : Int :=
  if 1 ≤ h.length ∧ h.length ≤ 20 then (if 1 ≤ t.length ∧ t.length ≤ 2 then
    (match t.all (hasLen h.length) with | false => 10 | true => (match t.all (fun r => r.all (inB 100)) with | false => 2 | true => (match h.all (inB 5000) with | false => 2 | true => 0))) else 10) else 10
theorem lens_p (k : Nat) (t : List (List Int)) (h : List Int) (hl : t.length < 1000000) : ∀ (d fuel i : Nat), t.length = i + d → d < fuel →
    nprofile_checkFitted_l0_0 k t h fuel (i : Int) = some (sumB ((t.drop i).all (hasLen h.length))) := by
  intro d
  induction d with
  | zero =>
    intro fuel i h hf
    obtain ⟨g, rfl⟩ : ∃ g, fuel = g + 1 := ⟨fuel - 1, by omega⟩
    rw [nprofile_checkFitted_l0_0.eq_2, if_neg (by omega), List.drop_eq_nil_of_le (by omega)]; rfl
  | succ d ih =>
    intro fuel i h1 hf
    obtain ⟨g, rfl⟩ : ∃ g, fuel = g + 1 := ⟨fuel - 1, by omega⟩
    rw [nprofile_checkFitted_l0_0.eq_2, if_pos (by omega), if_pos (by omega), w64_succ (by omega), ih g (i + 1) (by omega) (by omega), drop_get (y := t) (i := i) (by omega) default]
    simp only [Int.toNat_natCast, List.all_cons]
    by_cases hx : (t.getD i default).length = h.length
    · rw [if_pos (by omega), show hasLen h.length (t.getD i default) = true from decide_eq_true hx]; rfl
    · rw [if_neg (by omega), show hasLen h.length (t.getD i default) = false from decide_eq_false hx]; rfl
theorem rows_p (k : Nat) (t : List (List Int)) (h : List Int) (hl : t.length < 1000000) (hk : 1000000 ≤ k) (ht : ∀ i, i < t.length → (t.getD i default).length < 1000000) : ∀ (d fuel i : Nat), t.length = i + d → d < fuel →
    nprofile_checkFitted_l1_0 k t h fuel (i : Int) = some (sumB ((t.drop i).all (fun r => r.all (inB 100)))) := by
  intro d
  induction d with
  | zero =>
    intro fuel i h hf
    obtain ⟨g, rfl⟩ : ∃ g, fuel = g + 1 := ⟨fuel - 1, by omega⟩
    rw [nprofile_checkFitted_l1_0.eq_2, if_neg (by omega), List.drop_eq_nil_of_le (by omega)]; rfl
  | succ d ih =>
    intro fuel i h1 hf
    obtain ⟨g, rfl⟩ : ∃ g, fuel = g + 1 := ⟨fuel - 1, by omega⟩
    rw [nprofile_checkFitted_l1_0.eq_2, if_pos (by omega), if_pos (by omega), Int.toNat_natCast, small_any k 100 (by omega) _ (ht i (by omega)) hk, Option.bind_some, w64_succ (by omega), ih g (i + 1) (by omega) (by omega), drop_get (y := t) (i := i) (by omega) default, List.all_cons]
    cases (t.getD i default).all (inB 100) <;> rfl
theorem all_len {n : Nat} {t : List (List Int)} (h : t.all (hasLen n) = true) (i : Nat) (hi : i < t.length) : (t.getD i default).length = n := by
  rw [List.all_eq_true] at h
  have := h (t.getD i default) (by rw [List.getD_eq_getElem?_getD, List.getElem?_eq_getElem hi]; exact List.getElem_mem hi)
  exact of_decide_eq_true this
theorem fitted_any (k : Nat) (t : List (List Int)) (h : List Int) (hl : t.length ≤ 3) (hk : 1000000 ≤ k) : nprofile_checkFitted k t h = some (fE t h) := by
  unfold nprofile_checkFitted fE
  rw [within_prof, within_prof]
  by_cases h1 : 1 ≤ h.length ∧ h.length ≤ 20
  · rw [if_pos h1, Option.bind_some, if_pos (by simp; omega)]
    by_cases h2 : 1 ≤ t.length ∧ t.length ≤ 2
    · rw [if_pos h2, Option.bind_some, if_pos (by simp; omega), show ((0 : Int)) = ((0 : Nat) : Int) from rfl, lens_p k t h (by omega) t.length k 0 (by omega) (by omega), Option.bind_some, List.drop_zero]
      cases hx : t.all (hasLen h.length) with
      | false => rfl
      | true =>
        simp only [sumB]
        rw [rows_p k t h (by omega) hk (fun i hi => by rw [all_len hx i hi]; omega) t.length k 0 (by omega) (by omega), Option.bind_some, List.drop_zero]
        cases t.all (fun r => r.all (inB 100)) with
        | false => rfl
        | true =>
          simp only [sumB]
          rw [small_any k 5000 (by omega) h (by omega) hk, Option.bind_some]
          cases h.all (inB 5000) <;> rfl
    · rw [if_neg h2, Option.bind_some, if_neg (by simp; omega)]
  · rw [if_neg h1, Option.bind_some, if_neg (by simp; omega)]
theorem lens_r (k : Nat) (t : List (List Int)) (h : List Int) (hl : t.length < 1000000) : ∀ (d fuel i : Nat), t.length = i + d → d < fuel →
    nspeculumref05_FitErr_l0_0 k t h fuel (i : Int) = some (sumB ((t.drop i).all (hasLen h.length))) := by
  intro d
  induction d with
  | zero =>
    intro fuel i h hf
    obtain ⟨g, rfl⟩ : ∃ g, fuel = g + 1 := ⟨fuel - 1, by omega⟩
    rw [nspeculumref05_FitErr_l0_0.eq_2, if_neg (by omega), List.drop_eq_nil_of_le (by omega)]; rfl
  | succ d ih =>
    intro fuel i h1 hf
    obtain ⟨g, rfl⟩ : ∃ g, fuel = g + 1 := ⟨fuel - 1, by omega⟩
    rw [nspeculumref05_FitErr_l0_0.eq_2, if_pos (by omega), if_pos (by omega), w64_succ (by omega), ih g (i + 1) (by omega) (by omega), drop_get (y := t) (i := i) (by omega) default]
    simp only [Int.toNat_natCast, List.all_cons]
    by_cases hx : (t.getD i default).length = h.length
    · rw [if_pos (by omega), show hasLen h.length (t.getD i default) = true from decide_eq_true hx]; rfl
    · rw [if_neg (by omega), show hasLen h.length (t.getD i default) = false from decide_eq_false hx]; rfl
theorem row_r (k : Nat) (t : List (List Int)) (h : List Int) (j : Nat) (hj : j < t.length) (hx : (t.getD j default).length = h.length) (hl : h.length < 1000000) : ∀ (d fuel i : Nat), h.length = i + d → d < fuel →
    nspeculumref05_FitErr_l2_0 k t h (j : Int) fuel (i : Int) = some (sumB (((t.getD j default).drop i).all (inB 100))) := by
  intro d
  induction d with
  | zero =>
    intro fuel i h hf
    obtain ⟨g, rfl⟩ : ∃ g, fuel = g + 1 := ⟨fuel - 1, by omega⟩
    rw [nspeculumref05_FitErr_l2_0.eq_2, if_neg (by omega), List.drop_eq_nil_of_le (by omega)]; rfl
  | succ d ih =>
    intro fuel i h1 hf
    obtain ⟨g, rfl⟩ : ∃ g, fuel = g + 1 := ⟨fuel - 1, by omega⟩
    rw [nspeculumref05_FitErr_l2_0.eq_2, if_pos (by omega), if_pos (by omega), Int.toNat_natCast, if_pos (by omega), within_base, Option.bind_some, w64_succ (by omega), ih g (i + 1) (by omega) (by omega), drop_get (y := t.getD j default) (i := i) (by omega) 0, List.all_cons, Int.toNat_natCast]
    change (if inB 100 _ = true then _ else _) = _
    cases inB 100 ((t.getD j default).getD i 0) <;> rfl
theorem rows_r (k : Nat) (t : List (List Int)) (h : List Int) (hl : t.length < 1000000) (hl2 : h.length < 1000000) (hk : 1000000 ≤ k) (ht : ∀ i, i < t.length → (t.getD i default).length = h.length) : ∀ (d fuel i : Nat), t.length = i + d → d < fuel →
    nspeculumref05_FitErr_l1_0 k t h fuel (i : Int) = some (sumB ((t.drop i).all (fun r => r.all (inB 100)))) := by
  intro d
  induction d with
  | zero =>
    intro fuel i h hf
    obtain ⟨g, rfl⟩ : ∃ g, fuel = g + 1 := ⟨fuel - 1, by omega⟩
    rw [nspeculumref05_FitErr_l1_0.eq_2, if_neg (by omega), List.drop_eq_nil_of_le (by omega)]; rfl
  | succ d ih =>
    intro fuel i h1 hf
    obtain ⟨g, rfl⟩ : ∃ g, fuel = g + 1 := ⟨fuel - 1, by omega⟩
    have hr := row_r k t h i (by omega) (ht i (by omega)) hl2 h.length k 0 (by omega) (by omega)
    rw [List.drop_zero] at hr
    rw [nspeculumref05_FitErr_l1_0.eq_2, if_pos (by omega), show ((0 : Int)) = ((0 : Nat) : Int) from rfl, hr, Option.bind_some, w64_succ (by omega), ih g (i + 1) (by omega) (by omega), drop_get (y := t) (i := i) (by omega) default, List.all_cons]
    cases (t.getD i default).all (inB 100) <;> rfl
theorem hs_r (k : Nat) (h : List Int) (hl : h.length < 1000000) : ∀ (d fuel i : Nat), h.length = i + d → d < fuel →
    nspeculumref05_FitErr_l3_0 k h fuel (i : Int) = some (sumB ((h.drop i).all (inB 5000))) := by
  intro d
  induction d with
  | zero =>
    intro fuel i h hf
    obtain ⟨g, rfl⟩ : ∃ g, fuel = g + 1 := ⟨fuel - 1, by omega⟩
    rw [nspeculumref05_FitErr_l3_0.eq_2, if_neg (by omega), List.drop_eq_nil_of_le (by omega)]; rfl
  | succ d ih =>
    intro fuel i h1 hf
    obtain ⟨g, rfl⟩ : ∃ g, fuel = g + 1 := ⟨fuel - 1, by omega⟩
    rw [nspeculumref05_FitErr_l3_0.eq_2, if_pos (by omega), if_pos (by omega), within_base, Option.bind_some, w64_succ (by omega), ih g (i + 1) (by omega) (by omega), drop_get (y := h) (i := i) (by omega) 0, List.all_cons, Int.toNat_natCast]
    change (if inB 5000 _ = true then _ else _) = _
    cases inB 5000 (h.getD i 0) <;> rfl
theorem fitErr_any (k : Nat) (t : List (List Int)) (h : List Int) (hl : t.length ≤ 3) (hk : 1000000 ≤ k) : nspeculumref05_FitErr k t h = some (fE t h) := by
  unfold nspeculumref05_FitErr fE
  rw [within_base, within_base]
  by_cases h1 : 1 ≤ h.length ∧ h.length ≤ 20
  · rw [if_pos h1, Option.bind_some, if_pos (by simp; omega)]
    by_cases h2 : 1 ≤ t.length ∧ t.length ≤ 2
    · rw [if_pos h2, Option.bind_some, if_pos (by simp; omega), show ((0 : Int)) = ((0 : Nat) : Int) from rfl, lens_r k t h (by omega) t.length k 0 (by omega) (by omega), Option.bind_some, List.drop_zero]
      cases hx : t.all (hasLen h.length) with
      | false => rfl
      | true =>
        simp only [sumB]
        rw [rows_r k t h (by omega) (by omega) hk (fun i hi => all_len hx i hi) t.length k 0 (by omega) (by omega), Option.bind_some, List.drop_zero]
        cases t.all (fun r => r.all (inB 100)) with
        | false => rfl
        | true =>
          simp only [sumB]
          rw [hs_r k h (by omega) h.length k 0 (by omega) (by omega), Option.bind_some, List.drop_zero]
          cases h.all (inB 5000) <;> rfl
    · rw [if_neg h2, Option.bind_some, if_neg (by simp; omega)]
  · rw [if_neg h1, Option.bind_some, if_neg (by simp; omega)]

theorem all_get {M : Int} {a : List Int} (h : a.all (inB M) = true) (i : Nat) (hi : i < a.length) : -M ≤ a.getD i 0 ∧ a.getD i 0 ≤ M := by
  rw [List.all_eq_true] at h
  have := h (a.getD i 0) (by rw [List.getD_eq_getElem?_getD, List.getElem?_eq_getElem hi]; exact List.getElem_mem hi)
  exact of_decide_eq_true this
/-- Rows that fit. -/
structure Row (n : Nat) (M : Int) (a : List Int) : Prop where
  len : a.length = n
  all : ∀ i, i < n → -M ≤ a.getD i 0 ∧ a.getD i 0 ≤ M
theorem fE_zero {t : List (List Int)} {h : List Int} (h0 : fE t h = 0) : 1 ≤ h.length ∧ h.length ≤ 20 ∧ Row h.length 5000 h ∧ ((∃ a, t = [a] ∧ Row h.length 100 a) ∨ ∃ a b, t = [a, b] ∧ Row h.length 100 a ∧ Row h.length 100 b) := by
  unfold fE at h0
  by_cases h1 : 1 ≤ h.length ∧ h.length ≤ 20
  · rw [if_pos h1] at h0
    by_cases h2 : 1 ≤ t.length ∧ t.length ≤ 2
    · rw [if_pos h2] at h0
      cases hx : t.all (hasLen h.length) with
      | false => rw [hx] at h0; simp at h0
      | true =>
        rw [hx] at h0
        cases hy : t.all (fun r => r.all (inB 100)) with
        | false => rw [hy] at h0; simp at h0
        | true =>
          rw [hy] at h0
          cases hz : h.all (inB 5000) with
          | false => rw [hz] at h0; simp at h0
          | true =>
            refine ⟨h1.1, h1.2, ⟨rfl, fun i hi => all_get hz i hi⟩, ?_⟩
            match t, h2, hx, hy with
            | [a], _, hx, hy =>
              simp only [List.all_cons, List.all_nil, Bool.and_true] at hx hy
              have hl : a.length = h.length := of_decide_eq_true hx
              exact .inl ⟨a, rfl, hl, fun i hi => all_get hy i (by omega)⟩
            | [a, b], _, hx, hy =>
              simp only [List.all_cons, List.all_nil, Bool.and_true, Bool.and_eq_true] at hx hy
              have hl : a.length = h.length := of_decide_eq_true hx.1
              have hl2 : b.length = h.length := of_decide_eq_true hx.2
              exact .inr ⟨a, b, rfl, ⟨hl, fun i hi => all_get hy.1 i (by omega)⟩, ⟨hl2, fun i hi => all_get hy.2 i (by omega)⟩⟩
            | [], h2, _, _ => simp at h2
            | _ :: _ :: _ :: _, h2, _, _ => simp at h2
    · rw [if_neg h2] at h0; simp at h0
  · rw [if_neg h1] at h0; simp at h0
theorem mb {x y X Y : Int} (h1 : -X ≤ x ∧ x ≤ X) (h2 : -Y ≤ y ∧ y ≤ Y) : -(X * Y) ≤ x * y ∧ x * y ≤ X * Y := by
  have a1 := Int.mul_nonneg (show 0 ≤ X - x by omega) (show 0 ≤ Y - y by omega)
  have a2 := Int.mul_nonneg (show 0 ≤ X - x by omega) (show 0 ≤ Y + y by omega)
  have a3 := Int.mul_nonneg (show 0 ≤ X + x by omega) (show 0 ≤ Y - y by omega)
  have a4 := Int.mul_nonneg (show 0 ≤ X + x by omega) (show 0 ≤ Y + y by omega)
  constructor <;> grind

def dotL : List Int → List Int → Int
  | x :: xs, y :: ys => x * y + dotL xs ys
  | _, _ => 0
theorem dot_drop {a b : List Int} {i : Nat} (h1 : i < a.length) (h2 : i < b.length) : dotL (a.drop i) (b.drop i) = a.getD i 0 * b.getD i 0 + dotL (a.drop (i + 1)) (b.drop (i + 1)) := by
  rw [drop_get h1 0, drop_get h2 0]; rfl
/-- Products of two rows are at most C in size. -/
structure Pr (n : Nat) (C : Int) (a b : List Int) : Prop where
  l1 : a.length = n
  l2 : b.length = n
  all : ∀ i, i < n → -C ≤ a.getD i 0 * b.getD i 0 ∧ a.getD i 0 * b.getD i 0 ≤ C
theorem Row.pr {n : Nat} {A B : Int} {a b : List Int} (ha : Row n A a) (hb : Row n B b) : Pr n (A * B) a b := ⟨ha.len, hb.len, fun i hi => mb (ha.all i hi) (hb.all i hi)⟩
theorem Pr.dot {n : Nat} {C : Int} {a b : List Int} (hp : Pr n C a b) (hC : 0 ≤ C) : ∀ (d i : Nat), i + d = n → -(d * C) ≤ dotL (a.drop i) (b.drop i) ∧ dotL (a.drop i) (b.drop i) ≤ d * C := by
  have l1 := hp.l1
  have l2 := hp.l2
  intro d
  induction d with
  | zero => intro i h; rw [List.drop_eq_nil_of_le (by omega)]; simp [dotL]
  | succ d ih =>
    intro i h
    rw [dot_drop (by omega) (by omega)]
    have h1 := ih (i + 1) (by omega)
    have h2 := hp.all i (by omega)
    have e : ((d + 1 : Nat) : Int) * C = d * C + C := by rw [Int.natCast_add, Int.add_mul]; simp
    rw [e]; omega
theorem prod_l (k : Nat) {n : Nat} {C : Int} {a b : List Int} (hp : Pr n C a b) (hC : 0 ≤ C) (hn : n ≤ 20) (hC2 : C ≤ 400000000000000000) : ∀ (d fuel i : Nat) (s : Int), i + d = n → d < fuel → -(i * C) ≤ s → s ≤ i * C →
    nprofile_product_l0_0 k a b fuel (i : Int) s = some (s + dotL (a.drop i) (b.drop i)) ∧ nspeculumref05_dot_l0_0 k a b fuel s (i : Int) = some (s + dotL (a.drop i) (b.drop i)) := by
  have l1 := hp.l1
  have l2 := hp.l2
  intro d
  induction d with
  | zero =>
    intro fuel i s h hf _ _
    obtain ⟨g, rfl⟩ : ∃ g, fuel = g + 1 := ⟨fuel - 1, by omega⟩
    rw [nprofile_product_l0_0.eq_2, nspeculumref05_dot_l0_0.eq_2, if_neg (by omega), if_neg (by omega), List.drop_eq_nil_of_le (by omega)]
    simp [dotL]
  | succ d ih =>
    intro fuel i s h hf hs1 hs2
    obtain ⟨g, rfl⟩ : ∃ g, fuel = g + 1 := ⟨fuel - 1, by omega⟩
    have h2 := hp.all i (by omega)
    have e : ((i + 1 : Nat) : Int) * C = i * C + C := by rw [Int.natCast_add, Int.add_mul]; simp
    have e2 : (i : Int) * C ≤ 20 * C := Int.mul_le_mul_of_nonneg_right (by omega) hC
    rw [nprofile_product_l0_0.eq_2, nspeculumref05_dot_l0_0.eq_2, if_pos (by omega), if_pos (by omega), if_pos (by omega), if_pos (by omega), if_pos (by omega), if_pos (by omega), Int.toNat_natCast, w64_id (n := a.getD i 0 * b.getD i 0) (by omega) (by omega), w64_id (n := s + a.getD i 0 * b.getD i 0) (by omega) (by omega), w64_succ (by omega)]
    have := ih g (i + 1) (s + a.getD i 0 * b.getD i 0) (by omega) (by omega) (by omega) (by omega)
    rw [this.1, this.2, dot_drop (a := a) (b := b) (i := i) (by omega) (by omega), Int.add_assoc]
    exact ⟨rfl, rfl⟩
theorem prod_any (k : Nat) {n : Nat} {C : Int} {a b : List Int} (hp : Pr n C a b) (hC : 0 ≤ C) (hn : n ≤ 20) (hC2 : C ≤ 400000000000000000) (hk : 100 ≤ k) : nprofile_product k a b = some (dotL a b) ∧ nspeculumref05_dot k a b = some (dotL a b) := by
  have := prod_l k hp hC hn hC2 n k 0 0 (by omega) (by omega) (by simp) (by simp)
  unfold nprofile_product nspeculumref05_dot
  rw [show ((0 : Nat) : Int) = 0 from rfl, List.drop_zero, List.drop_zero, Int.zero_add] at this
  rw [this.1, this.2]
  exact ⟨rfl, rfl⟩
theorem dot_bd {n : Nat} {C : Int} {a b : List Int} (hp : Pr n C a b) (hC : 0 ≤ C) (hn : n ≤ 20) : -(20 * C) ≤ dotL a b ∧ dotL a b ≤ 20 * C := by
  have h := hp.dot hC n 0 (by omega)
  rw [List.drop_zero, List.drop_zero] at h
  have e2 : (n : Int) * C ≤ 20 * C := Int.mul_le_mul_of_nonneg_right (by omega) hC
  omega
theorem dot_comm : ∀ (a b : List Int), dotL a b = dotL b a
  | [], [] => rfl
  | [], _ :: _ => rfl
  | _ :: _, [] => rfl
  | x :: xs, y :: ys => by rw [dotL, dotL, dot_comm xs ys, Int.mul_comm]

/- Divisors. -/
def gL : Nat → List Int → Nat
  | g, [] => g
  | g, x :: xs => gL (Nat.gcd g x.natAbs) xs
theorem gcd_step (x y : Int) : Nat.gcd y.natAbs (x.tmod y).natAbs = Nat.gcd x.natAbs y.natAbs := by
  rw [Int.natAbs_tmod, Nat.gcd_comm x.natAbs, Nat.gcd_rec y.natAbs x.natAbs, Nat.gcd_comm]
theorem gl (k : Nat) (a : List Int) (z : Int) : ∀ (n fuel : Nat) (x y : Int), y.natAbs < n → n ≤ fuel →
    ∃ r, nprofile_divisor_l1_0 k a z fuel x y = some r ∧ nspeculumbase_Gcd_l0_0 k fuel x y = some r ∧ r.natAbs = Nat.gcd x.natAbs y.natAbs := by
  intro n
  induction n with
  | zero => intro fuel x y h; omega
  | succ n ih =>
    intro fuel x y h hf
    obtain ⟨g, rfl⟩ : ∃ g, fuel = g + 1 := ⟨fuel - 1, by omega⟩
    rw [nprofile_divisor_l1_0.eq_2, nspeculumbase_Gcd_l0_0.eq_2]
    by_cases h0 : y = 0
    · rw [if_pos h0, if_pos h0]
      exact ⟨x, rfl, rfl, by rw [h0]; simp⟩
    · rw [if_neg h0, if_neg h0, if_pos h0, if_pos h0]
      have hy : 0 < y.natAbs := by omega
      obtain ⟨r, e1, e2, e3⟩ := ih g y (x.tmod y) (by rw [Int.natAbs_tmod]; have := Nat.mod_lt x.natAbs hy; omega) (by omega)
      exact ⟨r, e1, e2, by rw [e3, gcd_step]⟩
theorem gcd_le {g B : Nat} {x : Int} (h1 : g ≤ B) (h2 : x.natAbs ≤ B) : Nat.gcd g x.natAbs ≤ B := by
  rcases Nat.eq_zero_or_pos g with h | h
  · rw [h, Nat.gcd_zero_left]; exact h2
  · exact Nat.le_trans (Nat.gcd_le_left _ h) h1
theorem div_l (k : Nat) (a : List Int) (hl : a.length ≤ 10) (hk : 100000000000000 ≤ k) (ha : ∀ i, i < a.length → (a.getD i 0).natAbs ≤ 10000000000000) : ∀ (d fuel i : Nat) (x : Int), a.length = i + d → d < fuel → x.natAbs ≤ 10000000000000 →
    ∃ r, nprofile_divisor_l0_0 k a fuel x (i : Int) = some r ∧ r.natAbs = gL x.natAbs (a.drop i) ∧ r.natAbs ≤ 10000000000000 := by
  intro d
  induction d with
  | zero =>
    intro fuel i x h hf hx
    obtain ⟨g, rfl⟩ : ∃ g, fuel = g + 1 := ⟨fuel - 1, by omega⟩
    rw [nprofile_divisor_l0_0.eq_2, if_neg (by omega), List.drop_eq_nil_of_le (by omega)]
    exact ⟨x, rfl, rfl, hx⟩
  | succ d ih =>
    intro fuel i x h hf hx
    obtain ⟨g, rfl⟩ : ∃ g, fuel = g + 1 := ⟨fuel - 1, by omega⟩
    have hai := ha i (by omega)
    obtain ⟨r, e1, _, e3⟩ := gl k a (i : Int) k k x (a.getD i 0) (by omega) (Nat.le_refl _)
    have hr : r.natAbs ≤ 10000000000000 := by rw [e3]; exact gcd_le hx hai
    obtain ⟨q, f1, f2, f3⟩ := ih g (i + 1) r (by omega) (by omega) hr
    rw [nprofile_divisor_l0_0.eq_2, if_pos (by omega), if_pos (by omega), Int.toNat_natCast, e1, Option.bind_some, w64_succ (by omega), f1, drop_get (y := a) (i := i) (by omega) 0, gL, ← e3]
    exact ⟨q, rfl, f2, f3⟩
theorem maxI_abs (r : Int) (h : r.natAbs ≤ 10000000000000) : maxI r (w64 (0 - r)) = (r.natAbs : Int) := by
  rw [w64_id (by omega) (by omega)]; unfold maxI; split <;> omega
theorem div_any (k : Nat) (a : List Int) (hl : a.length ≤ 10) (hk : 100000000000000 ≤ k) (ha : ∀ i, i < a.length → (a.getD i 0).natAbs ≤ 10000000000000) : nprofile_divisor k a = some (gL 0 a : Int) := by
  obtain ⟨r, e1, e2, e3⟩ := div_l k a hl hk ha a.length k 0 0 (by omega) (by omega) (by simp)
  unfold nprofile_divisor
  rw [show ((0 : Nat) : Int) = 0 from rfl] at e1
  rw [e1, Option.bind_some, maxI_abs r e3, e2]; rfl
theorem gcd_ref (k : Nat) (x y : Int) (hx : x.natAbs ≤ 10000000000000) (hy : y.natAbs ≤ 10000000000000) (hk : 100000000000000 ≤ k) : nspeculumbase_Gcd k x y = some (Nat.gcd x.natAbs y.natAbs : Int) := by
  obtain ⟨r, _, e2, e3⟩ := gl k [] 0 k k x y (by omega) (Nat.le_refl _)
  have hr : r.natAbs ≤ 10000000000000 := by rw [e3]; exact gcd_le hx hy
  unfold nspeculumbase_Gcd nspeculumbase_Abs
  rw [e2, Option.bind_some, ← e3]
  by_cases h : r < 0
  · rw [if_pos h, w64_id (by omega) (by omega), Option.bind_some]; congr 1; omega
  · rw [if_neg h, Option.bind_some]; congr 1; omega
theorem gL_mul (c : Nat) : ∀ (xs ys : List Int) (g : Nat), xs.map Int.natAbs = ys.map (fun y => c * y.natAbs) → gL (c * g) xs = c * gL g ys
  | [], [], g, _ => rfl
  | [], _ :: _, g, h => by simp at h
  | _ :: _, [], g, h => by simp at h
  | x :: xs, y :: ys, g, h => by
    simp only [List.map_cons, List.cons.injEq] at h
    rw [gL, gL, h.1, Nat.gcd_mul_left]
    exact gL_mul c xs ys _ h.2
theorem gL_dvd0 : ∀ (xs : List Int) (g : Nat), gL g xs ∣ g
  | [], g => Nat.dvd_refl _
  | x :: xs, g => Nat.dvd_trans (gL_dvd0 xs _) (Nat.gcd_dvd_left _ _)
theorem gL_dvd : ∀ (xs : List Int) (g : Nat) (x : Int), x ∈ xs → gL g xs ∣ x.natAbs
  | [], g, x, h => by cases h
  | y :: ys, g, x, h => by
    rcases List.mem_cons.1 h with rfl | h
    · exact Nat.dvd_trans (gL_dvd0 ys _) (Nat.gcd_dvd_right _ _)
    · exact gL_dvd ys _ x h

/- What is left. -/
def sv : List Int → List (List Int) → Nat → Int
  | x :: xs, r :: rs, i => x * r.getD i 0 + sv xs rs i
  | _, _, _ => 0
def lv (t : List (List Int)) (h : List Int) (f : STermFit) (i : Nat) : Int := h.getD i 0 * f.Den - sv f.Nums t i
def lvL (t : List (List Int)) (h : List Int) (f : STermFit) (i : Nat) : Nat → List Int
  | 0 => []
  | d + 1 => lv t h f i :: lvL t h f (i + 1) d
structure GoodF (n : Nat) (t : List (List Int)) (h : List Int) (f : STermFit) : Prop where
  n20 : n ≤ 20
  hh : Row n 5000 h
  tl : t.length ≤ 2
  tr : ∀ j, j < t.length → Row n 100 (t.getD j default)
  fl : f.Nums.length = t.length
  fd : 1 ≤ f.Den ∧ f.Den ≤ 100000000000
  fn : ∀ j, j < t.length → -10000000000000 ≤ f.Nums.getD j 0 ∧ f.Nums.getD j 0 ≤ 10000000000000
theorem sv_drop {f : List Int} {t : List (List Int)} {i j : Nat} (h1 : j < f.length) (h2 : j < t.length) : sv (f.drop j) (t.drop j) i = f.getD j 0 * (t.getD j default).getD i 0 + sv (f.drop (j + 1)) (t.drop (j + 1)) i := by
  rw [drop_get h1 0, drop_get h2 default]; rfl
theorem pl1 (k : Nat) {n : Nat} {t : List (List Int)} {h : List Int} {f : STermFit} (hg : GoodF n t h f) (x9 x10 : Int) (i : Nat) (hi : i < n) : ∀ (d fuel j : Nat) (y : List Int), t.length = j + d → d < fuel → y.length = n → -(500000000000000 + j * 1000000000000000) ≤ y.getD i 0 → y.getD i 0 ≤ 500000000000000 + j * 1000000000000000 →
    nprofile_CheckFit_l1_0 k t h f (i : Int) fuel y (j : Int) = some (y.set i (y.getD i 0 - sv (f.Nums.drop j) (t.drop j) i)) ∧
    nspeculumref05_CheckFit_l3_0 k t h f x9 x10 (i : Int) fuel (y.getD i 0) (j : Int) = some (y.getD i 0 - sv (f.Nums.drop j) (t.drop j) i) := by
  have hl := hg.tl
  have hfl := hg.fl
  intro d
  induction d with
  | zero =>
    intro fuel j y hj hf hy _ _
    obtain ⟨g, rfl⟩ : ∃ g, fuel = g + 1 := ⟨fuel - 1, by omega⟩
    rw [nprofile_CheckFit_l1_0.eq_2, nspeculumref05_CheckFit_l3_0.eq_2, if_neg (by omega), if_neg (by omega), List.drop_eq_nil_of_le (by omega), show sv [] (t.drop j) i = 0 by cases t.drop j <;> rfl, Int.sub_zero]
    refine ⟨?_, rfl⟩
    congr 1
    apply List.ext_getElem
    · simp
    · intro q h1 h2
      rw [List.getElem_set]
      by_cases hq : i = q
      · subst hq; rw [if_pos rfl, List.getD_eq_getElem?_getD, List.getElem?_eq_getElem h1]; rfl
      · rw [if_neg hq]
  | succ d ih =>
    intro fuel j y hj hf hy hb1 hb2
    obtain ⟨g, rfl⟩ : ∃ g, fuel = g + 1 := ⟨fuel - 1, by omega⟩
    have hr := hg.tr j (by omega)
    have hrl := hr.len
    have hp := mb (hg.fn j (by omega)) (hr.all i hi)
    rw [nprofile_CheckFit_l1_0.eq_2, nspeculumref05_CheckFit_l3_0.eq_2, if_pos (by omega), if_pos (by omega), if_pos (by omega), if_pos (by omega), Int.toNat_natCast, Int.toNat_natCast, if_pos (by omega), if_pos (by omega), if_pos (by omega), if_pos (by omega), if_pos (by omega),
      w64_id (n := f.Nums.getD j 0 * (t.getD j default).getD i 0) (by omega) (by omega), w64_id (n := y.getD i 0 - f.Nums.getD j 0 * (t.getD j default).getD i 0) (by omega) (by omega), w64_succ (by omega)]
    have := ih g (j + 1) (y.set i (y.getD i 0 - f.Nums.getD j 0 * (t.getD j default).getD i 0)) (by omega) (by omega) (by simpa using hy) (by rw [get_set _ _ (by omega)]; omega) (by rw [get_set _ _ (by omega)]; omega)
    rw [get_set _ _ (by omega), List.set_set] at this
    rw [this.1, this.2, sv_drop (f := f.Nums) (t := t) (i := i) (j := j) (by omega) (by omega), Int.sub_sub]
    exact ⟨rfl, rfl⟩
end Go.Proofs.Ytbgdjjnkgjjffaa.Vg

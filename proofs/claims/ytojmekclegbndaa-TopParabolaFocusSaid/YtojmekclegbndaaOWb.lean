/- Chapter 2, plain: errors one behind the other, sums of products on the way. -/
import Derived.Test.YtojmekclegbndaaOWa
set_option linter.unusedVariables false
set_option linter.unusedSimpArgs false
namespace Go.Proofs.Ytojmekclegbndaa.Vg
open Go Go.Proofs.Ytojmekclegbndaa.Ev Go.Proofs.Ytojmekclegbndaa.Vv
/-- the first error of several. -/
def fE : List Int → Int
  | [] => 0
  | a :: l => if a = 0 then fE l else a
theorem firstError_l (k : Nat) (xs : List Int) (hl : xs.length < 1000000000000) : ∀ (d fuel i : Nat), xs.length = i + d → d < fuel → noptics_firstError_l0_0 k xs fuel (i : Int) = some (sumE (fE (xs.drop i))) := by
  intro d
  induction d with
  | zero =>
    intro fuel i h hf
    obtain ⟨g, rfl⟩ : ∃ g, fuel = g + 1 := ⟨fuel - 1, by omega⟩
    rw [noptics_firstError_l0_0.eq_2, if_neg (by omega), List.drop_eq_nil_of_le (by omega)]; rfl
  | succ d ih =>
    intro fuel i h hf
    obtain ⟨g, rfl⟩ : ∃ g, fuel = g + 1 := ⟨fuel - 1, by omega⟩
    have hi : i < xs.length := by omega
    rw [noptics_firstError_l0_0.eq_2, if_pos (by omega), if_pos (by omega), w64_succ (by omega), ih g (i + 1) (by omega) (by omega), List.drop_eq_getElem_cons hi]
    simp only [Int.toNat_natCast]
    rw [show xs.getD i 0 = xs[i] by rw [List.getD_eq_getElem?_getD, List.getElem?_eq_getElem hi]; rfl]
    unfold sumE
    by_cases c : xs[i] = 0
    · rw [if_pos c]; simp only [fE, if_pos c]
    · rw [if_neg c]; simp only [fE, if_neg c]
theorem firstError_any (k : Nat) (xs : List Int) (hl : xs.length < k) (hl2 : xs.length < 1000000000000) : noptics_firstError k xs = some (fE xs) := by
  unfold noptics_firstError
  rw [show noptics_firstError_l0_0 k xs k 0 = _ from firstError_l k xs hl2 xs.length k 0 (by omega) hl, Option.bind_some]
  unfold sumE
  rw [List.drop_zero]
  by_cases c : fE xs = 0
  · rw [if_pos c, c]
  · rw [if_neg c]
theorem fE1 (a : Int) : fE [a] = a := by
  show (if a = 0 then 0 else a) = a
  by_cases c : a = 0
  · rw [if_pos c, c]
  · rw [if_neg c]
theorem fE2 (a b : Int) : fE [a, b] = if a = 0 then b else a := by
  show (if a = 0 then fE [b] else a) = _
  rw [fE1]
theorem fE3 (a b c : Int) : fE [a, b, c] = if a = 0 then (if b = 0 then c else b) else a := by
  show (if a = 0 then fE [b, c] else a) = _
  rw [fE2]
theorem first_one (k : Nat) (hk : 100000000000000000000 ≤ k) (a : Int) : noptics_firstError k [a] = some a := by
  rw [firstError_any k _ (by simp; omega) (by simp), fE1]
theorem first_two (k : Nat) (hk : 100000000000000000000 ≤ k) (a b : Int) : noptics_firstError k [a, b] = some (if a = 0 then b else a) := by
  rw [firstError_any k _ (by simp; omega) (by simp), fE2]
theorem first_three (k : Nat) (hk : 100000000000000000000 ≤ k) (a b c : Int) : noptics_firstError k [a, b, c] = some (if a = 0 then (if b = 0 then c else b) else a) := by
  rw [firstError_any k _ (by simp; omega) (by simp), fE3]
theorem fl_failed (q : SWay) : (fl q).failed = if q.Large = true then 8 else 0 := rfl
/-- a sum of two products. -/
theorem prod_step (k : Nat) (hk : 100000000000000000000 ≤ k) {q : SWay} {a' b' c' d' a b c d : SFrac} (ha : q.Large = false → a' = a) (hb : q.Large = false → b' = b) (hc : q.Large = false → c' = c) (hd : q.Large = false → d' = d) (sa : Sm a) (sb : Sm b) (sc : Sm c) (sd : Sm d) :
    ∃ v w1 q1 w2 q2 w q', n_optics_way_products k (fl q) a' b' c' d' = some (v, fl q') ∧ n_speculumref02_Way_Mul k q a b = some (w1, q1) ∧ n_speculumref02_Way_Mul k q1 c d = some (w2, q2) ∧ n_speculumref02_Way_Add k q2 w1 w2 = some (w, q') ∧
      (q'.Large = false → q.Large = false) ∧ (q'.Large = false → v = w) ∧ Sm w ∧
      (q'.Large = false → w1.Num * (a.Den * b.Den) = a.Num * b.Num * w1.Den ∧ w2.Num * (c.Den * d.Den) = c.Num * d.Num * w2.Den ∧ w.Num * (w1.Den * w2.Den) = (w1.Num * w2.Den + w2.Num * w1.Den) * w.Den ∧ Sm w1 ∧ Sm w2) := by
  obtain ⟨v1, w1, q1, e1, f1, S1⟩ := mul_step k hk ha hb sa sb
  obtain ⟨v2, w2, q2, e2, f2, S2⟩ := mul_step k hk (q := q1) (fun h => hc (S1.keep h)) (fun h => hd (S1.keep h)) sc sd
  obtain ⟨v, w, q', e3, f3, S3⟩ := add_step k hk (q := q2) (fun h => S1.same (S2.keep h)) (fun h => S2.same h) S1.sm S2.sm
  refine ⟨v, w1, q1, w2, q2, w, q', ?_, f1, f2, f3, fun h => S1.keep (S2.keep (S3.keep h)), S3.same, S3.sm, fun h => ⟨S1.val (S2.keep (S3.keep h)), S2.val (S3.keep h), S3.val h, S1.sm, S2.sm⟩⟩
  unfold n_optics_way_products
  rw [e1, Option.bind_some, e2, Option.bind_some, e3, Option.bind_some]
end Go.Proofs.Ytojmekclegbndaa.Vg

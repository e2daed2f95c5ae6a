/- PointFits, plain: models and stars. -/
import Derived.Test.YtlhnkehohknhbaaPA
import Derived.Test.YtlhnkehohknhbaaBA
set_option linter.unusedVariables false
set_option linter.unusedSimpArgs false
namespace Go.Proofs.Ytlhnkehohknhbaa.Vg
open Go Go.Proofs.Ytlhnkehohknhbaa.Ev Go.Proofs.Ytlhnkehohknhbaa.Vv
theorem fw64_succ {i : Nat} (h : i < 9223372036854775807) : w64 ((i : Int) + 1) = ((i + 1 : Nat) : Int) := by
  rw [w64_id (by omega) (by omega)]; omega
theorem few_l (k : Nat) (l : List SSkyStar) (hl : l.length ≤ 9223372036854775807) : ∀ (d fuel i : Nat), l.length = i + d → d < fuel →
    nspeculumlaw09_Few_l0_0 k l fuel (i : Int) = some (sumB ((l.drop i).all (fun s => decide (s.Shapes.length ≤ 6)))) := by
  intro d
  induction d with
  | zero =>
    intro fuel i h hf
    obtain ⟨g, rfl⟩ : ∃ g, fuel = g + 1 := ⟨fuel - 1, by omega⟩
    rw [nspeculumlaw09_Few_l0_0.eq_2, if_neg (by omega), List.drop_eq_nil_of_le (by omega)]; rfl
  | succ d ih =>
    intro fuel i h hf
    obtain ⟨g, rfl⟩ : ∃ g, fuel = g + 1 := ⟨fuel - 1, by omega⟩
    rw [nspeculumlaw09_Few_l0_0.eq_2, if_pos (by omega), if_pos (by omega), fw64_succ (by omega), ih g (i + 1) (by omega) (by omega), drop_get (y := l) (i := i) (by omega) default]
    simp only [Int.toNat_natCast, List.all_cons]
    by_cases h1 : 6 < ((l.getD i default).Shapes.length : Int)
    · rw [if_pos h1, decide_eq_false (by omega)]; rfl
    · rw [if_neg h1, decide_eq_true (by omega)]; rfl
def fewB (l : List SSkyStar) : Bool := l.all (fun s => decide (s.Shapes.length ≤ 6)) && decide (l.length ≤ 8 ∨ 20 < l.length ∧ l.length ≤ 23)
theorem few_any (k : Nat) (l : List SSkyStar) (hl : l.length < k) (hx : l.length ≤ 9223372036854775807) : nspeculumlaw09_Few k l = some (fewB l) := by
  unfold nspeculumlaw09_Few fewB
  rw [show nspeculumlaw09_Few_l0_0 k l k 0 = _ from few_l k l hx l.length k 0 (by omega) hl, List.drop_zero, Option.bind_some]
  cases l.all (fun s => decide (s.Shapes.length ≤ 6)) with
  | false => rfl
  | true =>
    show (if (l.length : Int) ≤ 8 then some true else _) = some (true && _)
    rw [Bool.true_and]
    by_cases h : (l.length : Int) ≤ 8
    · rw [if_pos h, decide_eq_true (by omega)]
    · rw [if_neg h]
      by_cases h2 : 20 < (l.length : Int)
      · rw [if_pos h2]; congr 1; rw [decide_eq_decide]; omega
      · rw [if_neg h2, decide_eq_false (by omega)]
theorem few_facts {l : List SSkyStar} (h : fewB l = true) : (∀ i, i < l.length → (l.getD i default).Shapes.length ≤ 6) ∧ l.length ≤ 23 := by
  unfold fewB at h
  rw [Bool.and_eq_true, List.all_eq_true, decide_eq_true_iff] at h
  refine ⟨fun i hi => ?_, by omega⟩
  have := h.1 (l.getD i default) (by rw [List.getD_eq_getElem?_getD, List.getElem?_eq_getElem hi]; exact List.getElem_mem hi)
  exact of_decide_eq_true this
theorem ints_copy (k : Nat) (l : List Int) (hl : l.length ≤ 1000000000) : nspeculumbase_CopyInts k l = some l := by
  unfold nspeculumbase_CopyInts
  rw [if_pos (by simpa using hl)]; rfl
theorem take_get {α : Type} {l : List α} {i : Nat} (h : i < l.length) (d : α) : l.take i ++ [l.getD i d] = l.take (i + 1) := by
  rw [List.take_add_one, List.getD_eq_getElem?_getD, List.getElem?_eq_getElem h]; rfl
theorem stars_l (k : Nat) (l : List SSkyStar) (hs : ∀ i, i < l.length → (l.getD i default).Shapes.length ≤ 6) (hl : l.length ≤ 23) : ∀ (d fuel i : Nat), l.length = i + d → d < fuel →
    nspeculumlaw09_stars_l0_0 k l fuel (l.take i) (i : Int) = some l := by
  intro d
  induction d with
  | zero =>
    intro fuel i h hf
    obtain ⟨g, rfl⟩ : ∃ g, fuel = g + 1 := ⟨fuel - 1, by omega⟩
    rw [nspeculumlaw09_stars_l0_0.eq_2, if_neg (by omega), List.take_of_length_le (by omega)]
  | succ d ih =>
    intro fuel i h hf
    obtain ⟨g, rfl⟩ : ∃ g, fuel = g + 1 := ⟨fuel - 1, by omega⟩
    have hi := hs i (by omega)
    rw [nspeculumlaw09_stars_l0_0.eq_2, if_pos (by omega), if_pos (by omega), Int.toNat_natCast, ints_copy k _ (by omega), Option.bind_some, if_pos (by rw [List.length_take]; simp; omega), w64_succ (by omega)]
    rw [show (⟨(l.getD i default).Shapes, (l.getD i default).Error⟩ : SSkyStar) = l.getD i default from rfl, take_get (by omega), ih g (i + 1) (by omega) (by omega)]
theorem stars_copy (k : Nat) (l : List SSkyStar) (hs : ∀ i, i < l.length → (l.getD i default).Shapes.length ≤ 6) (hl : l.length ≤ 23) (hk : l.length < k) : nspeculumlaw09_stars k l = some l := by
  unfold nspeculumlaw09_stars
  rw [show nspeculumlaw09_stars_l0_0 k l k ([] : List SSkyStar) 0 = _ from stars_l k l hs hl l.length k 0 (by omega) hk]; rfl
theorem model_copy (k : Nat) (m : SSkyModel) (hl : m.Terms.length ≤ 1000000000) : nspeculumlaw09_model k m = some m := by
  unfold nspeculumlaw09_model
  rw [ints_copy k _ hl]; rfl

/- Stars. -/
def starE (n : Nat) (s : SSkyStar) : Int := if s.Shapes.length = n ∧ inR 1 3 n = true then (if s.Shapes.all (inR (-100) 100) = true ∧ inR (-1000) 1000 s.Error = true then 0 else 2) else 10
def chkS (n : Nat) : List SSkyStar → Int
  | [] => 0
  | s :: l => if starE n s = 0 then chkS n l else starE n s
theorem chkS_err {n : Nat} {s : SSkyStar} {l : List SSkyStar} {e : Int} (h : starE n s = e) (he : e ≠ 0) : chkS n (s :: l) = e := by
  rw [chkS, h, if_neg he]
theorem chkS_ok {n : Nat} {s : SSkyStar} {l : List SSkyStar} (h : starE n s = 0) : chkS n (s :: l) = chkS n l := by
  rw [chkS, if_pos h]
theorem starE_10 {n : Nat} {s : SSkyStar} (h : ¬(s.Shapes.length = n ∧ inR 1 3 n = true)) : starE n s = 10 := if_neg h
theorem starE_2 {n : Nat} {s : SSkyStar} (h : s.Shapes.length = n ∧ inR 1 3 n = true) (h2 : ¬(s.Shapes.all (inR (-100) 100) = true ∧ inR (-1000) 1000 s.Error = true)) : starE n s = 2 := by
  unfold starE; rw [if_pos h, if_neg h2]
theorem starE_0 {n : Nat} {s : SSkyStar} (h : s.Shapes.length = n ∧ inR 1 3 n = true) (h2 : s.Shapes.all (inR (-100) 100) = true ∧ inR (-1000) 1000 s.Error = true) : starE n s = 0 := by
  unfold starE; rw [if_pos h, if_pos h2]
theorem starP_l (k : Nat) (hk : 100 < k) (hk2 : k ≤ 100000000000000000000) (l : List SSkyStar) (hs : ∀ i, i < l.length → (l.getD i default).Shapes.length ≤ 6) (hl : l.length ≤ 23) (n : Nat) (hn : n = (l.getD 0 default).Shapes.length) : ∀ (d fuel i : Nat), l.length = i + d → d < fuel →
    npoint_CheckStars_l0_0 k l fuel (i : Int) = some (sumE (chkS n (l.drop i))) := by
  intro d
  induction d with
  | zero =>
    intro fuel i h hf
    obtain ⟨g, rfl⟩ : ∃ g, fuel = g + 1 := ⟨fuel - 1, by omega⟩
    rw [npoint_CheckStars_l0_0.eq_2, if_neg (by omega), List.drop_eq_nil_of_le (by omega)]; rfl
  | succ d ih =>
    intro fuel i h hf
    obtain ⟨g, rfl⟩ : ∃ g, fuel = g + 1 := ⟨fuel - 1, by omega⟩
    have hi := hs i (by omega)
    rw [npoint_CheckStars_l0_0.eq_2, if_pos (by omega), if_pos (by omega), w64_succ (by omega), ih g (i + 1) (by omega) (by omega), drop_get (y := l) (i := i) (by omega) default]
    rw [Int.toNat_natCast, show (0 : Int).toNat = 0 from rfl, ← hn, areWithin_1 k _ _ _ hk hk2, areSmall_any k _ _ (by decide) (by omega) (by omega), areSmall_1 k _ _ (by decide) hk hk2]
    simp only [Option.bind_some]
    by_cases h1 : (l.getD i default).Shapes.length = n
    · rw [if_pos (by omega)]
      cases h2 : inR 1 3 n with
      | false => rw [chkS_err (starE_10 (fun e => by rw [h2] at e; exact absurd e.2 (by decide))) (by decide)]; rfl
      | true =>
        rw [if_pos rfl]
        cases h3 : (l.getD i default).Shapes.all (inR (-100) 100) with
        | false => rw [chkS_err (starE_2 ⟨h1, h2⟩ (fun e => by rw [h3] at e; exact absurd e.1 (by decide))) (by decide)]; rfl
        | true =>
          rw [if_pos rfl]
          cases h4 : inR (-1000) 1000 (l.getD i default).Error with
          | false => rw [chkS_err (starE_2 ⟨h1, h2⟩ (fun e => by rw [h4] at e; exact absurd e.2 (by decide))) (by decide)]; rfl
          | true => rw [if_pos rfl, chkS_ok (starE_0 ⟨h1, h2⟩ ⟨h3, h4⟩)]
    · rw [if_neg (by omega), chkS_err (starE_10 (fun e => h1 e.1)) (by decide)]; rfl
def starsN (l : List SSkyStar) : Nat := (l.getD 0 default).Shapes.length
def starsE (l : List SSkyStar) : Int := if l.length = 0 then 10 else (if 20 < l.length then 8 else chkS (starsN l) l)
def starsR (l : List SSkyStar) : Int × Int := if starsE l = 0 then ((starsN l : Int), 0) else (0, starsE l)
theorem stars_point (k : Nat) (hk : 100 < k) (hk2 : k ≤ 100000000000000000000) (l : List SSkyStar) (hs : ∀ i, i < l.length → (l.getD i default).Shapes.length ≤ 6) (hl : l.length ≤ 23) : npoint_CheckStars k l = some (starsR l) := by
  unfold npoint_CheckStars starsR starsE
  by_cases h0 : l.length = 0
  · rw [if_pos (by omega), if_pos h0]; rfl
  · rw [if_neg (by omega), if_neg h0]
    by_cases h1 : 20 < l.length
    · rw [if_pos (by omega), if_pos h1]; rfl
    · rw [if_neg (by omega), if_neg h1, if_pos (by omega), show npoint_CheckStars_l0_0 k l k 0 = _ from starP_l k hk hk2 l hs hl _ rfl l.length k 0 (by omega) (by omega), List.drop_zero, Option.bind_some]
      show _ = some (if chkS (starsN l) l = 0 then _ else _)
      change (match sumE (chkS (starsN l) l) with | .inl r636 => _ | .inr r637 => _) = _
      unfold sumE
      by_cases h2 : chkS (starsN l) l = 0
      · rw [if_pos h2, if_pos h2]; rfl
      · rw [if_neg h2, if_neg h2]
theorem starS_l (k : Nat) (l : List SSkyStar) (i0 : Nat) (hi0 : i0 < l.length) (sh : List Int) (hsh : sh = (l.getD i0 default).Shapes) (hl : sh.length ≤ 6) : ∀ (d fuel i : Nat), sh.length = i + d → d < fuel →
    nspeculumref09_CheckStars_l1_0 k l (i0 : Int) fuel (i : Int) = some (sumB ((sh.drop i).all (inR (-100) 100))) := by
  intro d
  induction d with
  | zero =>
    intro fuel i h hf
    obtain ⟨g, rfl⟩ : ∃ g, fuel = g + 1 := ⟨fuel - 1, by omega⟩
    rw [nspeculumref09_CheckStars_l1_0.eq_2, Int.toNat_natCast, ← hsh, if_pos (by omega), if_neg (by omega), List.drop_eq_nil_of_le (by omega)]; rfl
  | succ d ih =>
    intro fuel i h hf
    obtain ⟨g, rfl⟩ : ∃ g, fuel = g + 1 := ⟨fuel - 1, by omega⟩
    rw [nspeculumref09_CheckStars_l1_0.eq_2, Int.toNat_natCast, ← hsh, if_pos (by omega), if_pos (by omega), if_pos (by omega), within_base, Option.bind_some, w64_succ (by omega), ih g (i + 1) (by omega) (by omega), drop_get (y := sh) (i := i) (by omega) 0, Int.toNat_natCast, List.all_cons]
    cases inR (-100) 100 (sh.getD i 0) <;> rfl
theorem starR_l (k : Nat) (hk : 100 < k) (l : List SSkyStar) (hs : ∀ i, i < l.length → (l.getD i default).Shapes.length ≤ 6) (hl : l.length ≤ 23) (n : Nat) (hn : n = (l.getD 0 default).Shapes.length) : ∀ (d fuel i : Nat), l.length = i + d → d < fuel →
    nspeculumref09_CheckStars_l0_0 k l fuel (i : Int) = some (sumE (chkS n (l.drop i))) := by
  intro d
  induction d with
  | zero =>
    intro fuel i h hf
    obtain ⟨g, rfl⟩ : ∃ g, fuel = g + 1 := ⟨fuel - 1, by omega⟩
    rw [nspeculumref09_CheckStars_l0_0.eq_2, if_neg (by omega), List.drop_eq_nil_of_le (by omega)]; rfl
  | succ d ih =>
    intro fuel i h hf
    obtain ⟨g, rfl⟩ : ∃ g, fuel = g + 1 := ⟨fuel - 1, by omega⟩
    have hi := hs i (by omega)
    rw [nspeculumref09_CheckStars_l0_0.eq_2, if_pos (by omega), if_pos (by omega), if_pos (by omega), w64_succ (by omega), ih g (i + 1) (by omega) (by omega), drop_get (y := l) (i := i) (by omega) default]
    rw [show nspeculumref09_CheckStars_l1_0 k l (i : Int) k 0 = _ from starS_l k l i (by omega) _ rfl hi (l.getD i default).Shapes.length k 0 (by omega) (by omega)]
    rw [Int.toNat_natCast, show (0 : Int).toNat = 0 from rfl, ← hn, within_base, within_base, List.drop_zero]
    simp only [Option.bind_some]
    by_cases h1 : (l.getD i default).Shapes.length = n
    · rw [if_pos (by omega), h1]
      cases h2 : inR 1 3 n with
      | false => rw [chkS_err (starE_10 (fun e => by rw [h2] at e; exact absurd e.2 (by decide))) (by decide)]; rfl
      | true =>
        rw [if_pos rfl]
        cases h3 : (l.getD i default).Shapes.all (inR (-100) 100) with
        | false => rw [chkS_err (starE_2 ⟨h1, h2⟩ (fun e => by rw [h3] at e; exact absurd e.1 (by decide))) (by decide)]; rfl
        | true =>
          show (if inR (-1000) 1000 (l.getD i default).Error = true then _ else _) = _
          cases h4 : inR (-1000) 1000 (l.getD i default).Error with
          | false => rw [chkS_err (starE_2 ⟨h1, h2⟩ (fun e => by rw [h4] at e; exact absurd e.2 (by decide))) (by decide)]; rfl
          | true => rw [if_pos rfl, chkS_ok (starE_0 ⟨h1, h2⟩ ⟨h3, h4⟩)]
    · rw [if_neg (by omega), chkS_err (starE_10 (fun e => h1 e.1)) (by decide)]; rfl
theorem stars_ref (k : Nat) (hk : 100 < k) (l : List SSkyStar) (hs : ∀ i, i < l.length → (l.getD i default).Shapes.length ≤ 6) (hl : l.length ≤ 23) : nspeculumref09_CheckStars k l = some (starsR l) := by
  unfold nspeculumref09_CheckStars starsR starsE
  by_cases h0 : l.length = 0
  · rw [if_pos (by omega), if_pos h0]; rfl
  · rw [if_neg (by omega), if_neg h0]
    by_cases h1 : 20 < l.length
    · rw [if_pos (by omega), if_pos h1]; rfl
    · rw [if_neg (by omega), if_neg h1, show nspeculumref09_CheckStars_l0_0 k l k 0 = _ from starR_l k hk l hs hl _ rfl l.length k 0 (by omega) (by omega), List.drop_zero, Option.bind_some, if_pos (by omega)]
      change (match sumE (chkS (starsN l) l) with | .inl r636 => _ | .inr r637 => _) = _
      unfold sumE
      by_cases h2 : chkS (starsN l) l = 0
      · rw [if_pos h2, if_pos h2]; rfl
      · rw [if_neg h2, if_neg h2]
theorem chkS_zero (n : Nat) : ∀ (l : List SSkyStar), chkS n l = 0 → ∀ i, i < l.length → starE n (l.getD i default) = 0
  | [], _, i, hi => absurd hi (Nat.not_lt_zero _)
  | s :: l, h, i, hi => by
    by_cases hs : starE n s = 0
    · rw [chkS_ok hs] at h
      cases i with
      | zero => exact hs
      | succ i => exact chkS_zero n l h i (by simpa using hi)
    · rw [chkS, if_neg hs] at h; exact absurd h hs
theorem starE_zero {n : Nat} {s : SSkyStar} (h : starE n s = 0) : s.Shapes.length = n ∧ 1 ≤ n ∧ n ≤ 3 := by
  by_cases h1 : s.Shapes.length = n ∧ inR 1 3 n = true
  · have := inR_t.1 h1.2; omega
  · rw [starE_10 h1] at h; exact absurd h (by decide)
theorem stars_zero {l : List SSkyStar} (h : starsE l = 0) : 0 < l.length ∧ l.length ≤ 20 ∧ 1 ≤ starsN l ∧ starsN l ≤ 3 ∧ ∀ i, i < l.length → (l.getD i default).Shapes.length = starsN l := by
  unfold starsE at h
  by_cases h0 : l.length = 0
  · rw [if_pos h0] at h; exact absurd h (by decide)
  · rw [if_neg h0] at h
    by_cases h1 : 20 < l.length
    · rw [if_pos h1] at h; exact absurd h (by decide)
    · rw [if_neg h1] at h
      have hz := chkS_zero _ _ h
      have h2 := starE_zero (hz 0 (by omega))
      exact ⟨by omega, by omega, h2.2.1, h2.2.2, fun i hi => (starE_zero (hz i hi)).1⟩
end Go.Proofs.Ytlhnkehohknhbaa.Vg

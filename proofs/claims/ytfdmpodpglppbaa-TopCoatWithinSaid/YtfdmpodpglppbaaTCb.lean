/- Histories: what both sides check. -/
import Derived.Test.YtfdmpodpglppbaaTCa
set_option linter.unusedVariables false
set_option linter.unusedSimpArgs false
namespace Go.Proofs.Ytfdmpodpglppbaa.Vg
open Go Go.Proofs.Ytfdmpodpglppbaa.Ev Go.Proofs.Ytfdmpodpglppbaa.Vv
theorem past_l0 (k : Nat) (l : List SCoatEvent) (hl : l.length < 100000000) : ∀ (d fuel i : Nat), l.length = i + d → d < fuel → ∃ b, nspeculumlaw08_Past_l0_0 k l fuel (i : Int) = some (sumB b) := by
  intro d
  induction d with
  | zero =>
    intro fuel i h hf
    obtain ⟨g, rfl⟩ : ∃ g, fuel = g + 1 := ⟨fuel - 1, by omega⟩
    rw [nspeculumlaw08_Past_l0_0.eq_2, if_neg (by omega)]; exact ⟨true, rfl⟩
  | succ d ih =>
    intro fuel i h hf
    obtain ⟨g, rfl⟩ : ∃ g, fuel = g + 1 := ⟨fuel - 1, by omega⟩
    rw [nspeculumlaw08_Past_l0_0.eq_2, if_pos (by omega), if_pos (by omega), w64_succ (by omega)]
    split
    · exact ⟨false, rfl⟩
    · exact ih g (i + 1) (by omega) (by omega)
theorem past_l1 (k : Nat) (l : List SCoatEvent) (hl : l.length < 100000000) : ∀ (d fuel i : Nat), l.length = i + d → d < fuel → ∃ b, nspeculumlaw08_Past_l0_1 k l fuel (i : Int) = some (sumB b) := by
  intro d
  induction d with
  | zero =>
    intro fuel i h hf
    obtain ⟨g, rfl⟩ : ∃ g, fuel = g + 1 := ⟨fuel - 1, by omega⟩
    rw [nspeculumlaw08_Past_l0_1.eq_2, if_neg (by omega)]; exact ⟨true, rfl⟩
  | succ d ih =>
    intro fuel i h hf
    obtain ⟨g, rfl⟩ : ∃ g, fuel = g + 1 := ⟨fuel - 1, by omega⟩
    rw [nspeculumlaw08_Past_l0_1.eq_2, if_pos (by omega), if_pos (by omega), w64_succ (by omega)]
    split
    · exact ⟨false, rfl⟩
    · exact ih g (i + 1) (by omega) (by omega)
theorem past_any (k : Nat) (hk : 100 < k) (l : List SCoatEvent) : ∃ b, nspeculumlaw08_Past k l = some b ∧ (b = true → l.length ≤ 43) := by
  unfold nspeculumlaw08_Past
  by_cases h1 : 43 < (l.length : Int)
  · rw [if_pos (by omega), if_neg (by omega), if_pos h1]; exact ⟨false, rfl, fun h => by cases h⟩
  · rw [if_neg h1, if_neg h1]
    obtain ⟨b0, h0⟩ := past_l0 k l (by omega) l.length k 0 (by omega) (by omega)
    obtain ⟨b1, h2⟩ := past_l1 k l (by omega) l.length k 0 (by omega) (by omega)
    rw [show nspeculumlaw08_Past_l0_0 k l k 0 = _ from h0, show nspeculumlaw08_Past_l0_1 k l k 0 = _ from h2]
    split
    · split
      · exact ⟨false, rfl, fun h => by cases h⟩
      · cases b0
        · exact ⟨false, rfl, fun h => by cases h⟩
        · exact ⟨true, rfl, fun _ => by omega⟩
    · cases b1
      · exact ⟨false, rfl, fun h => by cases h⟩
      · exact ⟨true, rfl, fun _ => by omega⟩
theorem sl0 {α : Type} (l : List α) (i : Nat) : sl l 0 i = l.take i := by unfold sl; rw [List.drop_zero, Nat.sub_zero]
abbrev ge (l : List SCoatEvent) (i : Nat) : SCoatEvent := l.getD i default
/-- how many washes a coating bears behind an event. -/
def stp (W n kd : Int) : Int := if kd = 0 then W else if kd = 1 then n - 1 else if kd = 2 then -1 else n
def stF (W n : Int) (l : List SCoatEvent) : Int := l.foldl (fun n x => stp W n x.Kind) n
theorem state_l (k : Nat) (a : SAging) (hW : 0 ≤ a.Washes ∧ a.Washes ≤ 100) (l : List SCoatEvent) (hl : l.length < 100000) : ∀ (d fuel i : Nat) (n : Int), l.length = i + d → d < fuel → -(1 + i : Int) ≤ n → n ≤ 100 →
    nspeculumref08_state_l0_0 k a l fuel n (i : Int) = some (stF a.Washes n (l.drop i)) := by
  intro d
  induction d with
  | zero =>
    intro fuel i n h hf _ _
    obtain ⟨g, rfl⟩ : ∃ g, fuel = g + 1 := ⟨fuel - 1, by omega⟩
    rw [nspeculumref08_state_l0_0.eq_2, if_neg (by omega), List.drop_eq_nil_of_le (by omega)]; rfl
  | succ d ih =>
    intro fuel i n h hf h1 h2
    obtain ⟨g, rfl⟩ : ∃ g, fuel = g + 1 := ⟨fuel - 1, by omega⟩
    rw [nspeculumref08_state_l0_0.eq_2, if_pos (by omega), if_pos (by omega), w64_succ (by omega), drop_get (y := l) (i := i) (by omega) default, w64_id (n := n - 1) (by omega) (by omega)]
    simp only [Int.toNat_natCast]
    have hf : stF a.Washes n (l.getD i default :: l.drop (i + 1)) = stF a.Washes (stp a.Washes n (l.getD i default).Kind) (l.drop (i + 1)) := rfl
    rw [hf]
    unfold stp
    by_cases c0 : (l.getD i default).Kind = 0
    · rw [if_pos c0, if_neg (by omega), if_neg (by omega), if_pos c0, ih g (i + 1) _ (by omega) (by omega) (by omega) (by omega)]
    · rw [if_neg c0, if_neg c0]
      by_cases c1 : (l.getD i default).Kind = 1
      · rw [if_pos c1, if_neg (by omega), if_pos c1, ih g (i + 1) _ (by omega) (by omega) (by omega) (by omega)]
      · rw [if_neg c1, if_neg c1]
        by_cases c2 : (l.getD i default).Kind = 2
        · rw [if_pos c2, if_pos c2, ih g (i + 1) _ (by omega) (by omega) (by omega) (by omega)]
        · rw [if_neg c2, if_neg c2, ih g (i + 1) _ (by omega) (by omega) (by omega) (by omega)]
theorem state_any (k : Nat) (a : SAging) (hW : 0 ≤ a.Washes ∧ a.Washes ≤ 100) (l : List SCoatEvent) (hl : l.length < k) (hl2 : l.length < 100000) : nspeculumref08_state k a l = some (stF a.Washes (-1) l) := by
  unfold nspeculumref08_state
  rw [show nspeculumref08_state_l0_0 k a l k (-1) 0 = _ from state_l k a hW l hl2 l.length k 0 (-1) (by omega) hl (by decide) (by decide)]; rfl
/-- the error of an event behind others. -/
def chk (l : List SCoatEvent) (i : Nat) (n : Int) : Int :=
  if evE (ge l i) = 0 then (if (ge l i).Mirror = (ge l 0).Mirror then (if 0 < i ∧ (ge l i).Day < (ge l (i - 1)).Day then 9 else (if (decide ((ge l i).Kind = 0) == decide (n < 0)) = true then (if (ge l i).Kind = 1 ∧ n = 0 then 16 else 0) else 24)) else 13) else evE (ge l i)
def hisL (W : Int) (l : List SCoatEvent) : Nat → Nat → Int → Sum (Int × Int) Unit
  | 0, _, _ => .inr ()
  | d + 1, i, n => if chk l i n = 0 then hisL W l d (i + 1) (stp W n (ge l i).Kind) else .inl ((i : Int), chk l i n)
theorem hisL_succ (W : Int) (l : List SCoatEvent) (d i : Nat) (n : Int) : hisL W l (d + 1) i n = if chk l i n = 0 then hisL W l d (i + 1) (stp W n (ge l i).Kind) else .inl ((i : Int), chk l i n) := rfl
theorem w64_pred {i : Nat} (h0 : 0 < i) (h : i < 1000000000000) : w64 ((i : Int) - 1) = ((i - 1 : Nat) : Int) := by
  rw [w64_id (by omega) (by omega)]; omega
theorem take_next {α : Type} {m : List α} {i : Nat} (h : i < m.length) (d : α) : m.take (i + 1) = m.take i ++ [m.getD i d] := by
  rw [List.take_add_one, List.getElem?_eq_getElem h, List.getD_eq_getElem?_getD, List.getElem?_eq_getElem h]; rfl
theorem stF_next {W : Int} {l : List SCoatEvent} {i : Nat} (h : i < l.length) : stF W (-1) (l.take (i + 1)) = stp W (stF W (-1) (l.take i)) (ge l i).Kind := by
  rw [take_next h default]; unfold stF; rw [List.foldl_append]; rfl
theorem fin_l (kd n : Int) (A : Sum (Int × Int) Unit) (i : Int) : (if (decide (kd = 0) == decide (n < 0)) = true then (if kd = 1 then (if n = 0 then some (.inl (i, 16)) else some A) else some A) else some (.inl (i, 24))) =
    some (if (if (decide (kd = 0) == decide (n < 0)) = true then (if kd = 1 ∧ n = 0 then 16 else 0) else 24 : Int) = 0 then A else .inl (i, (if (decide (kd = 0) == decide (n < 0)) = true then (if kd = 1 ∧ n = 0 then 16 else 0) else 24 : Int))) := by
  by_cases c4 : (decide (kd = 0) == decide (n < 0)) = true
  · simp only [if_pos c4]
    by_cases c5 : kd = 1
    · by_cases c6 : n = 0
      · simp [c5, c6]
      · simp [c5, c6]
    · simp [c5]
  · simp only [if_neg c4]; rfl
theorem his_ref (k : Nat) (hk : 1000 < k) (a : SAging) (hW : 0 ≤ a.Washes ∧ a.Washes ≤ 100) (l : List SCoatEvent) (hl : l.length < 100) : ∀ (d fuel i : Nat), l.length = i + d → d < fuel →
    nspeculumref08_CheckHistory_l0_0 k a l fuel (i : Int) = some (hisL a.Washes l d i (stF a.Washes (-1) (l.take i))) := by
  intro d
  induction d with
  | zero =>
    intro fuel i h hf
    obtain ⟨g, rfl⟩ : ∃ g, fuel = g + 1 := ⟨fuel - 1, by omega⟩
    rw [nspeculumref08_CheckHistory_l0_0.eq_2, if_neg (by omega)]; rfl
  | succ d ih =>
    intro fuel i h hf
    obtain ⟨g, rfl⟩ : ∃ g, fuel = g + 1 := ⟨fuel - 1, by omega⟩
    rw [nspeculumref08_CheckHistory_l0_0.eq_2, if_pos (by omega), if_pos (by omega), w64_succ (by omega), ih g (i + 1) (by omega) (by omega), stF_next (by omega), hisL_succ]
    simp only [Int.toNat_natCast, Int.toNat_zero]
    rw [alone_ref k (by omega) ⟨(ge l i).Mirror, (ge l i).Day, (ge l i).Kind⟩, Option.bind_some, show (⟨(ge l i).Mirror, (ge l i).Day, (ge l i).Kind⟩ : SCoatEvent) = ge l i from rfl, sl0, state_any k _ hW (l.take i) (by rw [List.length_take]; omega) (by rw [List.length_take]; omega), Option.bind_some]
    unfold chk
    generalize stF a.Washes (-1) (l.take i) = n
    by_cases c1 : evE (ge l i) = 0
    · rw [if_pos c1, if_pos (by omega), if_pos c1]
      by_cases c2 : (ge l i).Mirror = (ge l 0).Mirror
      · rw [if_pos c2, if_pos c2]
        have fin := fin_l (ge l i).Kind n (hisL a.Washes l d (i + 1) (stp a.Washes n (ge l i).Kind)) (i : Int)
        by_cases c3 : 0 < i
        · rw [if_pos (by omega), w64_pred c3 (by omega), if_pos (by omega)]
          simp only [Int.toNat_natCast]
          by_cases c7 : (ge l i).Day < (ge l (i - 1)).Day
          · rw [if_pos c7]; simp only [if_pos (show 0 < i ∧ (ge l i).Day < (ge l (i - 1)).Day from ⟨c3, c7⟩)]; rfl
          · rw [if_neg c7, if_pos (by omega)]
            simp only [if_neg (show ¬ (0 < i ∧ (ge l i).Day < (ge l (i - 1)).Day) from fun h => c7 h.2)]
            exact fin
        · rw [if_neg (by omega), if_pos (by omega)]
          simp only [if_neg (show ¬ (0 < i ∧ (ge l i).Day < (ge l (i - 1)).Day) from fun h => c3 h.1)]
          exact fin
      · rw [if_neg c2]; simp only [if_neg c2]; rfl
    · rw [if_neg c1]; simp only [if_neg c1]
/-- what a film says of the state. -/
structure FR (a : SAging) (f : Sfilm) (n : Int) : Prop where
  ag : f.Aging = a
  on : f.isOn = decide (0 ≤ n)
  lo : -1 ≤ n
  eq : 0 ≤ n → n = a.Washes - f.washed ∧ 0 ≤ f.washed ∧ f.washed ≤ a.Washes
theorem refusal_any (k : Nat) {a : SAging} {f : Sfilm} {n kd : Int} (hW : 0 ≤ a.Washes ∧ a.Washes ≤ 100) (F : FR a f n) : n_coat_film_refusal k f kd = some (if (decide (kd = 0) == decide (n < 0)) = true then (if kd = 1 ∧ n = 0 then 16 else 0) else 24) := by
  unfold n_coat_film_refusal n_coat_film_left
  have ho := F.on
  by_cases hn : 0 ≤ n
  · rw [ho, decide_eq_true hn, decide_eq_false (show ¬ n < 0 by omega)]
    obtain ⟨e1, e2, e3⟩ := F.eq hn
    by_cases c : kd = 0
    · rw [decide_eq_true c, if_pos (show (true == true) = true from rfl), if_neg (show ¬ (true == false) = true by decide)]
    · rw [decide_eq_false c, if_neg (show ¬ (false == true) = true by decide), if_pos (show (false == false) = true from rfl)]
      by_cases c1 : kd = 1
      · try dsimp only
        rw [if_pos c1, if_pos rfl, F.ag, w64_id (by omega) (by omega), Option.bind_some]
        by_cases c2 : n = 0
        · rw [if_pos (by omega), if_pos ⟨c1, c2⟩]
        · rw [if_neg (by omega), if_neg (fun h => c2 h.2)]
      · rw [if_neg c1, if_neg (fun h => c1 h.1)]
  · rw [ho, decide_eq_false hn, decide_eq_true (show n < 0 by omega)]
    by_cases c : kd = 0
    · rw [decide_eq_true c, if_neg (show ¬ (true == false) = true by decide), if_neg (show ¬ kd = 1 by omega), if_pos (show (true == true) = true from rfl), if_neg (fun h => by omega)]
    · rw [decide_eq_false c, if_pos (show (false == false) = true from rfl), if_neg (show ¬ (false == true) = true by decide)]
theorem behind_check (k : Nat) (hk : 1000 < k) (hk2 : k ≤ 1000000000) {a : SAging} {f : Sfilm} {n : Int} (hW : 0 ≤ a.Washes ∧ a.Washes ≤ 100) (F : FR a f n) (l : List SCoatEvent) (hl : l.length < 100) {i : Nat} (hi : i < l.length) :
    ncoat_checkBehind k (l.take i) f (ge l i) = some (chk l i n) := by
  unfold ncoat_checkBehind chk
  rw [alone_coat k (by omega) hk2 ⟨(ge l i).Mirror, (ge l i).Day, (ge l i).Kind⟩, Option.bind_some, show (⟨(ge l i).Mirror, (ge l i).Day, (ge l i).Kind⟩ : SCoatEvent) = ge l i from rfl, refusal_any k hW F, Option.bind_some]
  by_cases c1 : evE (ge l i) = 0
  · rw [if_pos c1, if_pos c1]
    have hlen : (l.take i).length = i := by rw [List.length_take]; omega
    rw [hlen]
    by_cases c3 : 0 < i
    · have g0 : (l.take i).getD 0 default = ge l 0 := by
        rw [List.getD_eq_getElem?_getD, List.getElem?_take, if_pos c3]; exact (List.getD_eq_getElem?_getD ..).symm
      have g1 : (l.take i).getD (i - 1) default = ge l (i - 1) := by
        rw [List.getD_eq_getElem?_getD, List.getElem?_take, if_pos (by omega)]; exact (List.getD_eq_getElem?_getD ..).symm
      rw [if_pos (by omega), if_pos (by omega), w64_pred c3 (by omega), if_pos (by omega)]
      simp only [Int.toNat_natCast, Int.toNat_zero, g0, g1]
      by_cases c2 : (ge l i).Mirror = (ge l 0).Mirror
      · rw [if_pos c2, if_pos c2]
        by_cases c7 : (ge l i).Day < (ge l (i - 1)).Day
        · rw [if_pos c7, if_pos ⟨c3, c7⟩]
        · rw [if_neg c7, if_neg (show ¬ (0 < i ∧ (ge l i).Day < (ge l (i - 1)).Day) from fun h => c7 h.2)]
      · rw [if_neg c2, if_neg c2]
    · rw [if_neg (by omega), if_pos (show (ge l i).Mirror = (ge l 0).Mirror by rw [show i = 0 by omega]), if_neg (show ¬ (0 < i ∧ (ge l i).Day < (ge l (i - 1)).Day) from fun h => c3 h.1)]
  · rw [if_neg c1, if_neg c1]
theorem evE_kind {x : SCoatEvent} (h : evE x = 0) : (0 ≤ x.Day ∧ x.Day ≤ 100000) ∧ (x.Kind = 0 ∨ x.Kind = 1 ∨ x.Kind = 2) := by
  unfold evE at h
  cases h1 : nameB x.Mirror with
  | false => rw [h1] at h; dsimp only at h; exact absurd h (by decide)
  | true =>
    rw [h1] at h; dsimp only at h
    cases h2 : inR 0 100000 x.Day with
    | false => rw [h2] at h; dsimp only at h; exact absurd h (by decide)
    | true =>
      rw [h2] at h; dsimp only at h
      cases h3 : inR 0 2 x.Kind with
      | false => rw [h3] at h; dsimp only at h; exact absurd h (by decide)
      | true => have h3 := inR_t.1 h3; exact ⟨inR_t.1 h2, by omega⟩
theorem chk_zero {l : List SCoatEvent} {i : Nat} {n : Int} (h : chk l i n = 0) : evE (ge l i) = 0 ∧ (ge l i).Mirror = (ge l 0).Mirror ∧ (0 < i → (ge l (i - 1)).Day ≤ (ge l i).Day) ∧ ((ge l i).Kind = 0 ↔ n < 0) ∧ ¬((ge l i).Kind = 1 ∧ n = 0) := by
  unfold chk at h
  by_cases c1 : evE (ge l i) = 0
  · rw [if_pos c1] at h
    by_cases c2 : (ge l i).Mirror = (ge l 0).Mirror
    · rw [if_pos c2] at h
      by_cases c3 : 0 < i ∧ (ge l i).Day < (ge l (i - 1)).Day
      · rw [if_pos c3] at h; exact absurd h (by decide)
      · rw [if_neg c3] at h
        by_cases c4 : (decide ((ge l i).Kind = 0) == decide (n < 0)) = true
        · rw [if_pos c4] at h
          by_cases c5 : (ge l i).Kind = 1 ∧ n = 0
          · rw [if_pos c5] at h; exact absurd h (by decide)
          · refine ⟨c1, c2, fun h0 => Int.not_lt.1 fun h1 => c3 ⟨h0, h1⟩, ?_, c5⟩
            have := eq_of_beq c4
            exact decide_eq_decide.1 this
        · rw [if_neg c4] at h; exact absurd h (by decide)
    · rw [if_neg c2] at h; exact absurd h (by decide)
  · rw [if_neg c1] at h; exact absurd h c1
theorem outward_some (k : Nat) (x y : Int) : ∃ r, ncoat_outward k x y 1000 = some r := by
  unfold ncoat_outward ncoat_up
  rw [if_pos (by decide), if_pos (by decide)]
  exact ⟨_, rfl⟩
theorem behind_some (k : Nat) {a : SAging} {f : Sfilm} {n : Int} (hW : 0 ≤ a.Washes ∧ a.Washes ≤ 100) (F : FR a f n) {x : SCoatEvent} (h1 : x.Kind = 0 ∨ x.Kind = 1 ∨ x.Kind = 2) (h2 : x.Kind = 0 ↔ n < 0) (h3 : ¬(x.Kind = 1 ∧ n = 0)) :
    ∃ f', n_coat_film_behind k f x = some f' ∧ FR a f' (stp a.Washes n x.Kind) := by
  unfold n_coat_film_behind stp
  by_cases c0 : x.Kind = 0
  · rw [if_pos c0, if_pos c0]
    exact ⟨_, rfl, F.ag, by dsimp only; rw [decide_eq_true hW.1], by omega, fun _ => ⟨by dsimp only; omega, Int.le_refl 0, hW.1⟩⟩
  · rw [if_neg c0, if_neg c0]
    by_cases c1 : x.Kind = 1
    · rw [if_pos c1, if_pos c1]
      unfold n_coat_film_wash n_coat_film_brightOn
      have hn : 0 ≤ n := by
        rcases Int.lt_or_le n 0 with h | h
        · exact absurd (h2.2 h) c0
        · exact h
      obtain ⟨e1, e2, e3⟩ := F.eq hn
      have hn0 : n ≠ 0 := fun h => h3 ⟨c1, h⟩
      obtain ⟨r, hr⟩ := outward_some k (w64 (f.Aging.Loss.Lo * w64 (x.Day - f.since))) (w64 (f.Aging.Loss.Hi * w64 (x.Day - f.since)))
      try dsimp only
      rw [hr]
      refine ⟨_, rfl, F.ag, ?_, by omega, fun _ => ?_⟩
      · dsimp only; rw [F.on, decide_eq_true hn, decide_eq_true (show 0 ≤ n - 1 by omega)]
      · dsimp only
        rw [w64_id (by omega) (by omega)]; omega
    · rw [if_neg c1, if_neg c1, if_pos (show x.Kind = 2 by omega)]
      exact ⟨_, rfl, F.ag, rfl, by omega, fun h => by omega⟩
theorem his_coat (k : Nat) (hk : 1000 < k) (hk2 : k ≤ 1000000000) (a : SAging) (hW : 0 ≤ a.Washes ∧ a.Washes ≤ 100) (l : List SCoatEvent) (hl : l.length < 100) : ∀ (d fuel i : Nat) (f : Sfilm) (n : Int), l.length = i + d → d < fuel → FR a f n →
    ncoat_CheckHistory_l0_0 k a l fuel f.Aging.Fresh.Lo f.Aging.Fresh.Hi f.bright.Lo f.bright.Hi f.Aging.Loss.Lo f.Aging.Loss.Hi f.Aging.Back.Lo f.Aging.Back.Hi f.Aging.Washes f.isOn f.washed f.since (i : Int) = some (hisL a.Washes l d i n) := by
  intro d
  induction d with
  | zero =>
    intro fuel i f n h hf _
    obtain ⟨g, rfl⟩ : ∃ g, fuel = g + 1 := ⟨fuel - 1, by omega⟩
    rw [ncoat_CheckHistory_l0_0.eq_2, if_neg (by omega)]; rfl
  | succ d ih =>
    intro fuel i f n h hf F
    obtain ⟨g, rfl⟩ : ∃ g, fuel = g + 1 := ⟨fuel - 1, by omega⟩
    rw [ncoat_CheckHistory_l0_0.eq_2, if_pos (by omega), if_pos (by omega), if_pos (by omega), w64_succ (by omega), hisL_succ]
    simp only [Int.toNat_natCast]
    rw [sl0, show ncoat_checkBehind k (l.take i) _ _ = _ from behind_check k hk hk2 hW F l hl (by omega), Option.bind_some]
    by_cases c : chk l i n = 0
    · obtain ⟨g1, g2, g3, g4, g5⟩ := chk_zero c
      obtain ⟨f', h1, h2⟩ := behind_some k hW F (x := ge l i) (evE_kind g1).2 g4 g5
      rw [if_pos c, if_pos c, show n_coat_film_behind k _ _ = _ from h1, Option.bind_some]
      exact ih g (i + 1) f' _ (by omega) (by omega) h2
    · rw [if_neg c, if_neg c]
/-- what both say of a history. -/
def hiE (W : Int) (l : List SCoatEvent) : Int × Int := if 40 < (l.length : Int) then (0, 8) else match hisL W l l.length 0 (-1) with
  | .inl e => e
  | .inr _ => (0, 0)
theorem agE_W {a : SAging} (h : agE a = 0) : rgB a.Fresh = true ∧ rgB a.Loss = true ∧ rgB a.Back = true ∧ 0 ≤ a.Washes ∧ a.Washes ≤ 100 := by
  unfold agE at h
  cases c : (rgB a.Fresh && rgB a.Loss && rgB a.Back && inR 0 100 a.Washes) with
  | false => rw [c] at h; exact absurd h (by decide)
  | true =>
    simp only [Bool.and_eq_true] at c
    exact ⟨c.1.1.1, c.1.1.2, c.1.2, inR_t.1 c.2⟩
theorem history_coat (k : Nat) (hk : 1000 < k) (hk2 : k ≤ 1000000000) (a : SAging) (l : List SCoatEvent) : ncoat_CheckHistory k a l = some (if agE a = 0 then hiE a.Washes l else (0, agE a)) := by
  unfold ncoat_CheckHistory hiE
  rw [show ncoat_CheckAging k _ = _ from aging_coat k (by omega) hk2 a, Option.bind_some]
  by_cases c : agE a = 0
  · have hW := (agE_W c).2.2.2
    rw [if_pos c, if_pos c]
    by_cases c2 : 40 < (l.length : Int)
    · rw [if_pos c2, if_pos c2]
    · rw [if_neg c2, if_neg c2]
      have F : FR a ⟨a, false, 0, 0, ⟨0, 0⟩⟩ (-1) := ⟨rfl, rfl, by decide, fun h => by omega⟩
      rw [show ncoat_CheckHistory_l0_0 k a l k a.Fresh.Lo a.Fresh.Hi 0 0 a.Loss.Lo a.Loss.Hi a.Back.Lo a.Back.Hi a.Washes false 0 0 0 = _ from his_coat k hk hk2 a hW l (by omega) l.length k 0 _ _ (by omega) (by omega) F, Option.bind_some]
      cases hisL a.Washes l l.length 0 (-1) <;> rfl
  · rw [if_neg c, if_neg c]
theorem history_ref (k : Nat) (hk : 1000 < k) (a : SAging) (hW : 0 ≤ a.Washes ∧ a.Washes ≤ 100) (l : List SCoatEvent) : nspeculumref08_CheckHistory k a l = some (hiE a.Washes l) := by
  unfold nspeculumref08_CheckHistory hiE
  by_cases c2 : 40 < (l.length : Int)
  · rw [if_pos c2, if_pos c2]
  · rw [if_neg c2, if_neg c2, show nspeculumref08_CheckHistory_l0_0 k a l k 0 = _ from his_ref k hk a hW l (by omega) l.length k 0 (by omega) (by omega), Option.bind_some]
    rw [show stF a.Washes (-1) (l.take 0) = -1 from rfl]
    cases hisL a.Washes l l.length 0 (-1) <;> rfl
theorem chk_take {l : List SCoatEvent} {m i : Nat} (h : i < m) (n : Int) : chk (l.take m) i n = chk l i n := by
  have g : ∀ j, j < m → ge (l.take m) j = ge l j := fun j hj => by
    show (l.take m).getD j default = l.getD j default
    rw [List.getD_eq_getElem?_getD, List.getElem?_take, if_pos hj]; exact (List.getD_eq_getElem?_getD ..).symm
  unfold chk
  rw [g i h, g 0 (by omega), g (i - 1) (by omega)]
theorem ge_take {l : List SCoatEvent} {m i : Nat} (h : i < m) : ge (l.take m) i = ge l i := by
  show (l.take m).getD i default = l.getD i default
  rw [List.getD_eq_getElem?_getD, List.getElem?_take, if_pos h]; exact (List.getD_eq_getElem?_getD ..).symm
theorem his_take {W : Int} {l : List SCoatEvent} {m : Nat} : ∀ (d d' i : Nat) (n : Int), i + d ≤ m → d ≤ d' → hisL W l d' i n = .inr () → hisL W (l.take m) d i n = .inr ()
  | 0, d', i, n, _, _, _ => rfl
  | d + 1, 0, i, n, _, h, _ => by omega
  | d + 1, d' + 1, i, n, h1, h2, h => by
    rw [hisL_succ] at h ⊢
    rw [chk_take (by omega), ge_take (by omega)]
    by_cases c : chk l i n = 0
    · rw [if_pos c] at h ⊢
      exact his_take d d' (i + 1) _ (by omega) (by omega) h
    · rw [if_neg c] at h; cases h
theorem his_ne {W : Int} {l : List SCoatEvent} : ∀ (d i : Nat) (n : Int) (e : Int × Int), hisL W l d i n = .inl e → e.2 ≠ 0
  | 0, i, n, e, h => by cases h
  | d + 1, i, n, e, h => by
    rw [hisL_succ] at h
    by_cases c : chk l i n = 0
    · rw [if_pos c] at h; exact his_ne d (i + 1) _ e h
    · rw [if_neg c] at h; injection h with h; subst h; exact c
theorem hiE_zero {W : Int} {l : List SCoatEvent} (h : (hiE W l).2 = 0) : l.length ≤ 40 ∧ hisL W l l.length 0 (-1) = .inr () := by
  unfold hiE at h
  by_cases c2 : 40 < (l.length : Int)
  · rw [if_pos c2] at h; exact absurd h (by decide)
  · rw [if_neg c2] at h
    cases hc : hisL W l l.length 0 (-1) with
    | inl e => rw [hc] at h; exact absurd h (his_ne _ _ _ _ hc)
    | inr u => exact ⟨by omega, rfl⟩
theorem hiE_take {W : Int} {l : List SCoatEvent} (h : (hiE W l).2 = 0) (m : Nat) : hiE W (l.take m) = (0, 0) := by
  obtain ⟨h1, h2⟩ := hiE_zero h
  unfold hiE
  have hlen : (l.take m).length = min m l.length := List.length_take
  rw [if_neg (by omega), his_take (m := m) (l.take m).length l.length 0 (-1) (by omega) (by omega) h2]
end Go.Proofs.Ytfdmpodpglppbaa.Vg

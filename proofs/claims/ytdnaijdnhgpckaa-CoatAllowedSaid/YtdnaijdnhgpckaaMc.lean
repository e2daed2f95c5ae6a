/- Films on a day, plain: the program's film and the reference's state. -/
import Derived.Test.YtdnaijdnhgpckaaY2
import Derived.Test.YtdnaijdnhgpckaaMb
set_option linter.unusedVariables false
set_option linter.unusedSimpArgs false
namespace Go.Proofs.Ytdnaijdnhgpckaa.Vg
open Go Go.Proofs.Ytdnaijdnhgpckaa.Ev Go.Proofs.Ytdnaijdnhgpckaa.Vv
theorem his_ok {W : Int} {l : List SCoatEvent} : ∀ (d i : Nat) (n : Int), hisL W l d i n = .inr () → ∀ j, i ≤ j → j < i + d → evE (ge l j) = 0 ∧ (0 < j → (ge l (j - 1)).Day ≤ (ge l j).Day)
  | 0, i, n, h, j, h1, h2 => by omega
  | d + 1, i, n, h, j, h1, h2 => by
    rw [hisL_succ] at h
    by_cases c : chk l i n = 0
    · rw [if_pos c] at h
      by_cases e : j = i
      · subst e; obtain ⟨g1, g2, g3, _⟩ := chk_zero c; exact ⟨g1, g3⟩
      · exact his_ok d (i + 1) _ h j (by omega) (by omega)
    · rw [if_neg c] at h; cases h
theorem his_mono {l : List SCoatEvent} (h : ∀ j, 0 < j → j < l.length → (ge l (j - 1)).Day ≤ (ge l j).Day) : ∀ (d i : Nat), i + d < l.length → (ge l i).Day ≤ (ge l (i + d)).Day
  | 0, i, _ => Int.le_refl _
  | d + 1, i, hd => by
    have h1 := his_mono h d i (by omega)
    have h2 := h (i + d + 1) (by omega) (by omega)
    rw [show i + d + 1 - 1 = i + d by omega] at h2
    show _ ≤ (ge l (i + d + 1)).Day
    omega
/-- behind the day nothing changes. -/
theorem film_after (k : Nat) (a : SAging) (l : List SCoatEvent) (hl : l.length < 100000) (D : Int) : ∀ (d fuel i : Nat) (f : Sfilm), l.length = i + d → d < fuel → (∀ j, i ≤ j → j < l.length → D < (ge l j).Day) →
    ncoat_filmOn_l0_0 k a l D fuel f.Aging.Fresh.Lo f.Aging.Fresh.Hi f.bright.Lo f.bright.Hi f.Aging.Loss.Lo f.Aging.Loss.Hi f.Aging.Back.Lo f.Aging.Back.Hi f.Aging.Washes f.isOn f.washed f.since (i : Int) = some (f.Aging.Fresh.Lo, f.Aging.Fresh.Hi, f.Aging.Loss.Lo, f.Aging.Loss.Hi, f.Aging.Back.Lo, f.Aging.Back.Hi, f.Aging.Washes, f.isOn, f.washed, f.since, f.bright.Lo, f.bright.Hi) := by
  intro d
  induction d with
  | zero =>
    intro fuel i f h hf _
    obtain ⟨g, rfl⟩ : ∃ g, fuel = g + 1 := ⟨fuel - 1, by omega⟩
    rw [ncoat_filmOn_l0_0.eq_2, if_neg (by omega)]
  | succ d ih =>
    intro fuel i f h hf hj
    obtain ⟨g, rfl⟩ : ∃ g, fuel = g + 1 := ⟨fuel - 1, by omega⟩
    have := hj i (Nat.le_refl _) (by omega)
    rw [ncoat_filmOn_l0_0.eq_2, if_pos (by omega), if_pos (by omega), w64_succ (by omega)]
    simp only [Int.toNat_natCast]
    rw [if_neg (show ¬ (ge l i).Day ≤ D by omega), ih g (i + 1) f (by omega) (by omega) (fun j h1 h2 => hj j (by omega) h2)]
theorem until_after (k : Nat) (l : List SCoatEvent) (hl : l.length < 100000) (D : Int) : ∀ (d fuel i : Nat) (y : List SCoatEvent), l.length = i + d → d < fuel → (∀ j, i ≤ j → j < l.length → D < (ge l j).Day) →
    nspeculumref08_Until_l0_0 k l D fuel y (i : Int) = some y := by
  intro d
  induction d with
  | zero =>
    intro fuel i f h hf _
    obtain ⟨g, rfl⟩ : ∃ g, fuel = g + 1 := ⟨fuel - 1, by omega⟩
    rw [nspeculumref08_Until_l0_0.eq_2, if_neg (by omega)]
  | succ d ih =>
    intro fuel i f h hf hj
    obtain ⟨g, rfl⟩ : ∃ g, fuel = g + 1 := ⟨fuel - 1, by omega⟩
    have := hj i (Nat.le_refl _) (by omega)
    rw [nspeculumref08_Until_l0_0.eq_2, if_pos (by omega), if_pos (by omega), w64_succ (by omega)]
    simp only [Int.toNat_natCast]
    rw [if_neg (show ¬ (ge l i).Day ≤ D by omega), ih g (i + 1) f (by omega) (by omega) (fun j h1 h2 => hj j (by omega) h2)]
theorem all_on (k : Nat) {a : SAging} (hW : 0 ≤ a.Washes ∧ a.Washes ≤ 100) {l : List SCoatEvent} (hl : l.length < 100) (hm : ∀ i j, i ≤ j → j < l.length → (ge l i).Day ≤ (ge l j).Day) {D : Int} : ∀ (d fuel i : Nat) (f : Sfilm) (n : Int) (y : List SCoatEvent), l.length = i + d → d < fuel →
    hisL a.Washes l d i n = .inr () → FR a f n → stF a.Washes (-1) y = n → y.length ≤ i →
    ∃ f' n' y', ncoat_filmOn_l0_0 k a l D fuel f.Aging.Fresh.Lo f.Aging.Fresh.Hi f.bright.Lo f.bright.Hi f.Aging.Loss.Lo f.Aging.Loss.Hi f.Aging.Back.Lo f.Aging.Back.Hi f.Aging.Washes f.isOn f.washed f.since (i : Int) = some (f'.Aging.Fresh.Lo, f'.Aging.Fresh.Hi, f'.Aging.Loss.Lo, f'.Aging.Loss.Hi, f'.Aging.Back.Lo, f'.Aging.Back.Hi, f'.Aging.Washes, f'.isOn, f'.washed, f'.since, f'.bright.Lo, f'.bright.Hi) ∧
      nspeculumref08_Until_l0_0 k l D fuel y (i : Int) = some y' ∧ stF a.Washes (-1) y' = n' ∧ y'.length ≤ l.length ∧ FR a f' n' := by
  intro d
  induction d with
  | zero =>
    intro fuel i f n y h hf _ F hy hyl
    have hnone : ∀ j, i ≤ j → j < l.length → D < (ge l j).Day := fun j h1 h2 => by omega
    exact ⟨f, n, y, film_after k a l (by omega) D 0 fuel i f h hf hnone, until_after k l (by omega) D 0 fuel i y h hf hnone, hy, by omega, F⟩
  | succ d ih =>
    intro fuel i f n y h hf hh F hy hyl
    by_cases c : (ge l i).Day ≤ D
    · obtain ⟨g, rfl⟩ : ∃ g, fuel = g + 1 := ⟨fuel - 1, by omega⟩
      rw [hisL_succ] at hh
      by_cases hc : chk l i n = 0
      case neg => rw [if_neg hc] at hh; cases hh
      rw [if_pos hc] at hh
      obtain ⟨g1, g2, g3, g4, g5⟩ := chk_zero hc
      obtain ⟨hday, hk⟩ := evE_kind g1
      obtain ⟨f1, k1, k2⟩ := behind_some k hW F hk g4 g5
      have hy1 : stF a.Washes (-1) (y ++ [ge l i]) = stp a.Washes n (ge l i).Kind := by
        rw [← hy]; unfold stF; rw [List.foldl_append]; rfl
      obtain ⟨f', n', y', r1, r2, r3, r4, r5⟩ := ih g (i + 1) f1 _ (y ++ [ge l i]) (by omega) (by omega) hh k2 hy1 (by simp; omega)
      refine ⟨f', n', y', ?_, ?_, r3, r4, r5⟩
      · rw [ncoat_filmOn_l0_0.eq_2, if_pos (by omega), if_pos (by omega), w64_succ (by omega)]
        simp only [Int.toNat_natCast]
        rw [if_pos c, show n_coat_film_behind k _ _ = _ from k1, Option.bind_some]
        exact r1
      · rw [nspeculumref08_Until_l0_0.eq_2, if_pos (by omega), if_pos (by omega), w64_succ (by omega)]
        simp only [Int.toNat_natCast]
        rw [if_pos c, if_pos (by simp; omega)]
        exact r2
    · have hnone : ∀ j, i ≤ j → j < l.length → D < (ge l j).Day := fun j h1 h2 => by have := hm i j h1 h2; omega
      exact ⟨f, n, y, film_after k a l (by omega) D (d + 1) fuel i f h hf hnone, until_after k l (by omega) D (d + 1) fuel i y h hf hnone, hy, by omega, F⟩
theorem day_coat (k : Nat) (hk : 1000 < k) (hk2 : k ≤ 1000000000) (D : Int) : ncoat_checkDay k D = some (if inR 0 100000 D = true then 0 else 2) := by
  unfold ncoat_checkDay
  rw [areWithin_1 k _ _ _ (by omega) hk2, Option.bind_some]
  split <;> rfl
/-- what both say on a day of a right history. -/
theorem on_day (k : Nat) (hk : 1000 < k) (hk2 : k ≤ 1000000000) {a : SAging} (ha : agE a = 0) {l : List SCoatEvent} (hl : (hiE a.Washes l).2 = 0) {D : Int} (hD : inR 0 100000 D = true) :
    ∃ n f', ncoat_rightFilmOn k a l D = some (f', 0) ∧ nspeculumref08_StateOn k a l D = some n ∧ FR a f' n := by
  obtain ⟨_, _, _, hW1, hW2⟩ := agE_W ha
  obtain ⟨h1, h2⟩ := hiE_zero hl
  have hok := his_ok _ _ _ h2
  have hm : ∀ i j, i ≤ j → j < l.length → (ge l i).Day ≤ (ge l j).Day := fun i j h1 h2 => by
    have := his_mono (l := l) (fun j j1 j2 => (hok j (by omega) (by omega)).2 j1) (j - i) i (by omega)
    rw [show i + (j - i) = j by omega] at this; exact this
  have hd := inR_t.1 hD
  have F : FR a ⟨a, false, 0, 0, ⟨0, 0⟩⟩ (-1) := ⟨rfl, rfl, by decide, fun h => by omega⟩
  obtain ⟨f', n', y', r1, r2, r3, r4, r5⟩ := all_on k ⟨hW1, hW2⟩ (by omega) hm (D := D) l.length k 0 ⟨a, false, 0, 0, ⟨0, 0⟩⟩ (-1) [] (by omega) (by omega) h2 F rfl (Nat.le_refl _)
  refine ⟨n', f', ?_, ?_, r5⟩
  · unfold ncoat_rightFilmOn ncoat_filmOn
    rw [show ncoat_CheckHistory k _ l = _ from history_coat k hk hk2 a l, Option.bind_some, if_pos ha, if_pos hl, day_coat k hk hk2, if_pos hD, Option.bind_some, if_pos rfl]
    rw [show ncoat_filmOn_l0_0 k _ l D k a.Fresh.Lo a.Fresh.Hi 0 0 a.Loss.Lo a.Loss.Hi a.Back.Lo a.Back.Hi a.Washes false 0 0 0 = _ from r1, Option.bind_some]
    rfl
  · unfold nspeculumref08_StateOn nspeculumref08_Until
    rw [show nspeculumref08_Until_l0_0 k l D k [] 0 = _ from r2, Option.bind_some, Option.bind_some, show nspeculumref08_state k _ y' = _ from state_any k a ⟨hW1, hW2⟩ y' (by omega) (by omega), Option.bind_some, r3]
theorem past_ref (k : Nat) (hk : 1000 < k) (a : SAging) (l : List SCoatEvent) : nspeculumlaw08_past k a l = some (if agE a = 0 then (hiE a.Washes l).2 else agE a) := by
  unfold nspeculumlaw08_past
  rw [show nspeculumref08_CheckAging k _ = _ from aging_ref k (by omega) a, Option.bind_some]
  by_cases c : agE a = 0
  · rw [if_pos c, if_pos c, show nspeculumref08_CheckHistory k _ l = _ from history_ref k hk a (agE_W c).2.2.2 l]; rfl
  · rw [if_neg c, if_neg c]
end Go.Proofs.Ytdnaijdnhgpckaa.Vg

import Derived.Test.YtodiglefoobjkaaS4
import Derived.Test.YtodiglefoobjkaaSC
set_option linter.unusedVariables false
set_option linter.unusedSimpArgs false
namespace Go.Proofs.Ytodiglefoobjkaa.Vg
open Go Go.Proofs.Ytodiglefoobjkaa.Ev Go.Proofs.Ytodiglefoobjkaa.Vv
theorem ints_l (k : Nat) (y : List Int) (hl : y.length <= 43) : ∀ (d fuel i : Nat), y.length = i + d -> d < fuel -> nspeculumbase_Ints_l0_0 k y y fuel (i : Int) = some (.inr ()) := by
 intro d
 induction d with
 | zero =>
   intro fuel i h hf
   obtain ⟨g, rfl⟩ : ∃ g, fuel = g + 1 := ⟨fuel - 1, by omega⟩
   rw [nspeculumbase_Ints_l0_0.eq_2, if_neg (by omega)]
 | succ d ih =>
   intro fuel i h hf
   obtain ⟨g, rfl⟩ : ∃ g, fuel = g + 1 := ⟨fuel - 1, by omega⟩
   rw [nspeculumbase_Ints_l0_0.eq_2, if_pos (by omega), if_pos (by omega), if_pos (by omega), if_pos rfl, big_succ (by omega)]
   exact ih g (i + 1) (by omega) (by omega)
theorem ints_same (k : Nat) (hk : 100 < k) (y : List Int) (hl : y.length <= 43) : nspeculumbase_Ints k y y = some true := by
 unfold nspeculumbase_Ints
 rw [if_pos rfl, show nspeculumbase_Ints_l0_0 k y y k 0 = _ from ints_l k y hl y.length k 0 (by omega) (by omega)]; rfl
theorem short_l0_0 (k : Nat) (l : List SGlassBatch) (ps : List SGlassPromise) (hl : l.length <= 1000) : ∀ (d fuel i : Nat), l.length = i + d -> d < fuel -> ∃ b, nspeculumlaw03_short_l0_0 k l ps fuel (i : Int) = some (sumB b) := by
 intro d
 induction d with
 | zero =>
   intro fuel i h hf
   obtain ⟨g, rfl⟩ : ∃ g, fuel = g + 1 := ⟨fuel - 1, by omega⟩
   exact ⟨true, by rw [nspeculumlaw03_short_l0_0.eq_2, if_neg (by omega)]; rfl⟩
 | succ d ih =>
   intro fuel i h hf
   obtain ⟨g, rfl⟩ : ∃ g, fuel = g + 1 := ⟨fuel - 1, by omega⟩
   rw [nspeculumlaw03_short_l0_0.eq_2, if_pos (by omega), if_pos (by omega), Int.toNat_natCast, big_succ (by omega)]
   by_cases cName : 30 < (((l.getD i default).Name).size : Int)
   ·rw [if_pos cName]; exact ⟨false, rfl⟩
   rw [if_neg cName]
   exact ih g (i + 1) (by omega) (by omega)
theorem short_l1_0 (k : Nat) (l : List SGlassBatch) (ps : List SGlassPromise) (hl : ps.length <= 1000) : ∀ (d fuel i : Nat), ps.length = i + d -> d < fuel -> ∃ b, nspeculumlaw03_short_l1_0 k ps fuel (i : Int) = some (sumB b) := by
 intro d
 induction d with
 | zero =>
   intro fuel i h hf
   obtain ⟨g, rfl⟩ : ∃ g, fuel = g + 1 := ⟨fuel - 1, by omega⟩
   exact ⟨true, by rw [nspeculumlaw03_short_l1_0.eq_2, if_neg (by omega)]; rfl⟩
 | succ d ih =>
   intro fuel i h hf
   obtain ⟨g, rfl⟩ : ∃ g, fuel = g + 1 := ⟨fuel - 1, by omega⟩
   rw [nspeculumlaw03_short_l1_0.eq_2, if_pos (by omega), if_pos (by omega), Int.toNat_natCast, big_succ (by omega)]
   by_cases cMirror : 30 < (((ps.getD i default).Mirror).size : Int)
   ·rw [if_pos cMirror]; exact ⟨false, rfl⟩
   rw [if_neg cMirror]
   by_cases cBatch : 30 < (((ps.getD i default).Batch).size : Int)
   ·rw [if_pos cBatch]; exact ⟨false, rfl⟩
   rw [if_neg cBatch]
   exact ih g (i + 1) (by omega) (by omega)
theorem short_l0_1 (k : Nat) (l : List SGlassBatch) (ps : List SGlassPromise) (hl : l.length <= 1000) : ∀ (d fuel i : Nat), l.length = i + d -> d < fuel -> ∃ b, nspeculumlaw03_short_l0_1 k l ps fuel (i : Int) = some (sumB b) := by
 intro d
 induction d with
 | zero =>
   intro fuel i h hf
   obtain ⟨g, rfl⟩ : ∃ g, fuel = g + 1 := ⟨fuel - 1, by omega⟩
   exact ⟨true, by rw [nspeculumlaw03_short_l0_1.eq_2, if_neg (by omega)]; rfl⟩
 | succ d ih =>
   intro fuel i h hf
   obtain ⟨g, rfl⟩ : ∃ g, fuel = g + 1 := ⟨fuel - 1, by omega⟩
   rw [nspeculumlaw03_short_l0_1.eq_2, if_pos (by omega), if_pos (by omega), Int.toNat_natCast, big_succ (by omega)]
   by_cases cName : 30 < (((l.getD i default).Name).size : Int)
   ·rw [if_pos cName]; exact ⟨false, rfl⟩
   rw [if_neg cName]
   exact ih g (i + 1) (by omega) (by omega)
theorem short_l1_1 (k : Nat) (l : List SGlassBatch) (ps : List SGlassPromise) (hl : ps.length <= 1000) : ∀ (d fuel i : Nat), ps.length = i + d -> d < fuel -> ∃ b, nspeculumlaw03_short_l1_1 k ps fuel (i : Int) = some (sumB b) := by
 intro d
 induction d with
 | zero =>
   intro fuel i h hf
   obtain ⟨g, rfl⟩ : ∃ g, fuel = g + 1 := ⟨fuel - 1, by omega⟩
   exact ⟨true, by rw [nspeculumlaw03_short_l1_1.eq_2, if_neg (by omega)]; rfl⟩
 | succ d ih =>
   intro fuel i h hf
   obtain ⟨g, rfl⟩ : ∃ g, fuel = g + 1 := ⟨fuel - 1, by omega⟩
   rw [nspeculumlaw03_short_l1_1.eq_2, if_pos (by omega), if_pos (by omega), Int.toNat_natCast, big_succ (by omega)]
   by_cases cMirror : 30 < (((ps.getD i default).Mirror).size : Int)
   ·rw [if_pos cMirror]; exact ⟨false, rfl⟩
   rw [if_neg cMirror]
   by_cases cBatch : 30 < (((ps.getD i default).Batch).size : Int)
   ·rw [if_pos cBatch]; exact ⟨false, rfl⟩
   rw [if_neg cBatch]
   exact ih g (i + 1) (by omega) (by omega)
theorem short_l0_2 (k : Nat) (l : List SGlassBatch) (ps : List SGlassPromise) (hl : l.length <= 1000) : ∀ (d fuel i : Nat), l.length = i + d -> d < fuel -> ∃ b, nspeculumlaw03_short_l0_2 k l ps fuel (i : Int) = some (sumB b) := by
 intro d
 induction d with
 | zero =>
   intro fuel i h hf
   obtain ⟨g, rfl⟩ : ∃ g, fuel = g + 1 := ⟨fuel - 1, by omega⟩
   exact ⟨true, by rw [nspeculumlaw03_short_l0_2.eq_2, if_neg (by omega)]; rfl⟩
 | succ d ih =>
   intro fuel i h hf
   obtain ⟨g, rfl⟩ : ∃ g, fuel = g + 1 := ⟨fuel - 1, by omega⟩
   rw [nspeculumlaw03_short_l0_2.eq_2, if_pos (by omega), if_pos (by omega), Int.toNat_natCast, big_succ (by omega)]
   by_cases cName : 30 < (((l.getD i default).Name).size : Int)
   ·rw [if_pos cName]; exact ⟨false, rfl⟩
   rw [if_neg cName]
   exact ih g (i + 1) (by omega) (by omega)
theorem short_l1_2 (k : Nat) (l : List SGlassBatch) (ps : List SGlassPromise) (hl : ps.length <= 1000) : ∀ (d fuel i : Nat), ps.length = i + d -> d < fuel -> ∃ b, nspeculumlaw03_short_l1_2 k ps fuel (i : Int) = some (sumB b) := by
 intro d
 induction d with
 | zero =>
   intro fuel i h hf
   obtain ⟨g, rfl⟩ : ∃ g, fuel = g + 1 := ⟨fuel - 1, by omega⟩
   exact ⟨true, by rw [nspeculumlaw03_short_l1_2.eq_2, if_neg (by omega)]; rfl⟩
 | succ d ih =>
   intro fuel i h hf
   obtain ⟨g, rfl⟩ : ∃ g, fuel = g + 1 := ⟨fuel - 1, by omega⟩
   rw [nspeculumlaw03_short_l1_2.eq_2, if_pos (by omega), if_pos (by omega), Int.toNat_natCast, big_succ (by omega)]
   by_cases cMirror : 30 < (((ps.getD i default).Mirror).size : Int)
   ·rw [if_pos cMirror]; exact ⟨false, rfl⟩
   rw [if_neg cMirror]
   by_cases cBatch : 30 < (((ps.getD i default).Batch).size : Int)
   ·rw [if_pos cBatch]; exact ⟨false, rfl⟩
   rw [if_neg cBatch]
   exact ih g (i + 1) (by omega) (by omega)
theorem short_l0_3 (k : Nat) (l : List SGlassBatch) (ps : List SGlassPromise) (hl : l.length <= 1000) : ∀ (d fuel i : Nat), l.length = i + d -> d < fuel -> ∃ b, nspeculumlaw03_short_l0_3 k l ps fuel (i : Int) = some (sumB b) := by
 intro d
 induction d with
 | zero =>
   intro fuel i h hf
   obtain ⟨g, rfl⟩ : ∃ g, fuel = g + 1 := ⟨fuel - 1, by omega⟩
   exact ⟨true, by rw [nspeculumlaw03_short_l0_3.eq_2, if_neg (by omega)]; rfl⟩
 | succ d ih =>
   intro fuel i h hf
   obtain ⟨g, rfl⟩ : ∃ g, fuel = g + 1 := ⟨fuel - 1, by omega⟩
   rw [nspeculumlaw03_short_l0_3.eq_2, if_pos (by omega), if_pos (by omega), Int.toNat_natCast, big_succ (by omega)]
   by_cases cName : 30 < (((l.getD i default).Name).size : Int)
   ·rw [if_pos cName]; exact ⟨false, rfl⟩
   rw [if_neg cName]
   exact ih g (i + 1) (by omega) (by omega)
theorem short_l1_3 (k : Nat) (l : List SGlassBatch) (ps : List SGlassPromise) (hl : ps.length <= 1000) : ∀ (d fuel i : Nat), ps.length = i + d -> d < fuel -> ∃ b, nspeculumlaw03_short_l1_3 k ps fuel (i : Int) = some (sumB b) := by
 intro d
 induction d with
 | zero =>
   intro fuel i h hf
   obtain ⟨g, rfl⟩ : ∃ g, fuel = g + 1 := ⟨fuel - 1, by omega⟩
   exact ⟨true, by rw [nspeculumlaw03_short_l1_3.eq_2, if_neg (by omega)]; rfl⟩
 | succ d ih =>
   intro fuel i h hf
   obtain ⟨g, rfl⟩ : ∃ g, fuel = g + 1 := ⟨fuel - 1, by omega⟩
   rw [nspeculumlaw03_short_l1_3.eq_2, if_pos (by omega), if_pos (by omega), Int.toNat_natCast, big_succ (by omega)]
   by_cases cMirror : 30 < (((ps.getD i default).Mirror).size : Int)
   ·rw [if_pos cMirror]; exact ⟨false, rfl⟩
   rw [if_neg cMirror]
   by_cases cBatch : 30 < (((ps.getD i default).Batch).size : Int)
   ·rw [if_pos cBatch]; exact ⟨false, rfl⟩
   rw [if_neg cBatch]
   exact ih g (i + 1) (by omega) (by omega)
theorem short_any (k : Nat) (hk : 2000 < k) (l : List SGlassBatch) (ps : List SGlassPromise) : ∃ b, nspeculumlaw03_short k l ps = some b /\ (b = true -> l.length <= 43 /\ ps.length <= 203) := by
 unfold nspeculumlaw03_short
 have fin : ∀ {A B : Option (Sum Unit Unit)}, (l.length <= 43 /\ ps.length <= 203) -> (∃ b, A = some (sumB b)) -> (∃ b, B = some (sumB b)) -> ∃ b, (A.bind fun r => match r with | .inl _ => some false | .inr _ => B.bind fun r => match r with | .inl _ => some false | .inr _ => some true) = some b /\ (b = true -> l.length <= 43 /\ ps.length <= 203) := by
  rintro A B hb ⟨a, rfl⟩ ⟨b, rfl⟩
  cases a with
  | false => exact ⟨false, rfl, fun h => by cases h⟩
  | true => cases b with
    | false => exact ⟨false, rfl, fun h => by cases h⟩
    | true => exact ⟨true, rfl, fun _ => hb⟩
 by_cases c1 : 6 < (l.length : Int)
 ·rw [if_pos c1]
  by_cases c2 : (l.length : Int) <= 40
  ·rw [if_pos c2]; exact ⟨_, rfl, fun h => by cases h⟩
  rw [if_neg c2]
  by_cases c3 : 43 < (l.length : Int)
  ·rw [if_pos c3]; exact ⟨_, rfl, fun h => by cases h⟩
  rw [if_neg c3]
  by_cases c4 : 10 < (ps.length : Int)
  ·rw [if_pos c4]
   by_cases c5 : (ps.length : Int) <= 200
   ·rw [if_pos c5]; exact ⟨_, rfl, fun h => by cases h⟩
   rw [if_neg c5]
   by_cases c6 : 203 < (ps.length : Int)
   ·rw [if_pos c6]; exact ⟨_, rfl, fun h => by cases h⟩
   rw [if_neg c6]
   exact fin ⟨by omega, by omega⟩ (short_l0_0 k l ps (by omega) l.length k 0 (by omega) (by omega)) (short_l1_0 k l ps (by omega) ps.length k 0 (by omega) (by omega))
  ·rw [if_neg c4]
   by_cases c6 : 203 < (ps.length : Int)
   ·rw [if_pos c6]; exact ⟨_, rfl, fun h => by cases h⟩
   rw [if_neg c6]
   exact fin ⟨by omega, by omega⟩ (short_l0_1 k l ps (by omega) l.length k 0 (by omega) (by omega)) (short_l1_1 k l ps (by omega) ps.length k 0 (by omega) (by omega))
 ·rw [if_neg c1]
  by_cases c3 : 43 < (l.length : Int)
  ·rw [if_pos c3]; exact ⟨_, rfl, fun h => by cases h⟩
  rw [if_neg c3]
  by_cases c4 : 10 < (ps.length : Int)
  ·rw [if_pos c4]
   by_cases c5 : (ps.length : Int) <= 200
   ·rw [if_pos c5]; exact ⟨_, rfl, fun h => by cases h⟩
   rw [if_neg c5]
   by_cases c6 : 203 < (ps.length : Int)
   ·rw [if_pos c6]; exact ⟨_, rfl, fun h => by cases h⟩
   rw [if_neg c6]
   exact fin ⟨by omega, by omega⟩ (short_l0_2 k l ps (by omega) l.length k 0 (by omega) (by omega)) (short_l1_2 k l ps (by omega) ps.length k 0 (by omega) (by omega))
  ·rw [if_neg c4]
   by_cases c6 : 203 < (ps.length : Int)
   ·rw [if_pos c6]; exact ⟨_, rfl, fun h => by cases h⟩
   rw [if_neg c6]
   exact fin ⟨by omega, by omega⟩ (short_l0_3 k l ps (by omega) l.length k 0 (by omega) (by omega)) (short_l1_3 k l ps (by omega) ps.length k 0 (by omega) (by omega))
structure Base (l : List SGlassBatch) (m0 : List (ByteArray × Int)) : Prop where
 has : ∀ n, mhas m0 n = seenB l l.length n
 val : ∀ j, j < l.length -> mget m0 (l.getD j default).Name = (l.getD j default).Count
theorem seenB_ex {l : List SGlassBatch} {n : ByteArray} (h : seenB l l.length n = true) : ∃ j, j < l.length /\ (l.getD j default).Name = n := by
 unfold seenB at h
 rw [List.take_length, List.any_eq_true] at h
 obtain ⟨x, hx, he⟩ := h
 obtain ⟨j, hj, rfl⟩ := List.mem_iff_getElem.1 hx
 exact ⟨j, hj, by rw [List.getD_eq_getElem?_getD, List.getElem?_eq_getElem hj]; exact (of_decide_eq_true he).symm⟩
theorem seenB_name {l : List SGlassBatch} {j : Nat} (hj : j < l.length) : seenB l l.length (l.getD j default).Name = true := seenB_mono l _ (show j + 1 <= l.length by omega) (seenB_at l _ hj rfl)
theorem base_bd {l : List SGlassBatch} {m0 : List (ByteArray × Int)} (hb : Base l m0) (hg : ∀ j, j < l.length -> GoodB l j) : ∀ n, seenB l l.length n = true -> 0 <= mget m0 n /\ mget m0 n <= 1000 := by
 intro n h
 obtain ⟨j, hj, rfl⟩ := seenB_ex h
 rw [hb.val j hj]; exact (hg j hj).count
theorem chkP_congr {l : List SGlassBatch} {m0 m1 : List (ByteArray × Int)} (h0 : Base l m0) (h1 : Base l m1) (ps : List SGlassPromise) : ∀ d i : Nat, chkP l m0 ps d i = chkP l m1 ps d i
 | 0, _ => rfl
 | d + 1, i => by
   have he : prE l m0 ps i = prE l m1 ps i := by
    unfold prE
    cases hs : seenB l l.length (ps.getD i default).Batch with
    | false => rfl
    | true =>
      obtain ⟨j, hj, hn⟩ := seenB_ex hs
      have : mget m0 (ps.getD i default).Batch = mget m1 (ps.getD i default).Batch := by rw [<- hn, h0.val j hj, h1.val j hj]
      rw [this]
   simp only [chkP]
   rw [he, chkP_congr h0 h1 ps d (i + 1)]
theorem prE_zero {l : List SGlassBatch} {m0 : List (ByteArray × Int)} {ps : List SGlassPromise} {i : Nat} (h : prE l m0 ps i = 0) : seenB l l.length (ps.getD i default).Batch = true /\ 0 < mget m0 (ps.getD i default).Batch - cntP (ps.take i) (ps.getD i default).Batch := by
 unfold prE at h
 cases h1 : nameB (ps.getD i default).Mirror with
 | false => rw [h1] at h; simp at h
 | true =>
   rw [h1] at h
   cases h2 : seenM ps i (ps.getD i default).Mirror with
   | true => rw [h2] at h; simp at h
   | false =>
     rw [h2] at h
     cases h3 : seenB l l.length (ps.getD i default).Batch with
     | false => rw [h3] at h; simp at h
     | true =>
       rw [h3] at h
       cases h4 : decide (0 < mget m0 (ps.getD i default).Batch - cntP (ps.take i) (ps.getD i default).Batch) with
       | false => rw [h4] at h; simp at h
       | true => exact ⟨rfl, of_decide_eq_true h4⟩
theorem chkP_zero {l : List SGlassBatch} {m0 : List (ByteArray × Int)} {ps : List SGlassPromise} : ∀ d i : Nat, chkP l m0 ps d i = 0 -> ∀ j, i <= j -> j < i + d -> prE l m0 ps j = 0
 | 0, i, _, j, h1, h2 => by omega
 | d + 1, i, h, j, h1, h2 => by
   simp only [chkP] at h
   cases hd : decide (prE l m0 ps i = 0) with
   | false => rw [hd] at h; exact absurd h (of_decide_eq_false hd)
   | true =>
     rw [hd] at h
     rcases Nat.eq_or_lt_of_le h1 with rfl | h3
     ·exact of_decide_eq_true hd
     ·exact chkP_zero d (i + 1) h j (by omega) (by omega)
theorem left_nn {l : List SGlassBatch} {m0 : List (ByteArray × Int)} {ps : List SGlassPromise} (hm : ∀ n, seenB l l.length n = true -> 0 <= mget m0 n) (hz : ∀ j, j < ps.length -> prE l m0 ps j = 0) : ∀ i : Nat, i <= ps.length -> ∀ n, seenB l l.length n = true -> 0 <= mget m0 n - cntP (ps.take i) n := by
 intro i
 induction i with
 | zero => intro _ n hn; have := hm n hn; simp only [List.take_zero, cntP]; omega
 | succ i ih =>
   intro hi n hn
   have h1 := ih (by omega) n hn
   have h2 := (prE_zero (hz i (by omega))).2
   rw [cntP_succ ps n (by omega)]
   by_cases e : (ps.getD i default).Batch = n
   ·rw [if_pos e]; rw [e] at h2; omega
   ·rw [if_neg e]; omega
theorem left_l (k : Nat) (l : List SGlassBatch) (j : Nat) (hj : j < l.length) (qs : List SGlassPromise) (hq : qs.length <= 203) : ∀ (d fuel i : Nat) (x : Int), qs.length = i + d -> d < fuel -> -100000 + (d : Int) <= x -> x <= 100000 -> nspeculumref03_left_l0_0 k l qs (j : Int) fuel x (i : Int) = some (x - cntP (qs.drop i) (l.getD j default).Name) := by
 intro d
 induction d with
 | zero =>
   intro fuel i x h hf h1 h2
   obtain ⟨g, rfl⟩ : ∃ g, fuel = g + 1 := ⟨fuel - 1, by omega⟩
   rw [nspeculumref03_left_l0_0.eq_2, if_neg (by omega), List.drop_eq_nil_of_le (by omega)]; simp only [cntP, Int.sub_zero]
 | succ d ih =>
   intro fuel i x h hf h1 h2
   obtain ⟨g, rfl⟩ : ∃ g, fuel = g + 1 := ⟨fuel - 1, by omega⟩
   rw [nspeculumref03_left_l0_0.eq_2, if_pos (by omega), if_pos (by omega), if_pos (by omega), Int.toNat_natCast, Int.toNat_natCast, big_succ (by omega), drop_get (y := qs) (i := i) (by omega) default]
   simp only [cntP]
   by_cases c : (qs.getD i default).Batch = (l.getD j default).Name
   ·rw [if_pos c, if_pos c, w64_id (by omega) (by omega), ih g (i + 1) _ (by omega) (by omega) (by omega) (by omega)]; congr 1; omega
   ·rw [if_neg c, if_neg c, ih g (i + 1) _ (by omega) (by omega) (by omega) (by omega)]; congr 1; omega
theorem left_r (k : Nat) (hk : 1000 < k) (l : List SGlassBatch) (j : Nat) (hj : j < l.length) (hc : 0 <= (l.getD j default).Count /\ (l.getD j default).Count <= 1000) (qs : List SGlassPromise) (hq : qs.length <= 203) : nspeculumref03_left k l qs (j : Int) = some ((l.getD j default).Count - cntP qs (l.getD j default).Name) := by
 have h := left_l k l j hj qs hq qs.length k 0 (l.getD j default).Count (by omega) (by omega) (by omega) (by omega)
 rw [List.drop_zero] at h
 unfold nspeculumref03_left
 rw [if_pos (by omega), Int.toNat_natCast, show nspeculumref03_left_l0_0 k l qs (j : Int) k _ 0 = _ from h]; rfl
theorem mir_r (k : Nat) (l : List SGlassBatch) (ps : List SGlassPromise) (hp : ps.length <= 203) (i : Nat) (hi : i < ps.length) : ∀ (d fuel x : Nat), i = x + d -> d < fuel -> nspeculumref03_CheckPromises_l1_0 k l ps (i : Int) fuel (x : Int) = some (sumB (!(((ps.take i).drop x).any fun g => decide ((ps.getD i default).Mirror = g.Mirror)))) := by
 intro d
 induction d with
 | zero =>
   intro fuel x h hf
   obtain ⟨g, rfl⟩ : ∃ g, fuel = g + 1 := ⟨fuel - 1, by omega⟩
   rw [nspeculumref03_CheckPromises_l1_0.eq_2, if_neg (by omega), List.drop_eq_nil_of_le (by rw [List.length_take]; omega)]; rfl
 | succ d ih =>
   intro fuel x h hf
   obtain ⟨g, rfl⟩ : ∃ g, fuel = g + 1 := ⟨fuel - 1, by omega⟩
   have ht : (ps.take i).getD x default = ps.getD x default := by
    rw [List.getD_eq_getElem?_getD, List.getD_eq_getElem?_getD, List.getElem?_take, if_pos (by omega)]
   rw [nspeculumref03_CheckPromises_l1_0.eq_2, if_pos (by omega), if_pos (by omega), if_pos (by omega), Int.toNat_natCast, Int.toNat_natCast, big_succ (by omega), drop_get (y := ps.take i) (i := x) (by rw [List.length_take]; omega) default, List.any_cons, ht, ih g (x + 1) (by omega) (by omega)]
   by_cases c : (ps.getD x default).Mirror = (ps.getD i default).Mirror
   ·rw [if_pos c, decide_eq_true c.symm]; rfl
   ·rw [if_neg c, decide_eq_false (fun h => c h.symm), Bool.false_or]
theorem prom_r (k : Nat) (hk : 1000 < k) (l : List SGlassBatch) (hl : l.length <= 43) (hg : ∀ j, j < l.length -> GoodB l j) (m0 : List (ByteArray × Int)) (hb : Base l m0) (ps : List SGlassPromise) (hp : ps.length <= 203) : ∀ (d fuel i : Nat), ps.length = i + d -> d < fuel -> nspeculumref03_CheckPromises_l0_0 k l ps fuel (i : Int) = some (errI (chkP l m0 ps d i)) := by
 intro d
 induction d with
 | zero =>
   intro fuel i h hf
   obtain ⟨g, rfl⟩ : ∃ g, fuel = g + 1 := ⟨fuel - 1, by omega⟩
   rw [nspeculumref03_CheckPromises_l0_0.eq_2, if_neg (by omega)]; rfl
 | succ d ih =>
   intro fuel i h hf
   obtain ⟨g, rfl⟩ : ∃ g, fuel = g + 1 := ⟨fuel - 1, by omega⟩
   have hi : i < ps.length := by omega
   have hm := mir_r k l ps hp i hi i k 0 (by omega) (by omega)
   rw [List.drop_zero] at hm
   rw [nspeculumref03_CheckPromises_l0_0.eq_2, if_pos (by omega), if_pos (by omega), Int.toNat_natCast, big_succ (by omega), name_ref k (by omega), Option.bind_some, show nspeculumref03_CheckPromises_l1_0 k l ps (i : Int) k 0 = _ from hm, Option.bind_some, ih g (i + 1) (by omega) (by omega)]
   have hsm : ((ps.take i).any fun g => decide ((ps.getD i default).Mirror = g.Mirror)) = seenM ps i (ps.getD i default).Mirror := rfl
   rw [hsm]
   rcases Bool.eq_false_or_eq_true (nameB (ps.getD i default).Mirror) with hn | hn
   ·rcases Bool.eq_false_or_eq_true (seenM ps i (ps.getD i default).Mirror) with hs | hs
    ·have he : prE l m0 ps i = 5 := by unfold prE; simp only [hn, hs, Bool.not_true]
     simp only [chkP, he, hn, hs, if_true]; rfl
    ·rcases batAt_any k (by omega) l hl (ps.getD i default).Batch with ⟨j, e1, e3, e4, e5⟩ | ⟨e1, e2⟩
     ·have hse : seenB l l.length (ps.getD i default).Batch = true := by rw [<- e5]; exact seenB_name e3
      have hlf := left_r k hk l j e3 (hg j e3).count (ps.take i) (by rw [List.length_take]; omega)
      have hv : mget m0 (ps.getD i default).Batch = (l.getD j default).Count := by rw [<- e5]; exact hb.val j e3
      have hsl : sl ps 0 i = ps.take i := by unfold sl; rw [List.drop_zero, Nat.sub_zero]
      rw [e5] at hlf
      by_cases hd : 0 < mget m0 (ps.getD i default).Batch - cntP (ps.take i) (ps.getD i default).Batch
      ·have he : prE l m0 ps i = 0 := by unfold prE; simp only [hn, hs, hse, decide_eq_true hd, Bool.not_false]
       rw [hv] at hd
       simp only [chkP, he, hn, hs, e1, if_true, Bool.not_false, sumB, Option.bind_some, hsl, hlf]
       rw [if_neg (by omega), if_pos (by omega), if_neg (by omega)]; rfl
      ·have he : prE l m0 ps i = 20 := by unfold prE; simp only [hn, hs, hse, decide_eq_false hd, Bool.not_false]
       rw [hv] at hd
       simp only [chkP, he, hn, hs, e1, if_true, Bool.not_false, sumB, Option.bind_some, hsl, hlf]
       rw [if_neg (by omega), if_pos (by omega), if_pos (by omega)]; rfl
     ·have he : prE l m0 ps i = 6 := by unfold prE; simp only [hn, hs, e2, Bool.not_false]
      simp only [chkP, he, hn, hs, e1, if_true, Bool.not_false, sumB, Option.bind_some]
      rw [if_pos (by omega)]; rfl
   ·have he : prE l m0 ps i = 4 := by unfold prE; simp only [hn]
    simp only [chkP, he, hn, Bool.false_eq_true, if_false]; rfl
def promS (l : List SGlassBatch) (m0 : List (ByteArray × Int)) (ps : List SGlassPromise) : Int := if batS l = 0 then (if 200 < ps.length then 8 else chkP l m0 ps ps.length 0) else batS l
theorem promS_zero {l : List SGlassBatch} {m0 : List (ByteArray × Int)} {ps : List SGlassPromise} (h : promS l m0 ps = 0) : batS l = 0 /\ ps.length <= 200 /\ chkP l m0 ps ps.length 0 = 0 := by
 unfold promS at h
 split at h
 ·split at h
  ·omega
  ·exact ⟨‹_›, by omega, h⟩
 ·exact absurd h ‹_›
theorem prom_ref (k : Nat) (hk : 1000 < k) (l : List SGlassBatch) (hl : l.length <= 43) (m0 : List (ByteArray × Int)) (hb : (∀ j, j < l.length -> GoodB l j) -> Base l m0) (ps : List SGlassPromise) (hp : ps.length <= 203) : nspeculumref03_CheckPromises k l ps = some (promS l m0 ps) := by
 unfold nspeculumref03_CheckPromises promS
 rw [checkBatches_r k hk l hl, Option.bind_some]
 by_cases h0 : batS l = 0
 ·rw [if_pos h0, if_pos h0]
  by_cases c : 200 < ps.length
  ·rw [if_pos (by omega), if_pos c]
  ·have hg := (batS_zero h0).2
   rw [if_neg (by omega), if_neg c, show nspeculumref03_CheckPromises_l0_0 k l ps k 0 = _ from prom_r k hk l hl hg m0 (hb hg) ps hp ps.length k 0 (by omega) (by omega), Option.bind_some]
   unfold errI
   cases hd : decide (chkP l m0 ps ps.length 0 = 0) with
   | true => dsimp only; rw [of_decide_eq_true hd]
   | false => rfl
 ·rw [if_neg h0, if_neg h0]
theorem prom_p (k : Nat) (hk : 1000 < k) (hk2 : k <= 100000000000000000000) (l : List SGlassBatch) (hl : l.length <= 43) (m0 : List (ByteArray × Int)) (hb : (∀ j, j < l.length -> GoodB l j) -> Base l m0) (ps : List SGlassPromise) (hp : ps.length <= 203) : nblank_CheckPromises k l ps = some (promS l m0 ps) := by
 unfold nblank_CheckPromises promS
 rw [checkBatches_p k hk hk2 l hl, Option.bind_some]
 by_cases h0 : batS l = 0
 ·rw [if_pos h0, if_pos h0]
  by_cases c : 200 < ps.length
  ·rw [if_pos (by omega), if_pos c]
  ·have hg := (batS_zero h0).2
   obtain ⟨m1, e1, e2, e3⟩ := byNameCheckPromises k (by omega) l ps hl
   have hb1 : Base l m1 := ⟨e2, e3 (fun j hj => (hg j hj).uniq)⟩
   rw [if_neg (by omega), if_neg c, e1, Option.bind_some, chkP_congr (hb hg) hb1]
   rcases takeCheckPromises k hk hk2 l ps hp m1 (base_bd hb1 hg) ps.length k 0 m1 [] (by omega) (by omega) e2 (fun n _ => by simp [cntP]) (fun n => by simp [mhas, seenM]) (fun n h => by cases h) with ⟨h1, h2⟩ | ⟨h1, z, h2, _⟩
   ·rw [show nblank_CheckPromises_i22_l1_0 k l ps k m1 [] 0 = _ from h2]; rfl
   ·rw [show nblank_CheckPromises_i22_l1_0 k l ps k m1 [] 0 = _ from h2, h1]; rfl
 ·rw [if_neg h0, if_neg h0]
def lvF (l : List SGlassBatch) (ps : List SGlassPromise) (i : Nat) : Int := (l.getD i default).Count - cntP ps (l.getD i default).Name
theorem set_next {f : Nat -> Int} {y : List Int} {i : Nat} (hi : i < y.length) : ((List.range i).map f ++ y.drop i).set i (f i) = (List.range (i + 1)).map f ++ y.drop (i + 1) := by
 rw [List.set_append, if_neg (by simp), List.length_map, List.length_range, Nat.sub_self, List.drop_eq_getElem_cons hi, List.set_cons_zero, List.range_succ, List.map_append, List.append_assoc]
 rfl
theorem leftOf_l (k : Nat) (l : List SGlassBatch) (hl : l.length <= 43) (ps : List SGlassPromise) (z : List (ByteArray × Int)) (hz : ∀ n, mhas z n = seenB l l.length n) (hv : ∀ i, i < l.length -> mget z (l.getD i default).Name = lvF l ps i) (y0 : List Int) (hy0 : y0.length = l.length) : ∀ (d fuel i : Nat), l.length = i + d -> d < fuel -> nblank_LeftOf_l0_1 k l z fuel ((List.range i).map (lvF l ps) ++ y0.drop i) (i : Int) = some (z, (List.range l.length).map (lvF l ps)) := by
 intro d
 induction d with
 | zero =>
   intro fuel i h hf
   obtain ⟨g, rfl⟩ : ∃ g, fuel = g + 1 := ⟨fuel - 1, by omega⟩
   rw [nblank_LeftOf_l0_1.eq_2, if_neg (by omega), List.drop_eq_nil_of_le (by omega), List.append_nil, show i = l.length by omega]
 | succ d ih =>
   intro fuel i h hf
   obtain ⟨g, rfl⟩ : ∃ g, fuel = g + 1 := ⟨fuel - 1, by omega⟩
   rw [nblank_LeftOf_l0_1.eq_2, if_pos (by omega), if_pos (by omega), Int.toNat_natCast, if_pos (by rw [hz]; exact seenB_name (by omega)), if_pos (by rw [List.length_append, List.length_map, List.length_range, List.length_drop]; omega), hv i (by omega), set_next (by omega), big_succ (by omega)]
   exact ih g (i + 1) (by omega) (by omega)
theorem leftOf_p (k : Nat) (hk : 1000 < k) (hk2 : k <= 100000000000000000000) (l : List SGlassBatch) (hl : l.length <= 43) (m0 : List (ByteArray × Int)) (hb : (∀ j, j < l.length -> GoodB l j) -> Base l m0) (ps : List SGlassPromise) (hp : ps.length <= 203) : nblank_LeftOf k l ps = some (if promS l m0 ps = 0 then ((List.range l.length).map (lvF l ps), 0) else ([], promS l m0 ps)) := by
 unfold nblank_LeftOf promS
 rw [checkBatches_p k hk hk2 l hl, Option.bind_some]
 by_cases h0 : batS l = 0
 ·rw [if_pos h0, if_pos h0]
  by_cases c : 200 < ps.length
  ·rw [if_pos (by omega), if_pos c]; rfl
  ·have hg := (batS_zero h0).2
   obtain ⟨m1, e1, e2, e3⟩ := byNameLeftOf k (by omega) l ps hl
   have hb1 : Base l m1 := ⟨e2, e3 (fun j hj => (hg j hj).uniq)⟩
   rw [if_neg (by omega), if_neg c, e1, Option.bind_some, chkP_congr (hb hg) hb1]
   rcases takeLeftOf k hk hk2 l ps hp m1 (base_bd hb1 hg) ps.length k 0 m1 [] (by omega) (by omega) e2 (fun n _ => by simp [cntP]) (fun n => by simp [mhas, seenM]) (fun n h => by cases h) with ⟨h1, h2⟩ | ⟨h1, z, h2, h3, h4⟩
   ·rw [show nblank_LeftOf_i22_l1_0 k l ps k m1 [] 0 = _ from h2, Option.bind_some]
    dsimp only
    rw [if_neg h1, if_neg h1]
   ·have hll := leftOf_l k l hl ps z h3 (fun i hi => by rw [h4 _ (seenB_name hi), hb1.val i hi]; rfl) (List.replicate l.length 0) (by simp) l.length k 0 (by omega) (by omega)
    rw [List.range_zero, List.map_nil, List.nil_append, List.drop_zero] at hll
    rw [show nblank_LeftOf_i22_l1_0 k l ps k m1 [] 0 = _ from h2, Option.bind_some, if_pos h1]
    dsimp only
    rw [if_pos (by omega), Int.toNat_natCast, show nblank_LeftOf_l0_1 k l z k (List.replicate l.length 0) 0 = _ from hll]; rfl
 ·rw [if_neg h0, if_neg h0, if_neg h0]
theorem leftOf_rl (k : Nat) (hk : 1000 < k) (l : List SGlassBatch) (hl : l.length <= 43) (hg : ∀ j, j < l.length -> GoodB l j) (ps : List SGlassPromise) (hp : ps.length <= 203) : ∀ (d fuel i : Nat), l.length = i + d -> d < fuel -> nspeculumref03_LeftOf_l0_0 k l ps fuel ((List.range i).map (lvF l ps)) (i : Int) = some ((List.range l.length).map (lvF l ps)) := by
 intro d
 induction d with
 | zero =>
   intro fuel i h hf
   obtain ⟨g, rfl⟩ : ∃ g, fuel = g + 1 := ⟨fuel - 1, by omega⟩
   rw [nspeculumref03_LeftOf_l0_0.eq_2, if_neg (by omega), show i = l.length by omega]
 | succ d ih =>
   intro fuel i h hf
   obtain ⟨g, rfl⟩ : ∃ g, fuel = g + 1 := ⟨fuel - 1, by omega⟩
   rw [nspeculumref03_LeftOf_l0_0.eq_2, if_pos (by omega), left_r k hk l i (by omega) (hg i (by omega)).count ps hp, Option.bind_some, if_pos (by simp; omega), big_succ (by omega)]
   have := ih g (i + 1) (by omega) (by omega)
   rw [List.range_succ, List.map_append] at this
   exact this
theorem leftOf_r (k : Nat) (hk : 1000 < k) (l : List SGlassBatch) (hl : l.length <= 43) (hg : ∀ j, j < l.length -> GoodB l j) (ps : List SGlassPromise) (hp : ps.length <= 203) : nspeculumref03_LeftOf k l ps = some ((List.range l.length).map (lvF l ps)) := by
 unfold nspeculumref03_LeftOf
 rw [show nspeculumref03_LeftOf_l0_0 k l ps k [] 0 = _ from leftOf_rl k hk l hl hg ps hp l.length k 0 (by omega) (by omega)]; rfl
theorem name_ne {s : ByteArray} (h : nameB s = true) : s ≠ (⟨#[]⟩ : ByteArray) := by
 rintro rfl
 unfold nameB at h
 have : inR 1 12 (((⟨#[]⟩ : ByteArray).size : Nat) : Int) = false := rfl
 rw [this] at h
 cases h
theorem first_l (k : Nat) (hk : 1000 < k) (l : List SGlassBatch) (hl : l.length <= 43) (hg : ∀ j, j < l.length -> GoodB l j) (ps : List SGlassPromise) (hp : ps.length <= 203) (w : A24) (z : List (ByteArray × Int)) (hz : ∀ n, mhas z n = seenB l l.length n) (hv : ∀ i, i < l.length -> mget z (l.getD i default).Name = lvF l ps i) (hnn : ∀ i, i < l.length -> 0 <= lvF l ps i) : ∀ (d fuel i : Nat) (x10 : ByteArray) (x11 x8 : Int), l.length = i + d -> d < fuel -> (x8 = -1 /\ x10 = (⟨#[]⟩ : ByteArray) \/ ∃ j : Nat, x8 = (j : Int) /\ j < l.length /\ x10 = (l.getD j default).Name /\ x11 = w64 (w64 ((l.getD j default).Diameter * (l.getD j default).Diameter) * (l.getD j default).Thick)) ->
 ∃ r10 r8, nblank_FirstBatch_l0_1 k l w z fuel x10 x11 (i : Int) = some r10 /\ nspeculumref03_FirstBatch_l0_0 k l ps w fuel x8 (i : Int) = some r8 /\ (r8 = -1 /\ r10 = (⟨#[]⟩ : ByteArray) \/ ∃ j : Nat, r8 = (j : Int) /\ j < l.length /\ r10 = (l.getD j default).Name) := by
 intro d
 induction d with
 | zero =>
   intro fuel i x10 x11 x8 h hf hx
   obtain ⟨g, rfl⟩ : ∃ g, fuel = g + 1 := ⟨fuel - 1, by omega⟩
   refine ⟨x10, x8, by rw [nblank_FirstBatch_l0_1.eq_2, if_neg (by omega)], by rw [nspeculumref03_FirstBatch_l0_0.eq_2, if_neg (by omega)], ?_⟩
   rcases hx with hx | ⟨j, h1, h2, h3, _⟩
   ·exact .inl hx
   ·exact .inr ⟨j, h1, h2, h3⟩
 | succ d ih =>
   intro fuel i x10 x11 x8 h hf hx
   obtain ⟨g, rfl⟩ : ∃ g, fuel = g + 1 := ⟨fuel - 1, by omega⟩
   have hi : i < l.length := by omega
   have hni := hnn i hi
   rw [nblank_FirstBatch_l0_1.eq_2, nspeculumref03_FirstBatch_l0_0.eq_2]
   simp only [Int.toNat_natCast]
   simp only [if_pos (show (i : Int) < (l.length : Int) by omega), if_pos (show 0 <= (i : Int) /\ (i : Int) < (l.length : Int) by omega)]
   rw [if_pos (by rw [hz]; exact seenB_name hi), hv i hi, left_r k hk l i hi (hg i hi).count ps hp, Option.bind_some, big_succ (by omega)]
   show ∃ r10 r8, (if lvF l ps i = 0 then _ else _) = some r10 /\ (if lvF l ps i < 1 then _ else _) = some r8 /\ _
   by_cases c1 : lvF l ps i = 0
   ·rw [if_pos c1, if_pos (by omega)]; exact ih g (i + 1) _ _ _ (by omega) (by omega) hx
   ·rw [if_neg c1, if_neg (show ¬lvF l ps i < 1 by omega)]
    by_cases c2 : (l.getD i default).Diameter < w.e0
    ·rw [if_pos c2, if_pos c2]; exact ih g (i + 1) _ _ _ (by omega) (by omega) hx
    ·rw [if_neg c2, if_neg c2]
     by_cases c3 : (l.getD i default).Thick < w.e1
     ·rw [if_pos c3, if_pos c3]; exact ih g (i + 1) _ _ _ (by omega) (by omega) hx
     ·rw [if_neg c3, if_neg c3]
      rcases hx with ⟨h1, h2⟩ | ⟨j, h1, h2, h3, h4⟩
      ·rw [if_pos h2, if_pos (by omega)]
       exact ih g (i + 1) _ _ _ (by omega) (by omega) (.inr ⟨i, rfl, hi, rfl, rfl⟩)
      ·subst h1
       rw [if_neg (by rw [h3]; exact name_ne (hg j h2).name), if_neg (show ¬((j : Int) < 0) by omega), if_pos (show 0 <= (j : Int) /\ (j : Int) < (l.length : Int) by omega), Int.toNat_natCast, <- h4]
       by_cases c4 : w64 (w64 ((l.getD i default).Diameter * (l.getD i default).Diameter) * (l.getD i default).Thick) < x11
       ·rw [if_pos c4, if_pos c4]
        exact ih g (i + 1) _ _ _ (by omega) (by omega) (.inr ⟨i, rfl, hi, rfl, rfl⟩)
       ·rw [if_neg c4, if_neg c4]
        exact ih g (i + 1) _ _ _ (by omega) (by omega) (.inr ⟨j, rfl, h2, h3, h4⟩)
theorem first_both (k : Nat) (hk : 1000 < k) (hk2 : k <= 100000000000000000000) (l : List SGlassBatch) (hl : l.length <= 43) (m0 : List (ByteArray × Int)) (hb : (∀ j, j < l.length -> GoodB l j) -> Base l m0) (ps : List SGlassPromise) (hp : ps.length <= 203) (w : A24) : (promS l m0 ps = 0 /\ ∃ r, nblank_FirstBatch k l ps w = some r /\ nspeculumref03_FirstBatch k l ps w = some r) \/ (promS l m0 ps ≠ 0 /\ nblank_FirstBatch k l ps w = some (⟨#[]⟩, promS l m0 ps)) := by
 unfold nblank_FirstBatch nspeculumref03_FirstBatch promS
 rw [checkBatches_p k hk hk2 l hl, Option.bind_some]
 by_cases h0 : batS l = 0
 ·rw [if_pos h0, if_pos h0]
  by_cases c : 200 < ps.length
  ·right; rw [if_pos c, if_pos (show (200 : Int) < (ps.length : Int) by omega)]; exact ⟨by decide, rfl⟩
  ·have hg := (batS_zero h0).2
   obtain ⟨m1, e1, e2, e3⟩ := byNameFirstBatch k (by omega) l ps w hl
   have hb1 : Base l m1 := ⟨e2, e3 (fun j hj => (hg j hj).uniq)⟩
   rw [if_neg c, if_neg (show ¬(200 : Int) < (ps.length : Int) by omega), e1, Option.bind_some, chkP_congr (hb hg) hb1]
   rcases takeFirstBatch k hk hk2 l ps w hp m1 (base_bd hb1 hg) ps.length k 0 m1 [] (by omega) (by omega) e2 (fun n _ => by simp [cntP]) (fun n => by simp [mhas, seenM]) (fun n h => by cases h) with ⟨h1, h2⟩ | ⟨h1, z, h2, h3, h4⟩
   ·right
    rw [show nblank_FirstBatch_i22_l1_0 k l ps w k m1 [] 0 = _ from h2, Option.bind_some]
    dsimp only
    rw [if_neg h1]; exact ⟨h1, rfl⟩
   ·left
    have hpz := chkP_zero ps.length 0 h1
    have hv : ∀ i, i < l.length -> mget z (l.getD i default).Name = lvF l ps i := fun i hi => by rw [h4 _ (seenB_name hi), hb1.val i hi]; rfl
    have hnn : ∀ i, i < l.length -> 0 <= lvF l ps i := fun i hi => by
     have := left_nn (fun n hn => (base_bd hb1 hg n hn).1) (fun j hj => hpz j (by omega) (by omega)) ps.length (Nat.le_refl _) _ (seenB_name hi)
     rw [List.take_length, hb1.val i hi] at this; exact this
    obtain ⟨r10, r8, f1, f2, f3⟩ := first_l k hk l hl hg ps hp w z h3 hv hnn l.length k 0 ⟨#[]⟩ 0 (-1) (by omega) (by omega) (.inl ⟨rfl, rfl⟩)
    refine ⟨h1, ?_⟩
    rw [show nblank_FirstBatch_i22_l1_0 k l ps w k m1 [] 0 = _ from h2, Option.bind_some]
    dsimp only
    rw [isw, wib, Option.bind_some, Option.bind_some]
    cases inR 1 1000 w.e0 with
    | false => exact ⟨_, rfl, rfl⟩
    | true =>
      rw [if_pos rfl, if_pos rfl, isw, wib, Option.bind_some, Option.bind_some]
      cases inR 1 500 w.e1 with
      | false => exact ⟨_, rfl, rfl⟩
      | true =>
        rw [if_pos rfl, if_pos rfl, show nblank_FirstBatch_l0_1 k l w z k ⟨#[]⟩ 0 0 = _ from f1, show nspeculumref03_FirstBatch_l0_0 k l ps w k (-1) 0 = _ from f2, Option.bind_some, Option.bind_some]
        rcases f3 with ⟨g1, g2⟩ | ⟨j, g1, g2, g3⟩
        ·rw [if_pos g2, if_pos (by omega)]; exact ⟨_, rfl, rfl⟩
        ·subst g1
         rw [if_neg (by rw [g3]; exact name_ne (hg j g2).name), if_neg (by omega), if_pos (by omega), Int.toNat_natCast, g3]; exact ⟨_, rfl, rfl⟩
 ·right; rw [if_neg h0, if_neg h0]; exact ⟨h0, rfl⟩
def sumF (f : Nat -> Int) : Nat -> Int
 | 0 => 0
 | n + 1 => sumF f n + f n
theorem ind_sum {l : List SGlassBatch} (hg : ∀ j, j < l.length -> GoodB l j) (b : ByteArray) : ∀ n : Nat, n <= l.length -> sumF (fun i => if b = (l.getD i default).Name then 1 else 0) n = if seenB l n b = true then 1 else 0
 | 0, _ => by simp [sumF, seenB]
 | n + 1, h => by
   have ih := ind_sum hg b n (by omega)
   simp only [sumF]
   rw [ih, seenB_succ l n (by omega)]
   by_cases e : b = (l.getD n default).Name
   ·have hu := (hg n (by omega)).uniq
    rw [<- e] at hu
    rw [if_pos e, decide_eq_true e, hu]; simp
   ·rw [if_neg e, decide_eq_false e, Bool.false_or]; omega
theorem sumF_add (f g : Nat -> Int) : ∀ n : Nat, sumF (fun i => f i + g i) n = sumF f n + sumF g n
 | 0 => by simp [sumF]
 | n + 1 => by simp only [sumF]; rw [sumF_add f g n]; omega
theorem cnt_all {l : List SGlassBatch} (hg : ∀ j, j < l.length -> GoodB l j) : ∀ qs : List SGlassPromise, (∀ p ∈ qs, seenB l l.length p.Batch = true) -> sumF (fun i => cntP qs (l.getD i default).Name) l.length = (qs.length : Int)
 | [], _ => by
   have : ∀ n : Nat, sumF (fun i => cntP [] (l.getD i default).Name) n = 0 := by
    intro n
    induction n with
    | zero => rfl
    | succ n ih => simp only [sumF]; rw [ih]; rfl
   rw [this]; rfl
 | p :: qs, h => by
   have h1 := cnt_all hg qs (fun q hq => h q (by simp [hq]))
   have h2 := ind_sum hg p.Batch l.length (Nat.le_refl _)
   rw [if_pos (h p (by simp))] at h2
   have e : (fun i => cntP (p :: qs) (l.getD i default).Name) = fun i => (if p.Batch = (l.getD i default).Name then 1 else 0) + cntP qs (l.getD i default).Name := by
    funext i; rfl
   rw [e, sumF_add, h1, h2, List.length_cons]; omega
theorem getD_map {f : Nat -> Int} {n z : Nat} (h : z < n) : ((List.range n).map f).getD z 0 = f z := by
 rw [List.getD_eq_getElem?_getD, List.getElem?_map, List.getElem?_range h]; rfl
theorem sum_l (k : Nat) (l : List SGlassBatch) (hl : l.length <= 43) (hg : ∀ j, j < l.length -> GoodB l j) (ps : List SGlassPromise) (hp : ps.length <= 203) : ∀ (d fuel i : Nat) (x : Int), l.length = i + d -> d < fuel -> x = (ps.length : Int) - sumF (fun i => cntP ps (l.getD i default).Name) i -> -(i : Int) * 1000 <= x - ps.length -> x <= 203 -> nspeculumlaw03_BlankStocks_l0_0 k l ((List.range l.length).map (lvF l ps), 0) fuel x (i : Int) = some ((ps.length : Int) - sumF (fun i => cntP ps (l.getD i default).Name) l.length) := by
 intro d
 induction d with
 | zero =>
   intro fuel i x h hf hx h1 h2
   obtain ⟨g, rfl⟩ : ∃ g, fuel = g + 1 := ⟨fuel - 1, by omega⟩
   rw [nspeculumlaw03_BlankStocks_l0_0.eq_2, if_neg (by omega), hx, show i = l.length by omega]
 | succ d ih =>
   intro fuel i x h hf hx h1 h2
   obtain ⟨g, rfl⟩ : ∃ g, fuel = g + 1 := ⟨fuel - 1, by omega⟩
   have hi : i < l.length := by omega
   have hc := (hg i hi).count
   have hn := cntP_len (l.getD i default).Name ps
   rw [nspeculumlaw03_BlankStocks_l0_0.eq_2]
   dsimp only
   rw [List.length_map, List.length_range, if_pos (by omega), if_pos (by omega), if_pos (by omega), Int.toNat_natCast, getD_map hi, big_succ (by omega)]
   have hlv : lvF l ps i = (l.getD i default).Count - cntP ps (l.getD i default).Name := rfl
   rw [w64_id (n := x + lvF l ps i) (by omega) (by omega), w64_id (by omega) (by omega)]
   refine ih g (i + 1) _ (by omega) (by omega) ?_ ?_ ?_
   ·simp only [sumF]; omega
   ·omega
   ·omega
theorem law_stocks (k : Nat) (hk : k = 100000000000000000000) (l : List SGlassBatch) (ps : List SGlassPromise) (w : A24) : nspeculumlaw03_BlankStocks k l ps w = some true := by
 unfold nspeculumlaw03_BlankStocks
 obtain ⟨b, hb, hb2⟩ := short_any k (by omega) l ps
 rw [show nawake k = some true from rfl, Option.bind_some, if_pos rfl, hb, Option.bind_some]
 cases b with
 | false => rfl
 | true =>
   obtain ⟨hl, hp⟩ := hb2 rfl
   have hst : nspeculumlaw03_stock k l = some l := by unfold nspeculumlaw03_stock; rw [if_pos (by simp; omega)]; rfl
   have hpr : nspeculumlaw03_promises k ps = some ps := by unfold nspeculumlaw03_promises; rw [if_pos (by simp; omega)]; rfl
   obtain ⟨m0, _, e2, e3⟩ := byNameLeftOf k (by omega) l ps hl
   have hbase : (∀ j, j < l.length -> GoodB l j) -> Base l m0 := fun hg => ⟨e2, e3 (fun j hj => (hg j hj).uniq)⟩
   rw [if_pos rfl, hst, Option.bind_some, hpr, Option.bind_some, leftOf_p k (by omega) (by omega) l hl m0 hbase ps hp, Option.bind_some, prom_ref k (by omega) l hl m0 hbase ps hp, checkBatches_p k (by omega) (by omega) l hl, checkBatches_r k (by omega) l hl, prom_p k (by omega) (by omega) l hl m0 hbase ps hp]
   rcases first_both k (by omega) (by omega) l hl m0 hbase ps hp w with ⟨h0, r, r1, r2⟩ | ⟨h0, r1⟩
   ·obtain ⟨hb0, h200, hc0⟩ := promS_zero h0
    have hg := (batS_zero hb0).2
    have hbs := hbase hg
    have hpz := chkP_zero ps.length 0 hc0
    have hall : ∀ p ∈ ps, seenB l l.length p.Batch = true := fun p hpm => by
     obtain ⟨j, hj, rfl⟩ := List.mem_iff_getElem.1 hpm
     have := (prE_zero (hpz j (by omega) (by omega))).1
     rw [List.getD_eq_getElem?_getD, List.getElem?_eq_getElem hj] at this; exact this
    have hsum := sum_l k l hl hg ps hp l.length k 0 (ps.length : Int) (by omega) (by omega) (by simp [sumF]) (by omega) (by omega)
    rw [cnt_all hg ps hall] at hsum
    have hin := ints_same k (by omega) ((List.range l.length).map (lvF l ps)) (by simp; omega)
    rw [r1, r2, h0, leftOf_r k (by omega) l hl hg ps hp]
    simp only [Option.bind_some, if_true, hin]
    rw [show nspeculumlaw03_BlankStocks_l0_0 k l ((List.range l.length).map (lvF l ps), 0) k (ps.length : Int) 0 = _ from hsum, Option.bind_some]
    simp
   ·rw [r1]
    simp only [Option.bind_some, if_true, if_neg h0]
    simp
theorem vc_stocks (l : List SGlassBatch) (ps : List SGlassPromise) (w : A24) : VC Try.prog 3 [VV.tr (l.flatMap c_SGlassBatch) l.length, VV.tr (ps.flatMap c_SGlassPromise) ps.length, VV.ag (c_A24 w)] (vb true) := nspeculumlaw03_BlankStocks_ok _ _ _ _ _ (law_stocks 100000000000000000000 rfl l ps w)
end Go.Proofs.Ytodiglefoobjkaa.Vg

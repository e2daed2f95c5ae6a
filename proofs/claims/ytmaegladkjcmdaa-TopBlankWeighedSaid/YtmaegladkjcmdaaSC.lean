import Derived.Test.YtmaegladkjcmdaaS3
import Derived.Test.YtmaegladkjcmdaaSB
set_option linter.unusedVariables false
set_option linter.unusedSimpArgs false
namespace Go.Proofs.Ytmaegladkjcmdaa.Vg
open Go Go.Proofs.Ytmaegladkjcmdaa.Ev Go.Proofs.Ytmaegladkjcmdaa.Vv
theorem Quc (k : Nat) (a b c d : Bool) : Qd k ((a, 4), (b, 5), (c, 6), (d, 20)) = some (match a with | false => 4 | true => match b with | false => 5 | true => match c with | false => 6 | true => match d with | false => 20 | true => 0) := by
 unfold Qd
 simp only [Qud, Option.bind_some]
 cases a <;> cases b <;> cases c <;> cases d <;> rfl
def Qkb (l : List Qe) (i : Nat) (n : ByteArray) : Bool := (l.take i).any fun g => decide (n = g.Mirror)
theorem Qkc (l : List Qe) (i : Nat) (hi : i < l.length) (n : ByteArray) : Qkb l (i + 1) n = (decide (n = (l.getD i default).Mirror) || Qkb l i n) := by
 unfold Qkb
 rw [List.take_add_one, List.getElem?_eq_getElem hi, List.any_append]
 rw [List.getD_eq_getElem?_getD, List.getElem?_eq_getElem hi]
 simp [Bool.or_comm]
def cntP : List Qe -> ByteArray -> Int
 | [], _ => 0
 | p :: ps, n => (if p.Batch = n then 1 else 0) + cntP ps n
theorem Qrb (n : ByteArray) : ∀ a b : List Qe, cntP (a ++ b) n = cntP a n + cntP b n
 | [], b => by simp [cntP]
 | p :: a, b => by simp only [List.cons_append, cntP]; rw [Qrb n a b]; omega
theorem Qrc (n : ByteArray) : ∀ a : List Qe, 0 <= cntP a n /\ cntP a n <= (a.length : Int)
 | [] => by simp [cntP]
 | p :: a => by
   have := Qrc n a
   simp only [cntP, List.length_cons]
   split <;> omega
theorem Qqa (ps : List Qe) (n : ByteArray) (i : Nat) : 0 <= cntP (ps.take i) n /\ cntP (ps.take i) n <= (ps.length : Int) := by
 have h := Qrc n (ps.take i)
 rw [List.length_take] at h
 omega
theorem Qlo (ps : List Qe) (n : ByteArray) {i : Nat} (hi : i < ps.length) : cntP (ps.take (i + 1)) n = cntP (ps.take i) n + (if (ps.getD i default).Batch = n then 1 else 0) := by
 rw [List.take_add_one, List.getElem?_eq_getElem hi, Qrb, List.getD_eq_getElem?_getD, List.getElem?_eq_getElem hi]
 simp only [Option.toList, cntP, Option.getD_some]; omega
def prE (l : List Qj) (m0 : List (ByteArray × Int)) (ps : List Qe) (i : Nat) : Int := match nameB (ps.getD i default).Mirror with
 | false => 4
 | true => match !(Qkb ps i (ps.getD i default).Mirror) with
   | false => 5
   | true => match Yx l l.length (ps.getD i default).Batch with
     | false => 6
     | true => match decide (0 < mget m0 (ps.getD i default).Batch - cntP (ps.take i) (ps.getD i default).Batch) with
       | false => 20
       | true => 0
def chkP (l : List Qj) (m0 : List (ByteArray × Int)) (ps : List Qe) : Nat -> Nat -> Int
 | 0, _ => 0
 | d + 1, i => match decide (prE l m0 ps i = 0) with | true => chkP l m0 ps d (i + 1) | false => prE l m0 ps i
theorem Qmh (k : Nat) (l : List Qj) (ps : List Qe) (hl : l.length <= 43) : ∀ (d fuel i : Nat) (y : List (ByteArray × Int)), l.length = i + d -> d < fuel -> (∀ n, mhas y n = Yx l i n) ->
 (∀ j, j < i -> (∀ j', j' < l.length -> Yx l j' (l.getD j' default).Name = false) -> mget y (l.getD j default).Name = (l.getD j default).Count) ->
 ∃ z, Jp k l ps fuel y (i : Int) = some z /\ (∀ n, mhas z n = Yx l l.length n) /\ ((∀ j', j' < l.length -> Yx l j' (l.getD j' default).Name = false) -> ∀ j, j < l.length -> mget z (l.getD j default).Name = (l.getD j default).Count) := by
 intro d
 induction d with
 | zero =>
   intro fuel i y h hf hy hg
   obtain ⟨g, rfl⟩ : ∃ g, fuel = g + 1 := ⟨fuel - 1, by omega⟩
   obtain rfl : i = l.length := by omega
   exact ⟨y, by rw [Jp.eq_2, if_neg (by omega)], hy, fun h j hj => hg j hj h⟩
 | succ d ih =>
   intro fuel i y h hf hy hg
   obtain ⟨g, rfl⟩ : ∃ g, fuel = g + 1 := ⟨fuel - 1, by omega⟩
   have hi : i < l.length := by omega
   rw [Jp.eq_2, if_pos (by omega), if_pos (by omega), Int.toNat_natCast, Qfi (by omega)]
   refine ih g (i + 1) _ (by omega) (by omega) (fun n => by rw [Qc0, Qg3 l i hi, hy]) (fun j hj hu => ?_)
   rw [Qeg]
   by_cases e : (l.getD j default).Name = (l.getD i default).Name
   ·rw [decide_eq_true e]
    by_cases ej : j = i
    ·rw [ej]
    ·have h1 := Qfo l (l.getD i default).Name (show j + 1 <= i by omega) (Qig l _ (show j < l.length by omega) e)
     rw [hu i hi] at h1; cases h1
   ·rw [decide_eq_false e]
    by_cases ej : j = i
    ·rw [ej] at e; exact absurd rfl e
    ·exact hg j (by omega) hu
theorem Qkp (k : Nat) (hk : 100 < k) (l : List Qj) (ps : List Qe) (hl : l.length <= 43) : ∃ z, Jp k l ps k [] 0 = some z /\ (∀ n, mhas z n = Yx l l.length n) /\ ((∀ j', j' < l.length -> Yx l j' (l.getD j' default).Name = false) -> ∀ j, j < l.length -> mget z (l.getD j default).Name = (l.getD j default).Count) := by
 obtain ⟨z, h1, h2, h3⟩ := Qmh k l ps hl l.length k 0 [] (by omega) (by omega) (fun n => by simp [mhas, Yx]) (fun j hj => by omega)
 exact ⟨z, h1, h2, h3⟩
theorem Qsy (k : Nat) (hk : 1000 < k) (hk2 : k <= 100000000000000000000) (l : List Qj) (ps : List Qe) (hp : ps.length <= 203) (m0 : List (ByteArray × Int)) (hm0 : ∀ n, Yx l l.length n = true -> 0 <= mget m0 n /\ mget m0 n <= 1000) : ∀ (d fuel i : Nat) (y1 : List (ByteArray × Int)) (y2 : List (ByteArray × Bool)), ps.length = i + d -> d < fuel -> (∀ n, mhas y1 n = Yx l l.length n) -> (∀ n, Yx l l.length n = true -> mget y1 n = mget m0 n - cntP (ps.take i) n) -> (∀ n, mhas y2 n = Qkb ps i n) -> (∀ n, mhas y2 n = true -> mget y2 n = true) ->
 (chkP l m0 ps d i ≠ 0 /\ Xb k l ps fuel y1 y2 (i : Int) = some (.inl (chkP l m0 ps d i))) \/ (chkP l m0 ps d i = 0 /\ ∃ z, Xb k l ps fuel y1 y2 (i : Int) = some (.inr z) /\ (∀ n, mhas z n = Yx l l.length n) /\ ∀ n, Yx l l.length n = true -> mget z n = mget m0 n - cntP ps n) := by
 intro d
 induction d with
 | zero =>
   intro fuel i y1 y2 h hf h1 h2 h3 h4
   obtain ⟨g, rfl⟩ : ∃ g, fuel = g + 1 := ⟨fuel - 1, by omega⟩
   right
   refine ⟨rfl, y1, ?_, h1, fun n hn => by rw [h2 n hn, List.take_of_length_le (by omega)]⟩
   rw [Xb.eq_2, if_neg (by omega)]
 | succ d ih =>
   intro fuel i y1 y2 h hf h1 h2 h3 h4
   obtain ⟨g, rfl⟩ : ∃ g, fuel = g + 1 := ⟨fuel - 1, by omega⟩
   have hi : i < ps.length := by omega
   rw [Xb.eq_2, if_pos (by omega), if_pos (by omega)]
   unfold Qy
   simp only [Int.toNat_natCast, Qng k (show 100 < k by omega) hk2, Option.bind_some, Quc, Qfi (show i < 9223372036854775807 by omega)]
   have hB := h1 (ps.getD i default).Batch
   have hM := h3 (ps.getD i default).Mirror
   have hT := h4 (ps.getD i default).Mirror
   have hC := h2 (ps.getD i default).Batch
   have hci := Qqa ps (ps.getD i default).Batch i
   simp only [chkP]
   rcases Bool.eq_false_or_eq_true (nameB (ps.getD i default).Mirror) with hn | hn
   ·rcases Bool.eq_false_or_eq_true (Qkb ps i (ps.getD i default).Mirror) with hm | hm
    ·have he : prE l m0 ps i = 5 := by unfold prE; simp only [hn, hm, Bool.not_true]
     rw [hm] at hM
     left
     refine ⟨by rw [he]; show (5 : Int) ≠ 0; decide, ?_⟩
     rcases Bool.eq_false_or_eq_true (Yx l l.length (ps.getD i default).Batch) with hb | hb
     ·rw [hb] at hB; simp only [hB, hM, hT hM, hn, he, if_true, Bool.not_true]; rfl
     ·rw [hb] at hB; simp only [hB, hM, hT hM, hn, he, if_true, Bool.not_true, Bool.false_eq_true, if_false]; rfl
    ·rw [hm] at hM
     rcases Bool.eq_false_or_eq_true (Yx l l.length (ps.getD i default).Batch) with hb | hb
     ·have hC := hC hb
      have hz := hm0 _ hb
      rw [hb] at hB
      by_cases hd : 0 < mget m0 (ps.getD i default).Batch - cntP (ps.take i) (ps.getD i default).Batch
      ·have he : prE l m0 ps i = 0 := by unfold prE; simp only [hn, hm, hb, decide_eq_true hd, Bool.not_false]
       rw [<- hC] at hd
       simp only [hB, hM, hn, he, decide_eq_true hd, if_true, Bool.not_false, Bool.false_eq_true, if_false, decide_true]
       refine ih g (i + 1) _ _ (by omega) (by omega) (fun n => ?_) (fun n hs => ?_) (fun n => ?_) (fun n hs => ?_)
       ·rw [Qc0, h1]
        by_cases e : n = (ps.getD i default).Batch
        ·rw [e, hb]; simp
        ·rw [decide_eq_false e, Bool.false_or]
       ·rw [Qeg, Qlo ps n hi]
        by_cases e : n = (ps.getD i default).Batch
        ·rw [decide_eq_true e, if_pos e.symm]
         dsimp only
         rw [Jv (by omega) (by omega), hC, e]; omega
        ·rw [decide_eq_false e, if_neg (fun h => e h.symm)]
         dsimp only
         rw [h2 n hs]; omega
       ·rw [Qc0, Qkc ps i hi, h3]
       ·rw [Qc0] at hs
        rw [Qeg]
        cases hd : decide (n = (ps.getD i default).Mirror) with
        | true => rfl
        | false => rw [hd, Bool.false_or] at hs; exact h4 n hs
      ·have he : prE l m0 ps i = 20 := by unfold prE; simp only [hn, hm, hb, decide_eq_false hd, Bool.not_false]
       rw [<- hC] at hd
       left
       refine ⟨by rw [he]; show (20 : Int) ≠ 0; decide, ?_⟩
       simp only [hB, hM, hn, he, decide_eq_false hd, if_true, Bool.not_false, Bool.false_eq_true, if_false]; rfl
     ·have he : prE l m0 ps i = 6 := by unfold prE; simp only [hn, hm, hb, Bool.not_false]
      rw [hb] at hB
      left
      refine ⟨by rw [he]; show (6 : Int) ≠ 0; decide, ?_⟩
      simp only [hB, hM, hn, he, if_true, Bool.not_false, Bool.false_eq_true, if_false]; rfl
   ·have he : prE l m0 ps i = 4 := by unfold prE; simp only [hn]
    left
    refine ⟨by rw [he]; show (4 : Int) ≠ 0; decide, ?_⟩
    rcases Bool.eq_false_or_eq_true (mhas y1 (ps.getD i default).Batch) with hb | hb
    ·rcases Bool.eq_false_or_eq_true (mhas y2 (ps.getD i default).Mirror) with hm | hm
     ·simp only [hb, hm, hn, he, if_true]; rfl
     ·simp only [hb, hm, hn, he, if_true, Bool.false_eq_true, if_false]; rfl
    ·rcases Bool.eq_false_or_eq_true (mhas y2 (ps.getD i default).Mirror) with hm | hm
     ·simp only [hb, hm, hn, he, if_true, Bool.false_eq_true, if_false]; rfl
     ·simp only [hb, hm, hn, he, Bool.false_eq_true, if_false]; rfl
theorem Qjj (k : Nat) (l : List Qj) (ps : List Qe) (w : A27) (hl : l.length <= 43) : ∀ (d fuel i : Nat) (y : List (ByteArray × Int)), l.length = i + d -> d < fuel -> (∀ n, mhas y n = Yx l i n) ->
 (∀ j, j < i -> (∀ j', j' < l.length -> Yx l j' (l.getD j' default).Name = false) -> mget y (l.getD j default).Name = (l.getD j default).Count) ->
 ∃ z, Xy k l ps w fuel y (i : Int) = some z /\ (∀ n, mhas z n = Yx l l.length n) /\ ((∀ j', j' < l.length -> Yx l j' (l.getD j' default).Name = false) -> ∀ j, j < l.length -> mget z (l.getD j default).Name = (l.getD j default).Count) := by
 intro d
 induction d with
 | zero =>
   intro fuel i y h hf hy hg
   obtain ⟨g, rfl⟩ : ∃ g, fuel = g + 1 := ⟨fuel - 1, by omega⟩
   obtain rfl : i = l.length := by omega
   exact ⟨y, by rw [Xy.eq_2, if_neg (by omega)], hy, fun h j hj => hg j hj h⟩
 | succ d ih =>
   intro fuel i y h hf hy hg
   obtain ⟨g, rfl⟩ : ∃ g, fuel = g + 1 := ⟨fuel - 1, by omega⟩
   have hi : i < l.length := by omega
   rw [Xy.eq_2, if_pos (by omega), if_pos (by omega), Int.toNat_natCast, Qfi (by omega)]
   refine ih g (i + 1) _ (by omega) (by omega) (fun n => by rw [Qc0, Qg3 l i hi, hy]) (fun j hj hu => ?_)
   rw [Qeg]
   by_cases e : (l.getD j default).Name = (l.getD i default).Name
   ·rw [decide_eq_true e]
    by_cases ej : j = i
    ·rw [ej]
    ·have h1 := Qfo l (l.getD i default).Name (show j + 1 <= i by omega) (Qig l _ (show j < l.length by omega) e)
     rw [hu i hi] at h1; cases h1
   ·rw [decide_eq_false e]
    by_cases ej : j = i
    ·rw [ej] at e; exact absurd rfl e
    ·exact hg j (by omega) hu
theorem Qk0 (k : Nat) (hk : 100 < k) (l : List Qj) (ps : List Qe) (w : A27) (hl : l.length <= 43) : ∃ z, Xy k l ps w k [] 0 = some z /\ (∀ n, mhas z n = Yx l l.length n) /\ ((∀ j', j' < l.length -> Yx l j' (l.getD j' default).Name = false) -> ∀ j, j < l.length -> mget z (l.getD j default).Name = (l.getD j default).Count) := by
 obtain ⟨z, h1, h2, h3⟩ := Qjj k l ps w hl l.length k 0 [] (by omega) (by omega) (fun n => by simp [mhas, Yx]) (fun j hj => by omega)
 exact ⟨z, h1, h2, h3⟩
theorem Qmi (k : Nat) (hk : 1000 < k) (hk2 : k <= 100000000000000000000) (l : List Qj) (ps : List Qe) (w : A27) (hp : ps.length <= 203) (m0 : List (ByteArray × Int)) (hm0 : ∀ n, Yx l l.length n = true -> 0 <= mget m0 n /\ mget m0 n <= 1000) : ∀ (d fuel i : Nat) (y1 : List (ByteArray × Int)) (y2 : List (ByteArray × Bool)), ps.length = i + d -> d < fuel -> (∀ n, mhas y1 n = Yx l l.length n) -> (∀ n, Yx l l.length n = true -> mget y1 n = mget m0 n - cntP (ps.take i) n) -> (∀ n, mhas y2 n = Qkb ps i n) -> (∀ n, mhas y2 n = true -> mget y2 n = true) ->
 (chkP l m0 ps d i ≠ 0 /\ Zv k l ps w fuel y1 y2 (i : Int) = some (.inl (chkP l m0 ps d i))) \/ (chkP l m0 ps d i = 0 /\ ∃ z, Zv k l ps w fuel y1 y2 (i : Int) = some (.inr z) /\ (∀ n, mhas z n = Yx l l.length n) /\ ∀ n, Yx l l.length n = true -> mget z n = mget m0 n - cntP ps n) := by
 intro d
 induction d with
 | zero =>
   intro fuel i y1 y2 h hf h1 h2 h3 h4
   obtain ⟨g, rfl⟩ : ∃ g, fuel = g + 1 := ⟨fuel - 1, by omega⟩
   right
   refine ⟨rfl, y1, ?_, h1, fun n hn => by rw [h2 n hn, List.take_of_length_le (by omega)]⟩
   rw [Zv.eq_2, if_neg (by omega)]
 | succ d ih =>
   intro fuel i y1 y2 h hf h1 h2 h3 h4
   obtain ⟨g, rfl⟩ : ∃ g, fuel = g + 1 := ⟨fuel - 1, by omega⟩
   have hi : i < ps.length := by omega
   rw [Zv.eq_2, if_pos (by omega), if_pos (by omega)]
   unfold Qy
   simp only [Int.toNat_natCast, Qng k (show 100 < k by omega) hk2, Option.bind_some, Quc, Qfi (show i < 9223372036854775807 by omega)]
   have hB := h1 (ps.getD i default).Batch
   have hM := h3 (ps.getD i default).Mirror
   have hT := h4 (ps.getD i default).Mirror
   have hC := h2 (ps.getD i default).Batch
   have hci := Qqa ps (ps.getD i default).Batch i
   simp only [chkP]
   rcases Bool.eq_false_or_eq_true (nameB (ps.getD i default).Mirror) with hn | hn
   ·rcases Bool.eq_false_or_eq_true (Qkb ps i (ps.getD i default).Mirror) with hm | hm
    ·have he : prE l m0 ps i = 5 := by unfold prE; simp only [hn, hm, Bool.not_true]
     rw [hm] at hM
     left
     refine ⟨by rw [he]; show (5 : Int) ≠ 0; decide, ?_⟩
     rcases Bool.eq_false_or_eq_true (Yx l l.length (ps.getD i default).Batch) with hb | hb
     ·rw [hb] at hB; simp only [hB, hM, hT hM, hn, he, if_true, Bool.not_true]; rfl
     ·rw [hb] at hB; simp only [hB, hM, hT hM, hn, he, if_true, Bool.not_true, Bool.false_eq_true, if_false]; rfl
    ·rw [hm] at hM
     rcases Bool.eq_false_or_eq_true (Yx l l.length (ps.getD i default).Batch) with hb | hb
     ·have hC := hC hb
      have hz := hm0 _ hb
      rw [hb] at hB
      by_cases hd : 0 < mget m0 (ps.getD i default).Batch - cntP (ps.take i) (ps.getD i default).Batch
      ·have he : prE l m0 ps i = 0 := by unfold prE; simp only [hn, hm, hb, decide_eq_true hd, Bool.not_false]
       rw [<- hC] at hd
       simp only [hB, hM, hn, he, decide_eq_true hd, if_true, Bool.not_false, Bool.false_eq_true, if_false, decide_true]
       refine ih g (i + 1) _ _ (by omega) (by omega) (fun n => ?_) (fun n hs => ?_) (fun n => ?_) (fun n hs => ?_)
       ·rw [Qc0, h1]
        by_cases e : n = (ps.getD i default).Batch
        ·rw [e, hb]; simp
        ·rw [decide_eq_false e, Bool.false_or]
       ·rw [Qeg, Qlo ps n hi]
        by_cases e : n = (ps.getD i default).Batch
        ·rw [decide_eq_true e, if_pos e.symm]
         dsimp only
         rw [Jv (by omega) (by omega), hC, e]; omega
        ·rw [decide_eq_false e, if_neg (fun h => e h.symm)]
         dsimp only
         rw [h2 n hs]; omega
       ·rw [Qc0, Qkc ps i hi, h3]
       ·rw [Qc0] at hs
        rw [Qeg]
        cases hd : decide (n = (ps.getD i default).Mirror) with
        | true => rfl
        | false => rw [hd, Bool.false_or] at hs; exact h4 n hs
      ·have he : prE l m0 ps i = 20 := by unfold prE; simp only [hn, hm, hb, decide_eq_false hd, Bool.not_false]
       rw [<- hC] at hd
       left
       refine ⟨by rw [he]; show (20 : Int) ≠ 0; decide, ?_⟩
       simp only [hB, hM, hn, he, decide_eq_false hd, if_true, Bool.not_false, Bool.false_eq_true, if_false]; rfl
     ·have he : prE l m0 ps i = 6 := by unfold prE; simp only [hn, hm, hb, Bool.not_false]
      rw [hb] at hB
      left
      refine ⟨by rw [he]; show (6 : Int) ≠ 0; decide, ?_⟩
      simp only [hB, hM, hn, he, if_true, Bool.not_false, Bool.false_eq_true, if_false]; rfl
   ·have he : prE l m0 ps i = 4 := by unfold prE; simp only [hn]
    left
    refine ⟨by rw [he]; show (4 : Int) ≠ 0; decide, ?_⟩
    rcases Bool.eq_false_or_eq_true (mhas y1 (ps.getD i default).Batch) with hb | hb
    ·rcases Bool.eq_false_or_eq_true (mhas y2 (ps.getD i default).Mirror) with hm | hm
     ·simp only [hb, hm, hn, he, if_true]; rfl
     ·simp only [hb, hm, hn, he, if_true, Bool.false_eq_true, if_false]; rfl
    ·rcases Bool.eq_false_or_eq_true (mhas y2 (ps.getD i default).Mirror) with hm | hm
     ·simp only [hb, hm, hn, he, if_true, Bool.false_eq_true, if_false]; rfl
     ·simp only [hb, hm, hn, he, Bool.false_eq_true, if_false]; rfl
theorem Qhv (k : Nat) (l : List Qj) (ps : List Qe) (hl : l.length <= 43) : ∀ (d fuel i : Nat) (y : List (ByteArray × Int)), l.length = i + d -> d < fuel -> (∀ n, mhas y n = Yx l i n) ->
 (∀ j, j < i -> (∀ j', j' < l.length -> Yx l j' (l.getD j' default).Name = false) -> mget y (l.getD j default).Name = (l.getD j default).Count) ->
 ∃ z, Xk k l ps fuel y (i : Int) = some z /\ (∀ n, mhas z n = Yx l l.length n) /\ ((∀ j', j' < l.length -> Yx l j' (l.getD j' default).Name = false) -> ∀ j, j < l.length -> mget z (l.getD j default).Name = (l.getD j default).Count) := by
 intro d
 induction d with
 | zero =>
   intro fuel i y h hf hy hg
   obtain ⟨g, rfl⟩ : ∃ g, fuel = g + 1 := ⟨fuel - 1, by omega⟩
   obtain rfl : i = l.length := by omega
   exact ⟨y, by rw [Xk.eq_2, if_neg (by omega)], hy, fun h j hj => hg j hj h⟩
 | succ d ih =>
   intro fuel i y h hf hy hg
   obtain ⟨g, rfl⟩ : ∃ g, fuel = g + 1 := ⟨fuel - 1, by omega⟩
   have hi : i < l.length := by omega
   rw [Xk.eq_2, if_pos (by omega), if_pos (by omega), Int.toNat_natCast, Qfi (by omega)]
   refine ih g (i + 1) _ (by omega) (by omega) (fun n => by rw [Qc0, Qg3 l i hi, hy]) (fun j hj hu => ?_)
   rw [Qeg]
   by_cases e : (l.getD j default).Name = (l.getD i default).Name
   ·rw [decide_eq_true e]
    by_cases ej : j = i
    ·rw [ej]
    ·have h1 := Qfo l (l.getD i default).Name (show j + 1 <= i by omega) (Qig l _ (show j < l.length by omega) e)
     rw [hu i hi] at h1; cases h1
   ·rw [decide_eq_false e]
    by_cases ej : j = i
    ·rw [ej] at e; exact absurd rfl e
    ·exact hg j (by omega) hu
theorem Qiv (k : Nat) (hk : 100 < k) (l : List Qj) (ps : List Qe) (hl : l.length <= 43) : ∃ z, Xk k l ps k [] 0 = some z /\ (∀ n, mhas z n = Yx l l.length n) /\ ((∀ j', j' < l.length -> Yx l j' (l.getD j' default).Name = false) -> ∀ j, j < l.length -> mget z (l.getD j default).Name = (l.getD j default).Count) := by
 obtain ⟨z, h1, h2, h3⟩ := Qhv k l ps hl l.length k 0 [] (by omega) (by omega) (fun n => by simp [mhas, Yx]) (fun j hj => by omega)
 exact ⟨z, h1, h2, h3⟩
theorem Qkd (k : Nat) (hk : 1000 < k) (hk2 : k <= 100000000000000000000) (l : List Qj) (ps : List Qe) (hp : ps.length <= 203) (m0 : List (ByteArray × Int)) (hm0 : ∀ n, Yx l l.length n = true -> 0 <= mget m0 n /\ mget m0 n <= 1000) : ∀ (d fuel i : Nat) (y1 : List (ByteArray × Int)) (y2 : List (ByteArray × Bool)), ps.length = i + d -> d < fuel -> (∀ n, mhas y1 n = Yx l l.length n) -> (∀ n, Yx l l.length n = true -> mget y1 n = mget m0 n - cntP (ps.take i) n) -> (∀ n, mhas y2 n = Qkb ps i n) -> (∀ n, mhas y2 n = true -> mget y2 n = true) ->
 (chkP l m0 ps d i ≠ 0 /\ Zg k l ps fuel y1 y2 (i : Int) = some (.inl (chkP l m0 ps d i))) \/ (chkP l m0 ps d i = 0 /\ ∃ z, Zg k l ps fuel y1 y2 (i : Int) = some (.inr z) /\ (∀ n, mhas z n = Yx l l.length n) /\ ∀ n, Yx l l.length n = true -> mget z n = mget m0 n - cntP ps n) := by
 intro d
 induction d with
 | zero =>
   intro fuel i y1 y2 h hf h1 h2 h3 h4
   obtain ⟨g, rfl⟩ : ∃ g, fuel = g + 1 := ⟨fuel - 1, by omega⟩
   right
   refine ⟨rfl, y1, ?_, h1, fun n hn => by rw [h2 n hn, List.take_of_length_le (by omega)]⟩
   rw [Zg.eq_2, if_neg (by omega)]
 | succ d ih =>
   intro fuel i y1 y2 h hf h1 h2 h3 h4
   obtain ⟨g, rfl⟩ : ∃ g, fuel = g + 1 := ⟨fuel - 1, by omega⟩
   have hi : i < ps.length := by omega
   rw [Zg.eq_2, if_pos (by omega), if_pos (by omega)]
   unfold Qy
   simp only [Int.toNat_natCast, Qng k (show 100 < k by omega) hk2, Option.bind_some, Quc, Qfi (show i < 9223372036854775807 by omega)]
   have hB := h1 (ps.getD i default).Batch
   have hM := h3 (ps.getD i default).Mirror
   have hT := h4 (ps.getD i default).Mirror
   have hC := h2 (ps.getD i default).Batch
   have hci := Qqa ps (ps.getD i default).Batch i
   simp only [chkP]
   rcases Bool.eq_false_or_eq_true (nameB (ps.getD i default).Mirror) with hn | hn
   ·rcases Bool.eq_false_or_eq_true (Qkb ps i (ps.getD i default).Mirror) with hm | hm
    ·have he : prE l m0 ps i = 5 := by unfold prE; simp only [hn, hm, Bool.not_true]
     rw [hm] at hM
     left
     refine ⟨by rw [he]; show (5 : Int) ≠ 0; decide, ?_⟩
     rcases Bool.eq_false_or_eq_true (Yx l l.length (ps.getD i default).Batch) with hb | hb
     ·rw [hb] at hB; simp only [hB, hM, hT hM, hn, he, if_true, Bool.not_true]; rfl
     ·rw [hb] at hB; simp only [hB, hM, hT hM, hn, he, if_true, Bool.not_true, Bool.false_eq_true, if_false]; rfl
    ·rw [hm] at hM
     rcases Bool.eq_false_or_eq_true (Yx l l.length (ps.getD i default).Batch) with hb | hb
     ·have hC := hC hb
      have hz := hm0 _ hb
      rw [hb] at hB
      by_cases hd : 0 < mget m0 (ps.getD i default).Batch - cntP (ps.take i) (ps.getD i default).Batch
      ·have he : prE l m0 ps i = 0 := by unfold prE; simp only [hn, hm, hb, decide_eq_true hd, Bool.not_false]
       rw [<- hC] at hd
       simp only [hB, hM, hn, he, decide_eq_true hd, if_true, Bool.not_false, Bool.false_eq_true, if_false, decide_true]
       refine ih g (i + 1) _ _ (by omega) (by omega) (fun n => ?_) (fun n hs => ?_) (fun n => ?_) (fun n hs => ?_)
       ·rw [Qc0, h1]
        by_cases e : n = (ps.getD i default).Batch
        ·rw [e, hb]; simp
        ·rw [decide_eq_false e, Bool.false_or]
       ·rw [Qeg, Qlo ps n hi]
        by_cases e : n = (ps.getD i default).Batch
        ·rw [decide_eq_true e, if_pos e.symm]
         dsimp only
         rw [Jv (by omega) (by omega), hC, e]; omega
        ·rw [decide_eq_false e, if_neg (fun h => e h.symm)]
         dsimp only
         rw [h2 n hs]; omega
       ·rw [Qc0, Qkc ps i hi, h3]
       ·rw [Qc0] at hs
        rw [Qeg]
        cases hd : decide (n = (ps.getD i default).Mirror) with
        | true => rfl
        | false => rw [hd, Bool.false_or] at hs; exact h4 n hs
      ·have he : prE l m0 ps i = 20 := by unfold prE; simp only [hn, hm, hb, decide_eq_false hd, Bool.not_false]
       rw [<- hC] at hd
       left
       refine ⟨by rw [he]; show (20 : Int) ≠ 0; decide, ?_⟩
       simp only [hB, hM, hn, he, decide_eq_false hd, if_true, Bool.not_false, Bool.false_eq_true, if_false]; rfl
     ·have he : prE l m0 ps i = 6 := by unfold prE; simp only [hn, hm, hb, Bool.not_false]
      rw [hb] at hB
      left
      refine ⟨by rw [he]; show (6 : Int) ≠ 0; decide, ?_⟩
      simp only [hB, hM, hn, he, if_true, Bool.not_false, Bool.false_eq_true, if_false]; rfl
   ·have he : prE l m0 ps i = 4 := by unfold prE; simp only [hn]
    left
    refine ⟨by rw [he]; show (4 : Int) ≠ 0; decide, ?_⟩
    rcases Bool.eq_false_or_eq_true (mhas y1 (ps.getD i default).Batch) with hb | hb
    ·rcases Bool.eq_false_or_eq_true (mhas y2 (ps.getD i default).Mirror) with hm | hm
     ·simp only [hb, hm, hn, he, if_true]; rfl
     ·simp only [hb, hm, hn, he, if_true, Bool.false_eq_true, if_false]; rfl
    ·rcases Bool.eq_false_or_eq_true (mhas y2 (ps.getD i default).Mirror) with hm | hm
     ·simp only [hb, hm, hn, he, if_true, Bool.false_eq_true, if_false]; rfl
     ·simp only [hb, hm, hn, he, Bool.false_eq_true, if_false]; rfl
end Go.Proofs.Ytmaegladkjcmdaa.Vg

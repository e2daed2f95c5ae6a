import Derived.Test.YtodiglefoobjkaaSA
set_option linter.unusedVariables false
set_option linter.unusedSimpArgs false
namespace Go.Proofs.Ytodiglefoobjkaa.Vg
open Go Go.Proofs.Ytodiglefoobjkaa.Ev Go.Proofs.Ytodiglefoobjkaa.Vv
theorem big_succ {i : Nat} (h : i < 9223372036854775807) : w64 ((i : Int) + 1) = ((i + 1 : Nat) : Int) := by
 rw [w64_id (by omega) (by omega)]; omega
theorem drop_get {α : Type} {y : List α} {i : Nat} (h : i < y.length) (d : α) : y.drop i = y.getD i d :: y.drop (i + 1) := by
 rw [List.drop_eq_getElem_cons h, List.getD_eq_getElem?_getD, List.getElem?_eq_getElem h]; rfl
theorem mhas_set {V : Type} (k n : ByteArray) (v : V) : ∀ l : List (ByteArray × V), mhas (mset l k v) n = (decide (n = k) || mhas l n)
 | [] => by simp [mset, mhas]
 | e :: l => by
   simp only [mset]
   by_cases h : k = e.1
   ·rw [decide_eq_true h]
    simp only [mhas]
    subst h
    by_cases h2 : n = e.1
    ·simp [h2]
    ·simp [h2]
   ·rw [decide_eq_false h]
    simp only [mhas]
    rw [mhas_set k n v l]
    cases decide (n = e.1) <;> cases decide (n = k) <;> cases mhas l n <;> rfl
theorem mget_set {V : Type} [Inhabited V] (k n : ByteArray) (v : V) : ∀ l : List (ByteArray × V), mget (mset l k v) n = match decide (n = k) with | true => v | false => mget l n
 | [] => by simp only [mset, mget]; cases decide (n = k) <;> rfl
 | e :: l => by
   simp only [mset]
   by_cases h : k = e.1
   ·rw [decide_eq_true h]
    simp only [mget]
    subst h
    cases decide (n = e.1) <;> rfl
   ·rw [decide_eq_false h]
    simp only [mget]
    rw [mget_set k n v l]
    by_cases h2 : n = e.1
    ·rw [decide_eq_true h2, decide_eq_false (show ¬ n = k by rw [h2]; exact fun h3 => h h3.symm)]
    ·rw [decide_eq_false h2]
theorem need_p (k : Nat) (b : Bool) (e : Int) : nblank_need_1 k b e = some (match b with | true => 0 | false => e) := by
 unfold nblank_need_1
 cases b <;> rfl
theorem within_p (k : Nat) (a b c : Int) : nblank_within k a b c = some (inR b c a, 2) := by
 unfold nblank_within nblank_need
 rw [isw]; rfl
theorem first5 (k : Nat) (a b c d e : Bool) : nblank_firstOf_c0_Lblank_need_1_blank_need_1_blank_need_1_blank_need_1_blank_need_1 k ((a, 4), (b, 5), (c, 2), (d, 2), (e, 2)) = some (match a with | false => 4 | true => match b with | false => 5 | true => match c && d && e with | false => 2 | true => 0) := by
 unfold nblank_firstOf_c0_Lblank_need_1_blank_need_1_blank_need_1_blank_need_1_blank_need_1
 simp only [need_p, Option.bind_some]
 cases a <;> cases b <;> cases c <;> cases d <;> cases e <;> rfl
def seenB (l : List SGlassBatch) (i : Nat) (n : ByteArray) : Bool := (l.take i).any fun g => decide (n = g.Name)
def okB (b : SGlassBatch) : Bool := inR 1 1000 b.Diameter && inR 1 500 b.Thick && inR 0 1000 b.Count
def batE (l : List SGlassBatch) (i : Nat) : Int := match nameB (l.getD i default).Name with
 | false => 4
 | true => match !(seenB l i (l.getD i default).Name) with
   | false => 5
   | true => match okB (l.getD i default) with
     | false => 2
     | true => 0
def chkB (l : List SGlassBatch) : Nat -> Nat -> Int
 | 0, _ => 0
 | d + 1, i => match decide (batE l i = 0) with | true => chkB l d (i + 1) | false => batE l i
def errS {A : Type} (e : Int) (a : A) : Sum (Int × A) A := match decide (e = 0) with | true => .inr a | false => .inl (e, a)
def errI (e : Int) : Sum Int Unit := match decide (e = 0) with | true => .inr () | false => .inl e
theorem seenB_succ (l : List SGlassBatch) (i : Nat) (hi : i < l.length) (n : ByteArray) : seenB l (i + 1) n = (decide (n = (l.getD i default).Name) || seenB l i n) := by
 unfold seenB
 rw [List.take_add_one, List.getElem?_eq_getElem hi, List.any_append]
 rw [List.getD_eq_getElem?_getD, List.getElem?_eq_getElem hi]
 simp [Bool.or_comm]
theorem batches_p (k : Nat) (hk : 1000 < k) (hk2 : k <= 100000000000000000000) (l : List SGlassBatch) (hl : l.length <= 43) (r1 : Bool × Int) (r2 : Int) : ∀ (d fuel i : Nat) (y : List (ByteArray × Bool)), l.length = i + d -> d < fuel -> (∀ n, mhas y n = seenB l i n) -> (∀ n, mhas y n = true -> mget y n = true) ->
 ∃ z, nblank_CheckBatches_i27_i46_l0_0 k l r1 r2 fuel y (i : Int) = some (errS (chkB l d i) z) := by
 intro d
 induction d with
 | zero =>
   intro fuel i y h hf _ _
   obtain ⟨g, rfl⟩ : ∃ g, fuel = g + 1 := ⟨fuel - 1, by omega⟩
   refine ⟨y, ?_⟩
   rw [nblank_CheckBatches_i27_i46_l0_0.eq_2, if_neg (by omega)]; rfl
 | succ d ih =>
   intro fuel i y h hf hy hy2
   obtain ⟨g, rfl⟩ : ∃ g, fuel = g + 1 := ⟨fuel - 1, by omega⟩
   have hi : i < l.length := by omega
   obtain ⟨z, hz⟩ := ih g (i + 1) (mset y (l.getD i default).Name true) (by omega) (by omega) (fun n => by rw [mhas_set, seenB_succ l i hi, hy]) (fun n hn => by
    rw [mhas_set] at hn
    rw [mget_set]
    cases hd : decide (n = (l.getD i default).Name) with
    | true => rfl
    | false => rw [hd, Bool.false_or] at hn; exact hy2 n hn)
   have key : ∀ b : Bool, ((nblank_isName k (l.getD i default).Name).bind fun r1 => (nblank_need k r1 4).bind fun r2 => (nblank_need k b 5).bind fun r3 => (nblank_within k (l.getD i default).Diameter 1 1000).bind fun r4 => (nblank_within k (l.getD i default).Thick 1 500).bind fun r5 => (nblank_within k (l.getD i default).Count 0 1000).bind fun r6 => (nblank_firstOf_c0_Lblank_need_1_blank_need_1_blank_need_1_blank_need_1_blank_need_1 k (r2, r3, r4, r5, r6)).bind fun r => if r = 0 then some (errS (chkB l d (i + 1)) z) else some (.inl (r, mset y (l.getD i default).Name true))) = (match nameB (l.getD i default).Name with | false => some (.inl (4, mset y (l.getD i default).Name true)) | true => match b with | false => some (.inl (5, mset y (l.getD i default).Name true)) | true => match okB (l.getD i default) with | false => some (.inl (2, mset y (l.getD i default).Name true)) | true => some (errS (chkB l d (i + 1)) z)) := by
    intro b
    unfold nblank_need
    simp only [name_pk k (show 100 < k by omega) hk2, within_p, first5, Option.bind_some]
    unfold okB
    cases nameB (l.getD i default).Name with
    | false => rfl
    | true =>
      cases b with
      | false => rfl
      | true => cases (inR 1 1000 (l.getD i default).Diameter && inR 1 500 (l.getD i default).Thick && inR 0 1000 (l.getD i default).Count) <;> rfl
   rw [nblank_CheckBatches_i27_i46_l0_0.eq_2, if_pos (by omega), if_pos (by omega), Int.toNat_natCast, big_succ (by omega), hz, key, key, hy]
   have hg := hy2 (l.getD i default).Name
   rw [hy] at hg
   rcases Bool.eq_false_or_eq_true (seenB l i (l.getD i default).Name) with hs | hs
   ·rcases Bool.eq_false_or_eq_true (nameB (l.getD i default).Name) with hn | hn
    ·have hb : batE l i = 5 := by unfold batE; simp only [hn, hs, Bool.not_true]
     simp only [chkB, hb, hs, hn, hg hs, if_true, Bool.not_true]
     exact ⟨_, rfl⟩
    ·have hb : batE l i = 4 := by unfold batE; simp only [hn]
     simp only [chkB, hb, hs, hn, if_true]
     exact ⟨_, rfl⟩
   ·rcases Bool.eq_false_or_eq_true (nameB (l.getD i default).Name) with hn | hn
    ·rcases Bool.eq_false_or_eq_true (okB (l.getD i default)) with ho | ho
     ·have hb : batE l i = 0 := by unfold batE; simp only [hn, hs, ho, Bool.not_false]
      simp only [chkB, hb, hs, hn, ho, Bool.not_false, Bool.false_eq_true, if_false]
      exact ⟨z, rfl⟩
     ·have hb : batE l i = 2 := by unfold batE; simp only [hn, hs, ho, Bool.not_false]
      simp only [chkB, hb, hs, hn, ho, Bool.not_false, Bool.false_eq_true, if_false]
      exact ⟨_, rfl⟩
    ·have hb : batE l i = 4 := by unfold batE; simp only [hn]
     simp only [chkB, hb, hs, hn, Bool.not_false, Bool.false_eq_true, if_false]
     exact ⟨_, rfl⟩
def batS (l : List SGlassBatch) : Int := match decide (l.length <= 40) with | false => 8 | true => chkB l l.length 0
theorem checkBatches_p (k : Nat) (hk : 1000 < k) (hk2 : k <= 100000000000000000000) (l : List SGlassBatch) (hl : l.length <= 43) : nblank_CheckBatches k l = some (batS l) := by
 unfold nblank_CheckBatches nblank_need batS
 rw [show decide ((l.length : Int) <= 40) = decide (l.length <= 40) by congr 1; simp only [eq_iff_iff]; omega, Option.bind_some, need_p, Option.bind_some]
 cases decide (l.length <= 40) with
 | false => rfl
 | true =>
   obtain ⟨z, hz⟩ := batches_p k hk hk2 l hl (true, 8) 0 l.length k 0 [] (by omega) (by omega) (fun n => by simp [mhas, seenB]) (fun n h => by cases h)
   dsimp only
   rw [if_pos rfl, show nblank_CheckBatches_i27_i46_l0_0 k l (true, 8) 0 k [] 0 = _ from hz, Option.bind_some]
   unfold errS
   cases h1 : decide (chkB l l.length 0 = 0) with
   | true => rw [of_decide_eq_true h1]
   | false => dsimp only; rw [if_neg (of_decide_eq_false h1)]
theorem batAt_l (k : Nat) (l : List SGlassBatch) (hl : l.length <= 43) (n : ByteArray) : ∀ (d fuel i : Nat), l.length = i + d -> d < fuel -> seenB l i n = false ->
 (∃ j : Nat, nspeculumref03_BatchAt_l0_0 k l n fuel (i : Int) = some (.inl (j : Int)) /\ i <= j /\ j < l.length /\ seenB l j n = false /\ (l.getD j default).Name = n) \/ (nspeculumref03_BatchAt_l0_0 k l n fuel (i : Int) = some (.inr ()) /\ seenB l l.length n = false) := by
 intro d
 induction d with
 | zero =>
   intro fuel i h hf hs
   obtain ⟨g, rfl⟩ : ∃ g, fuel = g + 1 := ⟨fuel - 1, by omega⟩
   right
   obtain rfl : i = l.length := by omega
   refine ⟨?_, hs⟩
   rw [nspeculumref03_BatchAt_l0_0.eq_2, if_neg (by omega)]
 | succ d ih =>
   intro fuel i h hf hs
   obtain ⟨g, rfl⟩ : ∃ g, fuel = g + 1 := ⟨fuel - 1, by omega⟩
   have hi : i < l.length := by omega
   rw [nspeculumref03_BatchAt_l0_0.eq_2, if_pos (by omega), if_pos (by omega), Int.toNat_natCast, big_succ (by omega)]
   by_cases c : (l.getD i default).Name = n
   ·rw [if_pos c]
    exact .inl ⟨i, rfl, Nat.le_refl _, hi, hs, c⟩
   ·rw [if_neg c]
    have hs' : seenB l (i + 1) n = false := by rw [seenB_succ l i hi, hs, decide_eq_false (fun h => c h.symm)]; rfl
    rcases ih g (i + 1) (by omega) (by omega) hs' with ⟨j, e1, e2, e3, e4, e5⟩ | e
    ·exact .inl ⟨j, e1, by omega, e3, e4, e5⟩
    ·exact .inr e
theorem batAt_any (k : Nat) (hk : 100 < k) (l : List SGlassBatch) (hl : l.length <= 43) (n : ByteArray) : (∃ j : Nat, nspeculumref03_BatchAt k l n = some (j : Int) /\ j < l.length /\ seenB l j n = false /\ (l.getD j default).Name = n) \/ (nspeculumref03_BatchAt k l n = some (-1) /\ seenB l l.length n = false) := by
 unfold nspeculumref03_BatchAt
 rcases batAt_l k l hl n l.length k 0 (by omega) (by omega) (by simp [seenB]) with ⟨j, e1, e2, e3, e4, e5⟩ | ⟨e1, e2⟩
 ·exact .inl ⟨j, by rw [show nspeculumref03_BatchAt_l0_0 k l n k 0 = _ from e1]; rfl, e3, e4, e5⟩
 ·exact .inr ⟨by rw [show nspeculumref03_BatchAt_l0_0 k l n k 0 = _ from e1]; rfl, e2⟩
theorem seenB_mono (l : List SGlassBatch) (n : ByteArray) {i j : Nat} (h : i <= j) (hs : seenB l i n = true) : seenB l j n = true := by
 unfold seenB at hs ⊢
 rw [List.any_eq_true] at hs ⊢
 obtain ⟨x, hx, he⟩ := hs
 exact ⟨x, (List.take_sublist_take_left h).subset hx, he⟩
theorem seenB_at (l : List SGlassBatch) (n : ByteArray) {i : Nat} (hi : i < l.length) (h : (l.getD i default).Name = n) : seenB l (i + 1) n = true := by
 rw [seenB_succ l i hi, decide_eq_true h.symm]; rfl
theorem batAt_i (k : Nat) (hk : 100 < k) (l : List SGlassBatch) (hl : l.length <= 43) (i : Nat) (hi : i < l.length) : ∃ j : Int, nspeculumref03_BatchAt k l (l.getD i default).Name = some j /\ (j < (i : Int) ↔ seenB l i (l.getD i default).Name = true) := by
 rcases batAt_any k hk l hl (l.getD i default).Name with ⟨j, e1, e3, e4, e5⟩ | ⟨e1, e2⟩
 ·refine ⟨(j : Int), e1, ?_⟩
  constructor
  ·intro h
   exact seenB_mono l _ (show j + 1 <= i by omega) (seenB_at l _ e3 e5)
  ·intro h
   rcases Nat.lt_or_ge j i with c | c
   ·omega
   ·rw [seenB_mono l _ c h] at e4; cases e4
 ·have := seenB_mono l _ (show i + 1 <= l.length by omega) (seenB_at l (l.getD i default).Name hi rfl)
  rw [this] at e2; cases e2
theorem batches_r (k : Nat) (hk : 1000 < k) (l : List SGlassBatch) (hl : l.length <= 43) : ∀ (d fuel i : Nat), l.length = i + d -> d < fuel -> nspeculumref03_CheckBatches_l0_0 k l fuel (i : Int) = some (errI (chkB l d i)) := by
 intro d
 induction d with
 | zero =>
   intro fuel i h hf
   obtain ⟨g, rfl⟩ : ∃ g, fuel = g + 1 := ⟨fuel - 1, by omega⟩
   rw [nspeculumref03_CheckBatches_l0_0.eq_2, if_neg (by omega)]; rfl
 | succ d ih =>
   intro fuel i h hf
   obtain ⟨g, rfl⟩ : ∃ g, fuel = g + 1 := ⟨fuel - 1, by omega⟩
   have hi : i < l.length := by omega
   obtain ⟨j, hj, hji⟩ := batAt_i k (by omega) l hl i hi
   rw [nspeculumref03_CheckBatches_l0_0.eq_2, if_pos (by omega), if_pos (by omega), Int.toNat_natCast, big_succ (by omega), name_ref k (by omega), Option.bind_some, hj, Option.bind_some, wib, Option.bind_some, wib, Option.bind_some, wib, Option.bind_some, ih g (i + 1) (by omega) (by omega)]
   rcases Bool.eq_false_or_eq_true (nameB (l.getD i default).Name) with hn | hn
   ·rcases Bool.eq_false_or_eq_true (seenB l i (l.getD i default).Name) with hs | hs
    ·have hb : batE l i = 5 := by unfold batE; simp only [hn, hs, Bool.not_true]
     simp only [chkB, hb, hn, if_true]
     rw [if_pos (hji.2 hs)]; rfl
    ·have hj2 : ¬(j < (i : Int)) := fun h => by rw [hji.1 h] at hs; cases hs
     rcases Bool.eq_false_or_eq_true (okB (l.getD i default)) with ho | ho
     ·have hb : batE l i = 0 := by unfold batE; simp only [hn, hs, ho, Bool.not_false]
      unfold okB at ho
      rw [Bool.and_eq_true, Bool.and_eq_true] at ho
      simp only [chkB, hb, hn, ho.1.1, ho.1.2, ho.2, if_true]
      rw [if_neg hj2]; rfl
     ·have hb : batE l i = 2 := by unfold batE; simp only [hn, hs, ho, Bool.not_false]
      unfold okB at ho
      simp only [chkB, hb, hn, if_true]
      rw [if_neg hj2]
      cases h1 : inR 1 1000 (l.getD i default).Diameter with
      | false => rfl
      | true =>
        cases h2 : inR 1 500 (l.getD i default).Thick with
        | false => rfl
        | true =>
          rw [h1, h2] at ho
          cases h3 : inR 0 1000 (l.getD i default).Count with
          | false => rfl
          | true => rw [h3] at ho; cases ho
   ·have hb : batE l i = 4 := by unfold batE; simp only [hn]
    simp only [chkB, hb, hn, Bool.false_eq_true, if_false]; rfl
theorem checkBatches_r (k : Nat) (hk : 1000 < k) (l : List SGlassBatch) (hl : l.length <= 43) : nspeculumref03_CheckBatches k l = some (batS l) := by
 unfold nspeculumref03_CheckBatches batS
 by_cases c : l.length <= 40
 ·rw [if_neg (by omega), decide_eq_true c, show nspeculumref03_CheckBatches_l0_0 k l k 0 = _ from batches_r k hk l hl l.length k 0 (by omega) (by omega), Option.bind_some]
  unfold errI
  cases h1 : decide (chkB l l.length 0 = 0) with
  | true => dsimp only; rw [of_decide_eq_true h1]
  | false => rfl
 ·rw [if_pos (by omega), decide_eq_false c]
structure GoodB (l : List SGlassBatch) (j : Nat) : Prop where
 name : nameB (l.getD j default).Name = true
 uniq : seenB l j (l.getD j default).Name = false
 dia : 1 <= (l.getD j default).Diameter /\ (l.getD j default).Diameter <= 1000
 thick : 1 <= (l.getD j default).Thick /\ (l.getD j default).Thick <= 500
 count : 0 <= (l.getD j default).Count /\ (l.getD j default).Count <= 1000
theorem batE_zero {l : List SGlassBatch} {j : Nat} (h : batE l j = 0) : GoodB l j := by
 unfold batE at h
 cases h1 : nameB (l.getD j default).Name with
 | false => rw [h1] at h; simp at h
 | true =>
   rw [h1] at h
   cases h2 : seenB l j (l.getD j default).Name with
   | true => rw [h2] at h; simp at h
   | false =>
     rw [h2] at h
     cases h3 : okB (l.getD j default) with
     | false => rw [h3] at h; simp at h
     | true =>
       unfold okB at h3
       rw [Bool.and_eq_true, Bool.and_eq_true] at h3
       exact ⟨h1, h2, inR_t.1 h3.1.1, inR_t.1 h3.1.2, inR_t.1 h3.2⟩
theorem chkB_zero (l : List SGlassBatch) : ∀ (d i : Nat), chkB l d i = 0 -> ∀ j, i <= j -> j < i + d -> GoodB l j
 | 0, i, _, j, h1, h2 => by omega
 | d + 1, i, h, j, h1, h2 => by
   simp only [chkB] at h
   cases hd : decide (batE l i = 0) with
   | false => rw [hd] at h; exact absurd h (of_decide_eq_false hd)
   | true =>
     rw [hd] at h
     rcases Nat.eq_or_lt_of_le h1 with rfl | h3
     ·exact batE_zero (of_decide_eq_true hd)
     ·exact chkB_zero l d (i + 1) h j (by omega) (by omega)
theorem batS_zero {l : List SGlassBatch} (h : batS l = 0) : l.length <= 40 /\ ∀ j, j < l.length -> GoodB l j := by
 unfold batS at h
 cases hd : decide (l.length <= 40) with
 | false => rw [hd] at h; simp at h
 | true => rw [hd] at h; exact ⟨of_decide_eq_true hd, fun j hj => chkB_zero l l.length 0 h j (by omega) (by omega)⟩
end Go.Proofs.Ytodiglefoobjkaa.Vg

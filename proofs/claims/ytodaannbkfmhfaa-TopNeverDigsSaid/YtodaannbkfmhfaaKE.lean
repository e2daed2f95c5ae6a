import Derived.Test.YtodaannbkfmhfaaN1
import Derived.Test.YtodaannbkfmhfaaKA
set_option linter.unusedVariables false
set_option linter.unusedSimpArgs false
namespace Go.Proofs.Ytodaannbkfmhfaa.Vg
open Go Go.Proofs.Ytodaannbkfmhfaa.Ev Go.Proofs.Ytodaannbkfmhfaa.Vv
theorem big_succ {i : Nat} (h : i < 9223372036854775807) : w64 ((i : Int) + 1) = ((i + 1 : Nat) : Int) := by
 rw [w64_id (by omega) (by omega)]; omega
theorem drop_get {α : Type} {y : List α} {i : Nat} (h : i < y.length) (d : α) : y.drop i = y.getD i d :: y.drop (i + 1) := by
 rw [List.drop_eq_getElem_cons h, List.getD_eq_getElem?_getD, List.getElem?_eq_getElem h]; rfl
theorem mhas_set {V : Type} (k n : ByteArray) (v : V) : ∀ l : List (ByteArray × V), mhas (mset l k v) n = (decide (n = k) || mhas l n)
 | [] => by simp [mset, mhas]
 | e :: l => by
   simp only [mset]
   by_cases h : k = e.1
   ·rw [decide_eq_true h]
    simp only [mhas]
    subst h
    by_cases h2 : n = e.1
    ·simp [h2]
    ·simp [h2]
   ·rw [decide_eq_false h]
    simp only [mhas]
    rw [mhas_set k n v l]
    cases decide (n = e.1) <;> cases decide (n = k) <;> cases mhas l n <;> rfl
theorem mget_set {V : Type} [Inhabited V] (k n : ByteArray) (v : V) : ∀ l : List (ByteArray × V), mget (mset l k v) n = match decide (n = k) with | true => v | false => mget l n
 | [] => by simp only [mset, mget]; cases decide (n = k) <;> rfl
 | e :: l => by
   simp only [mset]
   by_cases h : k = e.1
   ·rw [decide_eq_true h]
    simp only [mget]
    subst h
    cases decide (n = e.1) <;> rfl
   ·rw [decide_eq_false h]
    simp only [mget]
    rw [mget_set k n v l]
    by_cases h2 : n = e.1
    ·rw [decide_eq_true h2, decide_eq_false (show ¬ n = k by rw [h2]; exact fun h3 => h h3.symm)]
    ·rw [decide_eq_false h2]
theorem need1 (k : Nat) (b : Bool) (e : Int) : ngrind_need_1 k b e = some (match b with | true => 0 | false => e) := by
 unfold ngrind_need_1
 cases b <;> rfl
theorem within_l (k : Nat) (xs : List Int) (lo hi : Int) (hl : xs.length <= 9223372036854775807) : ∀ (d fuel i : Nat), xs.length = i + d -> d < fuel -> ngrind_within_1_l0_0 k xs lo hi fuel (i : Int) = some (sumB ((xs.drop i).all (inR lo hi))) := by
 intro d
 induction d with
 | zero =>
   intro fuel i h hf
   obtain ⟨g, rfl⟩ : ∃ g, fuel = g + 1 := ⟨fuel - 1, by omega⟩
   rw [ngrind_within_1_l0_0.eq_2, if_neg (by omega), List.drop_eq_nil_of_le (by omega)]; rfl
 | succ d ih =>
   intro fuel i h hf
   obtain ⟨g, rfl⟩ : ∃ g, fuel = g + 1 := ⟨fuel - 1, by omega⟩
   rw [ngrind_within_1_l0_0.eq_2, if_pos (by omega), if_pos (by omega), Int.toNat_natCast, isw, Option.bind_some, big_succ (by omega), ih g (i + 1) (by omega) (by omega), drop_get (y := xs) (i := i) (by omega) 0, List.all_cons]
   cases inR lo hi (xs.getD i 0) with
   | true => rw [if_pos rfl, Bool.true_and]
   | false => rw [if_neg (by simp), Bool.false_and]; rfl
theorem within1 (k : Nat) (xs : List Int) (lo hi : Int) (hl : xs.length <= 9223372036854775807) (hk : xs.length < k) : ngrind_within_1 k xs lo hi = some (match xs.all (inR lo hi) with | true => 0 | false => 2) := by
 unfold ngrind_within_1
 have h := within_l k xs lo hi hl xs.length k 0 (by omega) (by omega)
 rw [List.drop_zero] at h
 rw [show ngrind_within_1_l0_0 k xs lo hi k 0 = _ from h, Option.bind_some]
 cases xs.all (inR lo hi) <;> rfl
def zoneB (l : List SStroke) (s : SStroke) : Bool := decide (s.Wear.length = (l.getD 0 default).Wear.length) && inR 1 40 (s.Wear.length : Int)
def seenS (l : List SStroke) (i : Nat) (n : ByteArray) : Bool := (l.take i).any fun g => decide (n = g.Name)
def chkS (l : List SStroke) : Nat -> Nat -> Int
 | 0, _ => 0
 | d + 1, i => match nameB (l.getD i default).Name with
   | false => 4
   | true => match seenS l i (l.getD i default).Name with
     | true => 5
     | false => match zoneB l (l.getD i default) with
       | false => 10
       | true => match (l.getD i default).Wear.all (inR 0 100) with
         | false => 2
         | true => chkS l d (i + 1)
theorem seenS_succ (l : List SStroke) (i : Nat) (hi : i < l.length) (n : ByteArray) : seenS l (i + 1) n = (decide (n = (l.getD i default).Name) || seenS l i n) := by
 unfold seenS
 rw [List.take_add_one, List.getElem?_eq_getElem hi, List.any_append]
 rw [List.getD_eq_getElem?_getD, List.getElem?_eq_getElem hi]
 simp [Bool.or_comm]
def errS {A : Type} (e : Int) (a : A) : Sum (Int × A) A := match decide (e = 0) with | true => .inr a | false => .inl (e, a)
theorem first4 (k : Nat) (hk : 100 < k) (n b z : Bool) (ws : List Int) (hw : ws.length <= 43) : ngrind_firstOf_c0_Lgrind_need_1_grind_need_1_grind_need_1_grind_within_1 k ((n, 4), (b, 5), (z, 10), (ws, 0, 100)) = some (match n with | false => 4 | true => match b with | false => 5 | true => match z with | false => 10 | true => match ws.all (inR 0 100) with | false => 2 | true => 0) := by
 unfold ngrind_firstOf_c0_Lgrind_need_1_grind_need_1_grind_need_1_grind_within_1
 simp only [need1, Option.bind_some, within1 k ws 0 100 (by omega) (by omega)]
 cases n with
 | false => rfl
 | true =>
   cases b with
   | false => rfl
   | true =>
     cases z with
     | false => rfl
     | true => cases ws.all (inR 0 100) <;> rfl
theorem one_str (k : Nat) (hk : 100 < k) (hk2 : k <= 100000000000000000000) (l : List SStroke) (hl : 0 < l.length) (s : SStroke) (hw : s.Wear.length <= 43) (b : Bool) {A : Type} (next : Option A) (fail : Int -> Option A) :
 ((ngrind_named k s.Name).bind fun r2095 => ((ngrind_need k b 5).bind fun r2098 => (if (0 : Int) <= 0 /\ 0 < (l.length : Int) then (if (s.Wear.length : Int) = (((l.getD ((0 : Int)).toNat default).Wear).length : Int) then ((ngrind_isWithin k (s.Wear.length : Int) 1 40).bind fun r2105 => ((ngrind_need k r2105 10).bind fun r2108 => ((ngrind_within k 0 100 s.Wear).bind fun r2112 => ((ngrind_firstOf_c0_Lgrind_need_1_grind_need_1_grind_need_1_grind_within_1 k (r2095, r2098, r2108, r2112)).bind fun r => (if r = 0 then next else fail r))))) else ((ngrind_need k false 10).bind fun r2154 => ((ngrind_within k 0 100 s.Wear).bind fun r2158 => ((ngrind_firstOf_c0_Lgrind_need_1_grind_need_1_grind_need_1_grind_within_1 k (r2095, r2098, r2154, r2158)).bind fun r => (if r = 0 then next else fail r))))) else none))) =
   (match nameB s.Name with | false => fail 4 | true => match b with | false => fail 5 | true => match zoneB l s with | false => fail 10 | true => match s.Wear.all (inR 0 100) with | false => fail 2 | true => next) := by
 unfold ngrind_named ngrind_need ngrind_within
 rw [name_pk k hk hk2]
 simp only [Option.bind_some]
 rw [if_pos (show (0 : Int) <= 0 /\ 0 < (l.length : Int) by omega), isw]
 simp only [Option.bind_some]
 rw [show ((0 : Int)).toNat = 0 from rfl]
 have fin : ∀ z : Bool, ((ngrind_firstOf_c0_Lgrind_need_1_grind_need_1_grind_need_1_grind_within_1 k ((nameB s.Name, 4), (b, 5), (z, 10), (s.Wear, 0, 100))).bind fun r => (if r = 0 then next else fail r)) = (match nameB s.Name with | false => fail 4 | true => match b with | false => fail 5 | true => match z with | false => fail 10 | true => match s.Wear.all (inR 0 100) with | false => fail 2 | true => next) := by
  intro z
  rw [first4 k hk _ _ _ _ hw, Option.bind_some]
  cases nameB s.Name with
  | false => rfl
  | true =>
    cases b with
    | false => rfl
    | true =>
      cases z with
      | false => rfl
      | true => cases s.Wear.all (inR 0 100) <;> rfl
 by_cases c : s.Wear.length = (l.getD 0 default).Wear.length
 ·rw [if_pos (by omega), fin]
  unfold zoneB
  rw [decide_eq_true c, Bool.true_and]
 ·rw [if_neg (by omega), fin]
  unfold zoneB
  rw [decide_eq_false c, Bool.false_and]
theorem strokes_p (k : Nat) (hk : 100 < k) (hk2 : k <= 100000000000000000000) (l : List SStroke) (hl : l.length <= 15) (hw : ∀ i, i < l.length -> (l.getD i default).Wear.length <= 43) (r1 r2 : Bool × Int) (r3 : Int) : ∀ (d fuel i : Nat) (y : List (ByteArray × Bool)), l.length = i + d -> d < fuel -> (∀ n, mhas y n = seenS l i n) -> (∀ n, mhas y n = true -> mget y n = true) ->
 ∃ z, ngrind_CheckStrokes_i14_i63_l0_0 k l r1 r2 r3 fuel y (i : Int) = some (errS (chkS l d i) z) := by
 intro d
 induction d with
 | zero =>
   intro fuel i y h hf _ _
   obtain ⟨g, rfl⟩ : ∃ g, fuel = g + 1 := ⟨fuel - 1, by omega⟩
   refine ⟨y, ?_⟩
   rw [ngrind_CheckStrokes_i14_i63_l0_0.eq_2, if_neg (by omega)]; rfl
 | succ d ih =>
   intro fuel i y h hf hy hy2
   obtain ⟨g, rfl⟩ : ∃ g, fuel = g + 1 := ⟨fuel - 1, by omega⟩
   have hi : i < l.length := by omega
   obtain ⟨z, hz⟩ := ih g (i + 1) (mset y (l.getD i default).Name true) (by omega) (by omega) (fun n => by rw [mhas_set, seenS_succ l i hi, hy]) (fun n hn => by
    rw [mhas_set] at hn
    rw [mget_set]
    cases hd : decide (n = (l.getD i default).Name) with
    | true => rfl
    | false => rw [hd, Bool.false_or] at hn; exact hy2 n hn)
   rw [ngrind_CheckStrokes_i14_i63_l0_0.eq_2, if_pos (by omega), if_pos (by omega), Int.toNat_natCast, big_succ (by omega), hz, one_str k hk hk2 l (by omega) _ (hw i hi), one_str k hk hk2 l (by omega) _ (hw i hi), hy]
   have hyn := hy (l.getD i default).Name
   have hg := hy2 (l.getD i default).Name
   rw [hyn] at hg
   simp only [chkS]
   cases hs : seenS l i (l.getD i default).Name with
   | true =>
     rw [if_pos rfl, hg hs]
     cases nameB (l.getD i default).Name with
     | false => exact ⟨_, rfl⟩
     | true => exact ⟨_, rfl⟩
   | false =>
     rw [if_neg (by simp)]
     cases nameB (l.getD i default).Name with
     | false => exact ⟨_, rfl⟩
     | true =>
       cases zoneB l (l.getD i default) with
       | false => exact ⟨_, rfl⟩
       | true =>
         cases (l.getD i default).Wear.all (inR 0 100) with
         | false => exact ⟨_, rfl⟩
         | true => exact ⟨z, rfl⟩
def strE (l : List SStroke) : Int := match decide (0 < l.length) with | false => 10 | true => match decide (l.length <= 12) with | false => 8 | true => chkS l l.length 0
def strR (l : List SStroke) : Int × Int := match decide (strE l = 0) with | true => (((l.getD 0 default).Wear.length : Int), 0) | false => (0, strE l)
theorem checkStrokes_p (k : Nat) (hk : 100 < k) (hk2 : k <= 100000000000000000000) (l : List SStroke) (hl : l.length <= 15) (hw : ∀ i, i < l.length -> (l.getD i default).Wear.length <= 43) : ngrind_CheckStrokes k l = some (strR l) := by
 unfold ngrind_CheckStrokes ngrind_need strR strE
 have hd0 : decide (0 < (l.length : Int)) = decide (0 < l.length) := by congr 1; simp only [eq_iff_iff]; omega
 have hd : decide ((l.length : Int) <= 12) = decide (l.length <= 12) := by congr 1; simp only [eq_iff_iff]; omega
 rw [hd, hd0, Option.bind_some, Option.bind_some, need1, Option.bind_some, need1, Option.bind_some]
 cases h0 : decide (0 < l.length) with
 | false => rfl
 | true =>
   have h0 := of_decide_eq_true h0
   cases decide (l.length <= 12) with
   | false => rfl
   | true =>
     obtain ⟨z, hz⟩ := strokes_p k hk hk2 l hl hw (true, 10) (true, 8) 0 l.length k 0 [] (by omega) (by omega) (fun n => by simp [mhas, seenS]) (fun n h => by cases h)
     dsimp only
     rw [if_pos rfl, if_pos rfl, show ngrind_CheckStrokes_i14_i63_l0_0 k l (true, 10) (true, 8) 0 k [] 0 = _ from hz, Option.bind_some]
     unfold errS ngrind_zonesOf
     rw [if_pos (by omega)]
     cases h1 : decide (chkS l l.length 0 = 0) with
     | true => rfl
     | false => dsimp only; rw [if_neg (of_decide_eq_false h1)]
theorem seenS_mono (l : List SStroke) (n : ByteArray) {i j : Nat} (h : i <= j) (hs : seenS l i n = true) : seenS l j n = true := by
 unfold seenS at hs ⊢
 rw [List.any_eq_true] at hs ⊢
 obtain ⟨x, hx, he⟩ := hs
 exact ⟨x, (List.take_sublist_take_left h).subset hx, he⟩
theorem seenS_at (l : List SStroke) (n : ByteArray) {i : Nat} (hi : i < l.length) (h : (l.getD i default).Name = n) : seenS l (i + 1) n = true := by
 rw [seenS_succ l i hi, decide_eq_true h.symm]; rfl
structure GoodS (l : List SStroke) (s : SStroke) : Prop where
 len : s.Wear.length = (l.getD 0 default).Wear.length
 z1 : 1 <= s.Wear.length
 z2 : s.Wear.length <= 40
 wear : ∀ x ∈ s.Wear, 0 <= x /\ x <= 100
theorem chkS_zero (l : List SStroke) : ∀ (d i : Nat), l.length = i + d -> chkS l d i = 0 -> ∀ j, i <= j -> j < l.length -> GoodS l (l.getD j default) /\ seenS l j (l.getD j default).Name = false
 | 0, i, h, _, j, h1, h2 => by omega
 | d + 1, i, h, h0, j, h1, h2 => by
   simp only [chkS] at h0
   cases hn : nameB (l.getD i default).Name with
   | false => rw [hn] at h0; simp at h0
   | true =>
     rw [hn] at h0
     cases hs : seenS l i (l.getD i default).Name with
     | true => rw [hs] at h0; simp at h0
     | false =>
       rw [hs] at h0
       cases hg : zoneB l (l.getD i default) with
       | false => rw [hg] at h0; simp at h0
       | true =>
         rw [hg] at h0
         cases hw : (l.getD i default).Wear.all (inR 0 100) with
         | false => rw [hw] at h0; simp at h0
         | true =>
           rw [hw] at h0
           by_cases e : i = j
           ·subst e
            unfold zoneB at hg
            rw [Bool.and_eq_true] at hg
            have g2 := inR_t.1 hg.2
            exact ⟨⟨of_decide_eq_true hg.1, by omega, by omega, fun x hx => inR_t.1 (List.all_eq_true.1 hw x hx)⟩, hs⟩
           ·exact chkS_zero l d (i + 1) (by omega) h0 j (by omega) h2
theorem strE_zero {l : List SStroke} (h : strE l = 0) : 0 < l.length /\ l.length <= 12 /\ ∀ j, j < l.length -> GoodS l (l.getD j default) /\ seenS l j (l.getD j default).Name = false := by
 unfold strE at h
 cases h0 : decide (0 < l.length) with
 | false => rw [h0] at h; simp at h
 | true =>
   rw [h0] at h
   cases hd : decide (l.length <= 12) with
   | false => rw [hd] at h; simp at h
   | true =>
     rw [hd] at h
     exact ⟨of_decide_eq_true h0, of_decide_eq_true hd, fun j hj => chkS_zero l l.length 0 (by omega) h j (by omega) hj⟩
end Go.Proofs.Ytodaannbkfmhfaa.Vg

import Derived.Test.YtbaegoglpijnnabA0
import Derived.Test.YtbaegoglpijnnabKG
set_option linter.unusedVariables false
set_option linter.unusedSimpArgs false
namespace Go.Proofs.Ytbaegoglpijnnab.Vg
open Go Go.Proofs.Ytbaegoglpijnnab.Ev Go.Proofs.Ytbaegoglpijnnab.Vv
theorem byName_l (k : Nat) (l : List SStroke) (hl : l.length <= 15) : ∀ (d fuel i : Nat) (y : List (ByteArray × List Int)), l.length = i + d -> d < fuel -> (∀ n, mhas y n = seenS l i n) ->
 (∀ j, j < i -> (∀ j', j' < l.length -> seenS l j' (l.getD j' default).Name = false) -> mget y (l.getD j default).Name = (l.getD j default).Wear) ->
 ∃ z, ngrind_wearByName_l0_0 k l fuel y (i : Int) = some z /\ (∀ n, mhas z n = seenS l l.length n) /\ ((∀ j', j' < l.length -> seenS l j' (l.getD j' default).Name = false) -> ∀ j, j < l.length -> mget z (l.getD j default).Name = (l.getD j default).Wear) := by
 intro d
 induction d with
 | zero =>
   intro fuel i y h hf hy hg
   obtain ⟨g, rfl⟩ : ∃ g, fuel = g + 1 := ⟨fuel - 1, by omega⟩
   obtain rfl : i = l.length := by omega
   exact ⟨y, by rw [ngrind_wearByName_l0_0.eq_2, if_neg (by omega)], hy, fun h j hj => hg j hj h⟩
 | succ d ih =>
   intro fuel i y h hf hy hg
   obtain ⟨g, rfl⟩ : ∃ g, fuel = g + 1 := ⟨fuel - 1, by omega⟩
   have hi : i < l.length := by omega
   rw [ngrind_wearByName_l0_0.eq_2, if_pos (by omega), if_pos (by omega), Int.toNat_natCast, big_succ (by omega)]
   refine ih g (i + 1) _ (by omega) (by omega) (fun n => by rw [mhas_set, seenS_succ l i hi, hy]) (fun j hj hu => ?_)
   rw [mget_set]
   by_cases e : (l.getD j default).Name = (l.getD i default).Name
   ·rw [decide_eq_true e]
    by_cases ej : j = i
    ·rw [ej]
    ·have h1 := seenS_mono l (l.getD i default).Name (show j + 1 <= i by omega) (seenS_at l _ (show j < l.length by omega) e)
     rw [hu i hi] at h1; cases h1
   ·rw [decide_eq_false e]
    by_cases ej : j = i
    ·rw [ej] at e; exact absurd rfl e
    ·exact hg j (by omega) hu
theorem byName_any (k : Nat) (hk : 100 < k) (l : List SStroke) (hl : l.length <= 15) : ∃ z, ngrind_wearByName k l = some z /\ (∀ n, mhas z n = seenS l l.length n) /\ ((∀ j', j' < l.length -> seenS l j' (l.getD j' default).Name = false) -> ∀ j, j < l.length -> mget z (l.getD j default).Name = (l.getD j default).Wear) := by
 obtain ⟨z, h1, h2, h3⟩ := byName_l k l hl l.length k 0 [] (by omega) (by omega) (fun n => by simp [mhas, seenS]) (fun j hj => by omega)
 refine ⟨z, ?_, h2, h3⟩
 unfold ngrind_wearByName
 rw [show ngrind_wearByName_l0_0 k l k [] 0 = _ from h1]; rfl
def sesE1 (l : List SStroke) (s : SGrindSession) : Int := match nameB s.Mirror with
 | false => 4
 | true => match seenS l l.length s.Stroke with
   | false => 6
   | true => match inR 1 10000 s.Minutes with
     | false => 2
     | true => 0
def sesL (l : List SStroke) : List SGrindSession -> Int
 | [] => 0
 | s :: ss => match decide (sesE1 l s = 0) with | true => sesL l ss | false => sesE1 l s
def sesE (l : List SStroke) (ss : List SGrindSession) : Int := match decide (ss.length <= 200) with | false => 8 | true => sesL l ss
theorem first3 (k : Nat) (hk : 100 < k) (n b : Bool) (x : Int) : ngrind_firstOf_c0_Lgrind_need_1_grind_need_1_grind_within_1 k ((n, 4), (b, 6), ([x], 1, 10000)) = some (match n with | false => 4 | true => match b with | false => 6 | true => match inR 1 10000 x with | false => 2 | true => 0) := by
 unfold ngrind_firstOf_c0_Lgrind_need_1_grind_need_1_grind_within_1
 simp only [need1, Option.bind_some, within1 k [x] 1 10000 (by simp) (by simp; omega), List.all_cons, List.all_nil, Bool.and_true]
 cases n with
 | false => rfl
 | true =>
   cases b with
   | false => rfl
   | true => cases inR 1 10000 x <;> rfl
theorem ses_p (k : Nat) (hk : 100 < k) (hk2 : k <= 100000000000000000000) (l : List SStroke) (z : List (ByteArray × List Int)) (hz : ∀ n, mhas z n = seenS l l.length n) (ss : List SGrindSession) (hs : ss.length <= 203) (i : Nat) (hi : i < ss.length) : ngrind_validSessions_1_1 k (i : Int) z ss = some (sesE1 l (ss.getD i default)) := by
 unfold ngrind_validSessions_1_1 ngrind_named ngrind_need ngrind_within
 rw [if_pos (by omega), Int.toNat_natCast, hz, name_pk k hk hk2]
 simp only [Option.bind_some]
 rw [first3 k hk, first3 k hk]
 unfold sesE1
 cases seenS l l.length (ss.getD i default).Stroke with
 | true => rw [if_pos rfl]; rfl
 | false => rw [if_neg (by simp)]; rfl
theorem each_l (k : Nat) (hk : 100 < k) (hk2 : k <= 100000000000000000000) (l : List SStroke) (z : List (ByteArray × List Int)) (hz : ∀ n, mhas z n = seenS l l.length n) (ss : List SGrindSession) (hs : ss.length <= 203) : ∀ (d fuel i : Nat), ss.length = i + d -> d < fuel -> ngrind_each_1_k_grind_validSessions_1_1_l0_0 k (ss.length : Int) (z, ss) fuel (i : Int) = some (errE (sesL l (ss.drop i))) := by
 intro d
 induction d with
 | zero =>
   intro fuel i h hf
   obtain ⟨g, rfl⟩ : ∃ g, fuel = g + 1 := ⟨fuel - 1, by omega⟩
   rw [ngrind_each_1_k_grind_validSessions_1_1_l0_0.eq_2, if_neg (by omega), List.drop_eq_nil_of_le (by omega)]; rfl
 | succ d ih =>
   intro fuel i h hf
   obtain ⟨g, rfl⟩ : ∃ g, fuel = g + 1 := ⟨fuel - 1, by omega⟩
   rw [ngrind_each_1_k_grind_validSessions_1_1_l0_0.eq_2, if_pos (by omega)]
   dsimp only
   rw [ses_p k hk hk2 l z hz ss hs i (by omega), Option.bind_some, big_succ (by omega), ih g (i + 1) (by omega) (by omega), drop_get (y := ss) (i := i) (by omega) default]
   simp only [sesL]
   cases hd : decide (sesE1 l (ss.getD i default) = 0) with
   | true => rw [if_pos (of_decide_eq_true hd)]
   | false => rw [if_neg (of_decide_eq_false hd)]; unfold errE; rw [hd]
theorem valid_p (k : Nat) (hk : 1000 < k) (hk2 : k <= 100000000000000000000) (l : List SStroke) (hl : l.length <= 15) (ss : List SGrindSession) (hs : ss.length <= 203) : ngrind_validSessions_1 k l ss = some (sesE l ss) := by
 obtain ⟨z, h1, h2, _⟩ := byName_any k (by omega) l hl
 have he := each_l k (by omega) hk2 l z h2 ss hs ss.length k 0 (by omega) (by omega)
 rw [List.drop_zero] at he
 have hd : decide ((ss.length : Int) <= 200) = decide (ss.length <= 200) := by congr 1; simp only [eq_iff_iff]; omega
 unfold ngrind_validSessions_1 ngrind_need ngrind_each_c1_grind_validSessions_1_1 ngrind_firstOf_c0_Lgrind_need_1_grind_each_1_grind_validSessions_1_1 ngrind_each_1_k_grind_validSessions_1_1 sesE
 rw [h1, hd]
 simp only [Option.bind_some]
 rw [need1, Option.bind_some]
 cases decide (ss.length <= 200) with
 | false => rfl
 | true =>
   dsimp only
   rw [if_pos rfl, show ngrind_each_1_k_grind_validSessions_1_1_l0_0 k (ss.length : Int) (z, ss) k 0 = _ from he, Option.bind_some]
   unfold errE
   cases h0 : decide (sesL l ss = 0) with
   | true => dsimp only; rw [of_decide_eq_true h0]; rfl
   | false => dsimp only; rw [Option.bind_some, if_neg (of_decide_eq_false h0), Option.bind_some]
theorem sesL_zero {l : List SStroke} : ∀ {ss : List SGrindSession}, sesL l ss = 0 -> ∀ s ∈ ss, sesE1 l s = 0
 | [], _, s, hs => by cases hs
 | x :: ss, h, s, hs => by
   simp only [sesL] at h
   cases hd : decide (sesE1 l x = 0) with
   | false => rw [hd] at h; exact absurd h (of_decide_eq_false hd)
   | true =>
     rw [hd] at h
     rcases List.mem_cons.1 hs with rfl | hs
     ·exact of_decide_eq_true hd
     ·exact sesL_zero h s hs
theorem few_l (k : Nat) (l : List SGrindSession) (hl : l.length <= 9223372036854775807) : ∀ (d fuel i : Nat), l.length = i + d -> d < fuel -> ∃ b, nspeculumlaw04_Few_l0_0 k l fuel (i : Int) = some (sumB b) := by
 intro d
 induction d with
 | zero =>
   intro fuel i h hf
   obtain ⟨g, rfl⟩ : ∃ g, fuel = g + 1 := ⟨fuel - 1, by omega⟩
   exact ⟨true, by rw [nspeculumlaw04_Few_l0_0.eq_2, if_neg (by omega)]; rfl⟩
 | succ d ih =>
   intro fuel i h hf
   obtain ⟨g, rfl⟩ : ∃ g, fuel = g + 1 := ⟨fuel - 1, by omega⟩
   rw [nspeculumlaw04_Few_l0_0.eq_2, if_pos (by omega), if_pos (by omega), Int.toNat_natCast, big_succ (by omega)]
   by_cases c1 : 30 < (((l.getD i default).Mirror).size : Int)
   ·rw [if_pos c1]; exact ⟨false, rfl⟩
   ·rw [if_neg c1]
    by_cases c2 : 30 < (((l.getD i default).Stroke).size : Int)
    ·rw [if_pos c2]; exact ⟨false, rfl⟩
    ·rw [if_neg c2]; exact ih g (i + 1) (by omega) (by omega)
theorem few_any (k : Nat) (l : List SGrindSession) (hl : l.length <= 9223372036854775807) (hk : l.length < k) : ∃ b, nspeculumlaw04_Few k l = some b /\ (b = true -> l.length <= 203) := by
 obtain ⟨b, hb⟩ := few_l k l hl l.length k 0 (by omega) hk
 unfold nspeculumlaw04_Few
 rw [show nspeculumlaw04_Few_l0_0 k l k 0 = _ from hb, Option.bind_some]
 cases b with
 | false => exact ⟨false, rfl, fun h => by cases h⟩
 | true =>
   dsimp only [sumB]
   by_cases c1 : (l.length : Int) <= 10
   ·rw [if_pos c1]; exact ⟨_, rfl, fun _ => by omega⟩
   ·rw [if_neg c1]
    by_cases c2 : (200 : Int) < (l.length : Int)
    ·rw [if_pos c2]; exact ⟨_, rfl, fun h => by have := of_decide_eq_true h; omega⟩
    ·rw [if_neg c2]; exact ⟨_, rfl, fun h => by cases h⟩
theorem sesE_zero {l : List SStroke} {ss : List SGrindSession} (h : sesE l ss = 0) : ss.length <= 200 /\ sesL l ss = 0 := by
 unfold sesE at h
 cases hd : decide (ss.length <= 200) with
 | true => rw [hd] at h; exact ⟨of_decide_eq_true hd, h⟩
 | false => rw [hd] at h; simp at h
def sesC (l : List SStroke) (d : SGrindDemand) (ss : List SGrindSession) : Int := if strE l = 0 then (if demE l d = 0 then sesE l ss else demE l d) else strE l
theorem firstS3 (k : Nat) (hk : 1000 < k) (hk2 : k <= 100000000000000000000) (l : List SStroke) (hl15 : l.length <= 15) (hw : ∀ i, i < l.length -> (l.getD i default).Wear.length <= 43) (d : SGrindDemand) (ss : List SGrindSession) (hs : ss.length <= 203) : ngrind_firstOf_c0_Lgrind_validStrokes_1_grind_validDemand_1_grind_validSessions_1 k (l, (d.Low, d.High, l), (l, ss)) = some (sesC l d ss) := by
 unfold ngrind_firstOf_c0_Lgrind_validStrokes_1_grind_validDemand_1_grind_validSessions_1 sesC
 dsimp only
 rw [strokes1 k (by omega) hk2 l hl15 hw, Option.bind_some]
 by_cases hl : strE l = 0
 ·rw [if_pos hl, if_pos hl, dem_p k (by omega) l hl, Option.bind_some]
  by_cases hd : demE l d = 0
  ·rw [if_pos hd, if_pos hd, valid_p k hk hk2 l hl15 ss hs, Option.bind_some]
   by_cases h : sesE l ss = 0
   ·rw [if_pos h, h]
   ·rw [if_neg h]
  ·rw [if_neg hd, if_neg hd]
 ·rw [if_neg hl, if_neg hl]
theorem sesL_all {l : List SStroke} : ∀ {ss : List SGrindSession}, (∀ s ∈ ss, sesE1 l s = 0) -> sesL l ss = 0
 | [], _ => rfl
 | x :: ss, h => by
   simp only [sesL]
   rw [decide_eq_true (h x (by simp))]
   exact sesL_all (fun s hs => h s (by simp [hs]))
def wS (mi : ByteArray) (m : List (ByteArray × List Int)) : List SGrindSession -> Nat -> Int
 | [], _ => 0
 | s :: ss, z => (if s.Mirror = mi then s.Minutes * (mget m s.Stroke).getD z 0 else 0) + wS mi m ss z
theorem wS_append (mi : ByteArray) (m : List (ByteArray × List Int)) (z : Nat) : ∀ a b : List SGrindSession, wS mi m (a ++ b) z = wS mi m a z + wS mi m b z
 | [], b => by simp [wS]
 | s :: a, b => by simp only [List.cons_append, wS]; rw [wS_append mi m z a b]; omega
theorem getD_mem2 {l : List Int} {i : Nat} (h : i < l.length) : l.getD i 0 ∈ l := by
 rw [List.getD_eq_getElem?_getD, List.getElem?_eq_getElem h]; exact List.getElem_mem h
theorem ses_facts (k : Nat) (hk : 100 < k) {l : List SStroke} (hl : strE l = 0) : ∃ m, ngrind_wearByName k l = some m /\ (∀ n, mhas m n = seenS l l.length n) /\ ∀ s, sesE1 l s = 0 -> mhas m s.Stroke = true /\ nameB s.Mirror = true /\ (1 <= s.Minutes /\ s.Minutes <= 10000) /\ (mget m s.Stroke).length = zones l /\ ∀ z, z < zones l -> 0 <= (mget m s.Stroke).getD z 0 /\ (mget m s.Stroke).getD z 0 <= 100 := by
 obtain ⟨h0, h12, hg⟩ := strE_zero hl
 obtain ⟨m, h1, h2, h3⟩ := byName_any k hk l (by omega)
 refine ⟨m, h1, h2, fun s h => ?_⟩
 unfold sesE1 at h
 cases hn : nameB s.Mirror with
 | false => rw [hn] at h; simp at h
 | true =>
   rw [hn] at h
   cases hsn : seenS l l.length s.Stroke with
   | false => rw [hsn] at h; simp at h
   | true =>
     rw [hsn] at h
     cases hm : inR 1 10000 s.Minutes with
     | false => rw [hm] at h; simp at h
     | true =>
       have hex : ∃ j, j < l.length /\ (l.getD j default).Name = s.Stroke := by
        unfold seenS at hsn
        rw [List.take_length, List.any_eq_true] at hsn
        obtain ⟨x, hx, he⟩ := hsn
        obtain ⟨j, hj, rfl⟩ := List.mem_iff_getElem.1 hx
        exact ⟨j, hj, by rw [List.getD_eq_getElem?_getD, List.getElem?_eq_getElem hj]; exact (of_decide_eq_true he).symm⟩
       obtain ⟨j, hj, hjn⟩ := hex
       have hgj := (hg j hj).1
       have hw : mget m s.Stroke = (l.getD j default).Wear := by rw [<- hjn]; exact h3 (fun j' hj' => (hg j' hj').2) j hj
       have hlen : (mget m s.Stroke).length = zones l := by rw [hw]; exact hgj.len
       refine ⟨by rw [h2]; exact hsn, rfl, inR_t.1 hm, hlen, fun z hz => ?_⟩
       have hmem := getD_mem2 (l := mget m s.Stroke) (i := z) (by omega)
       rw [hw] at hmem ⊢
       exact hgj.wear _ hmem
theorem wS_bd {l : List SStroke} {m : List (ByteArray × List Int)} (hm : ∀ s, sesE1 l s = 0 -> mhas m s.Stroke = true /\ nameB s.Mirror = true /\ (1 <= s.Minutes /\ s.Minutes <= 10000) /\ (mget m s.Stroke).length = zones l /\ ∀ z, z < zones l -> 0 <= (mget m s.Stroke).getD z 0 /\ (mget m s.Stroke).getD z 0 <= 100) (mi : ByteArray) {z : Nat} (hz : z < zones l) : ∀ ss : List SGrindSession, (∀ s ∈ ss, sesE1 l s = 0) -> 0 <= wS mi m ss z /\ wS mi m ss z <= (ss.length : Int) * 1000000
 | [], _ => by simp [wS]
 | s :: ss, h => by
   have ih := wS_bd hm mi hz ss (fun x hx => h x (by simp [hx]))
   obtain ⟨_, _, h1, _, h2⟩ := hm s (h s (by simp))
   have h3 := h2 z hz
   have p1 := Int.mul_nonneg (show 0 <= s.Minutes by omega) h3.1
   have p2 : s.Minutes * (mget m s.Stroke).getD z 0 <= 10000 * 100 := Int.mul_le_mul h1.2 h3.2 h3.1 (by omega)
   simp only [wS, List.length_cons]
   split <;> omega
theorem set_next {f : Nat -> Int} {y : List Int} {i : Nat} (hi : i < y.length) : ((List.range i).map f ++ y.drop i).set i (f i) = (List.range (i + 1)).map f ++ y.drop (i + 1) := by
 rw [List.set_append, if_neg (by simp), List.length_map, List.length_range, Nat.sub_self, List.drop_eq_getElem_cons hi, List.set_cons_zero, List.range_succ, List.map_append, List.append_assoc]
 rfl
theorem get_next {f : Nat -> Int} {y : List Int} {i : Nat} (hi : i < y.length) : ((List.range i).map f ++ y.drop i).getD i 0 = y.getD i 0 := by
 rw [List.getD_eq_getElem?_getD, List.getElem?_append_right (by simp), List.length_map, List.length_range, Nat.sub_self, List.getElem?_drop, Nat.add_zero, <- List.getD_eq_getElem?_getD]
theorem getD_map {f : Nat -> Int} {n z : Nat} (h : z < n) : ((List.range n).map f).getD z 0 = f z := by
 rw [List.getD_eq_getElem?_getD, List.getElem?_map, List.getElem?_range h]; rfl
theorem zone_p (k : Nat) (ss : List SGrindSession) (mi : ByteArray) (i : Nat) (hi : i < ss.length) (m : List (ByteArray × List Int)) (hz : (mget m (ss.getD i default).Stroke).length <= 43) (y0 : List Int) (hy0 : y0.length = (mget m (ss.getD i default).Stroke).length) : ∀ (d fuel x : Nat), y0.length = x + d -> d < fuel ->
 ngrind_wearOf_l1_0 k ss mi (i : Int) m fuel ((List.range x).map (fun z => w64 (y0.getD z 0 + w64 ((ss.getD i default).Minutes * (mget m (ss.getD i default).Stroke).getD z 0))) ++ y0.drop x) (x : Int) = some (m, (List.range y0.length).map (fun z => w64 (y0.getD z 0 + w64 ((ss.getD i default).Minutes * (mget m (ss.getD i default).Stroke).getD z 0)))) := by
 intro d
 induction d with
 | zero =>
   intro fuel x h hf
   obtain ⟨g, rfl⟩ : ∃ g, fuel = g + 1 := ⟨fuel - 1, by omega⟩
   rw [ngrind_wearOf_l1_0.eq_2, Int.toNat_natCast, if_neg (by omega), List.drop_eq_nil_of_le (by omega), List.append_nil, show x = y0.length by omega]
 | succ d ih =>
   intro fuel x h hf
   obtain ⟨g, rfl⟩ : ∃ g, fuel = g + 1 := ⟨fuel - 1, by omega⟩
   rw [ngrind_wearOf_l1_0.eq_2]
   simp only [Int.toNat_natCast]
   rw [if_pos (by omega), if_pos (by omega), if_pos (by simp; omega), get_next (by omega), big_succ (by omega)]
   have e := set_next (f := fun z => w64 (y0.getD z 0 + w64 ((ss.getD i default).Minutes * (mget m (ss.getD i default).Stroke).getD z 0))) (y := y0) (i := x) (by omega)
   rw [e]
   exact ih g (x + 1) (by omega) (by omega)
theorem wearL (k : Nat) (hk : 1000 < k) {l : List SStroke} (hl : strE l = 0) {m : List (ByteArray × List Int)} (hm : ∀ s, sesE1 l s = 0 -> mhas m s.Stroke = true /\ nameB s.Mirror = true /\ (1 <= s.Minutes /\ s.Minutes <= 10000) /\ (mget m s.Stroke).length = zones l /\ ∀ z, z < zones l -> 0 <= (mget m s.Stroke).getD z 0 /\ (mget m s.Stroke).getD z 0 <= 100) (ss : List SGrindSession) (hs : ss.length <= 203) (hok : ∀ s ∈ ss, sesE1 l s = 0) (mi : ByteArray) : ∀ (d fuel i : Nat) (f : Nat -> Int), ss.length = i + d -> d < fuel -> (∀ z, z < zones l -> 0 <= f z /\ f z <= (i : Int) * 1000000) ->
 ngrind_wearOf_l0_0 k ss mi fuel ((List.range (zones l)).map f) (i : Int) m = some ((List.range (zones l)).map (fun z => f z + wS mi m (ss.drop i) z)) := by
 obtain ⟨h0, h12, hg⟩ := strE_zero hl
 have hz2 : zones l <= 40 := (hg 0 h0).1.z2
 intro d
 induction d with
 | zero =>
   intro fuel i f h hf hfb
   obtain ⟨g, rfl⟩ : ∃ g, fuel = g + 1 := ⟨fuel - 1, by omega⟩
   rw [ngrind_wearOf_l0_0.eq_2, if_neg (by omega), List.drop_eq_nil_of_le (by omega)]
   simp only [wS, Int.add_zero]
 | succ d ih =>
   intro fuel i f h hf hfb
   obtain ⟨g, rfl⟩ : ∃ g, fuel = g + 1 := ⟨fuel - 1, by omega⟩
   have hi : i < ss.length := by omega
   have hmem : ss.getD i default ∈ ss := by rw [List.getD_eq_getElem?_getD, List.getElem?_eq_getElem hi]; exact List.getElem_mem hi
   obtain ⟨m1, _, m2, m3, m4⟩ := hm _ (hok _ hmem)
   rw [ngrind_wearOf_l0_0.eq_2]
   simp only [Int.toNat_natCast]
   rw [if_pos (by omega), if_pos (by omega), big_succ (by omega), drop_get (y := ss) (i := i) hi default]
   by_cases c : (ss.getD i default).Mirror = mi
   ·have hzo := zone_p k ss mi i hi m (by omega) ((List.range (zones l)).map f) (by rw [List.length_map, List.length_range]; exact m3.symm) (zones l) k 0 (by rw [List.length_map, List.length_range]; omega) (by omega)
    rw [List.range_zero, List.map_nil, List.nil_append, List.drop_zero] at hzo
    rw [if_pos c, if_pos m1, show ngrind_wearOf_l1_0 k ss mi (i : Int) m k ((List.range (zones l)).map f) 0 = _ from hzo, Option.bind_some]
    dsimp only
    have e : (List.range ((List.range (zones l)).map f).length).map (fun z => w64 (((List.range (zones l)).map f).getD z 0 + w64 ((ss.getD i default).Minutes * (mget m (ss.getD i default).Stroke).getD z 0))) = (List.range (zones l)).map (fun z => f z + (ss.getD i default).Minutes * (mget m (ss.getD i default).Stroke).getD z 0) := by
     rw [List.length_map, List.length_range]
     apply List.map_congr_left
     intro z hz
     have hz' := List.mem_range.1 hz
     have b1 := hfb z hz'
     have b2 := m4 z hz'
     have p1 := Int.mul_nonneg (show 0 <= (ss.getD i default).Minutes by omega) b2.1
     have p2 : (ss.getD i default).Minutes * (mget m (ss.getD i default).Stroke).getD z 0 <= 10000 * 100 := Int.mul_le_mul m2.2 b2.2 b2.1 (by omega)
     rw [getD_map hz', w64_id (n := (ss.getD i default).Minutes * _) (by omega) (by omega), w64_id (by omega) (by omega)]
    rw [e, ih g (i + 1) _ (by omega) (by omega) (fun z hz => ?_)]
    ·congr 1
     apply List.map_congr_left
     intro z _
     simp only [wS]
     rw [if_pos c]; omega
    ·have b1 := hfb z hz
     have b2 := m4 z hz
     have p1 := Int.mul_nonneg (show 0 <= (ss.getD i default).Minutes by omega) b2.1
     have p2 : (ss.getD i default).Minutes * (mget m (ss.getD i default).Stroke).getD z 0 <= 10000 * 100 := Int.mul_le_mul m2.2 b2.2 b2.1 (by omega)
     omega
   ·rw [if_neg c, ih g (i + 1) f (by omega) (by omega) (fun z hz => by have := hfb z hz; omega)]
    congr 1
    apply List.map_congr_left
    intro z _
    simp only [wS]
    rw [if_neg c]; omega
theorem wear_p (k : Nat) (hk : 1000 < k) {l : List SStroke} (hl : strE l = 0) {m : List (ByteArray × List Int)} (h1 : ngrind_wearByName k l = some m) (hm : ∀ s, sesE1 l s = 0 -> mhas m s.Stroke = true /\ nameB s.Mirror = true /\ (1 <= s.Minutes /\ s.Minutes <= 10000) /\ (mget m s.Stroke).length = zones l /\ ∀ z, z < zones l -> 0 <= (mget m s.Stroke).getD z 0 /\ (mget m s.Stroke).getD z 0 <= 100) (ss : List SGrindSession) (hs : ss.length <= 203) (hok : sesL l ss = 0) (mi : ByteArray) : ngrind_wearOf k l ss mi = some ((List.range (zones l)).map (wS mi m ss)) := by
 obtain ⟨h0, h12, hg⟩ := strE_zero hl
 have hz2 : zones l <= 40 := (hg 0 h0).1.z2
 have h := wearL k hk hl hm ss hs (sesL_zero hok) mi ss.length k 0 (fun _ => 0) (by omega) (by omega) (fun z _ => by omega)
 have er : List.replicate (zones l) (0 : Int) = (List.range (zones l)).map (fun _ => 0) := by
  apply List.ext_getElem (by simp)
  intro j h1 h2
  simp
 unfold ngrind_wearOf ngrind_zonesOf
 rw [h1, Option.bind_some, if_pos (by omega), Option.bind_some, show ((0 : Int)).toNat = 0 from rfl]
 show (if 0 <= (zones l : Int) /\ (zones l : Int) <= 1000000000 then _ else none) = _
 rw [if_pos (by omega)]
 show ((ngrind_wearOf_l0_0 k ss mi k (List.replicate (zones l) 0) 0 m).bind fun r => some r) = _
 rw [er, show ngrind_wearOf_l0_0 k ss mi k ((List.range (zones l)).map (fun _ => 0)) 0 m = _ from h, Option.bind_some, List.drop_zero]
 congr 1
 apply List.map_congr_left
 intro z _
 omega
def lowB (u h : List Int) : Nat -> Nat -> Bool
 | 0, _ => true
 | n + 1, i => match decide (h.getD i 0 < u.getD i 0) with
   | true => false
   | false => lowB u h n (i + 1)
theorem over_b (k : Nat) (lo hi u : List Int) (hu : u.length <= 43) (hd : u.length = hi.length) : ∀ (n fuel i : Nat), u.length = i + n -> n < fuel ->
 ngrind_withinHigh_1_l0_0 k lo hi u fuel (i : Int) = some (sumB (lowB u hi n i)) := by
 intro n
 induction n with
 | zero =>
   intro fuel i h hf
   obtain ⟨g, rfl⟩ : ∃ g, fuel = g + 1 := ⟨fuel - 1, by omega⟩
   rw [ngrind_withinHigh_1_l0_0.eq_2, if_neg (by omega)]; rfl
 | succ n ih =>
   intro fuel i h hf
   obtain ⟨g, rfl⟩ : ∃ g, fuel = g + 1 := ⟨fuel - 1, by omega⟩
   rw [ngrind_withinHigh_1_l0_0.eq_2, if_pos (by omega), if_pos (by omega), if_pos (by omega), Int.toNat_natCast, big_succ (by omega), ih g (i + 1) (by omega) (by omega)]
   simp only [lowB]
   by_cases c : hi.getD i 0 < u.getD i 0
   ·rw [if_pos c, decide_eq_true c]; rfl
   ·rw [if_neg c, decide_eq_false c]
def under (u h : List Int) : Bool := lowB u h u.length 0
theorem lowB_iff (u h : List Int) : ∀ n i : Nat, lowB u h n i = true ↔ ∀ z, i <= z -> z < i + n -> u.getD z 0 <= h.getD z 0
 | 0, i => ⟨fun _ z h1 h2 => by omega, fun _ => rfl⟩
 | n + 1, i => by
   simp only [lowB]
   by_cases c : h.getD i 0 < u.getD i 0
   ·rw [decide_eq_true c]
    constructor
    ·intro hh; cases hh
    ·intro hh; have := hh i (by omega) (by omega); omega
   ·rw [decide_eq_false c]
    dsimp only
    rw [lowB_iff u h n (i + 1)]
    constructor
    ·intro hh z h1 h2
     rcases Nat.eq_or_lt_of_le h1 with rfl | h3
     ·omega
     ·exact hh z (by omega) (by omega)
    ·intro hh z h1 h2; exact hh z (by omega) (by omega)
theorem within_p (k : Nat) (hk : 1000 < k) {l : List SStroke} (hl : strE l = 0) {m : List (ByteArray × List Int)} (h1 : ngrind_wearByName k l = some m) (hm : ∀ s, sesE1 l s = 0 -> mhas m s.Stroke = true /\ nameB s.Mirror = true /\ (1 <= s.Minutes /\ s.Minutes <= 10000) /\ (mget m s.Stroke).length = zones l /\ ∀ z, z < zones l -> 0 <= (mget m s.Stroke).getD z 0 /\ (mget m s.Stroke).getD z 0 <= 100) (ss : List SGrindSession) (hs : ss.length <= 203) (hok : sesL l ss = 0) (mi : ByteArray) (lo hi : List Int) (hhi : hi.length = zones l) : ngrind_withinHigh_1 k l ss mi lo hi = some (match under ((List.range (zones l)).map (wS mi m ss)) hi with | true => 0 | false => 26) := by
 obtain ⟨h0, h12, hg⟩ := strE_zero hl
 have hz2 : zones l <= 40 := (hg 0 h0).1.z2
 unfold ngrind_withinHigh_1
 rw [wear_p k hk hl h1 hm ss hs hok mi, Option.bind_some, show ngrind_withinHigh_1_l0_0 k lo hi ((List.range (zones l)).map (wS mi m ss)) k 0 = _ from over_b k lo hi _ (by simp; omega) (by simp; omega) _ k 0 (Nat.zero_add _).symm (by simp; omega), Option.bind_some]
 unfold under
 cases lowB ((List.range (zones l)).map (wS mi m ss)) hi ((List.range (zones l)).map (wS mi m ss)).length 0 <;> rfl
theorem clone_ses (k : Nat) (ss : List SGrindSession) (hs : ss.length <= 1000) : nslices_Clone_api_GrindSession_api_GrindSession_ k ss = some ss := by
 unfold nslices_Clone_api_GrindSession_api_GrindSession_; rw [if_pos (by simp; omega)]; rfl
theorem clone_ints (k : Nat) (ss : List Int) (hs : ss.length <= 1000) : nslices_Clone_int_int_ k ss = some ss := by
 unfold nslices_Clone_int_int_; rw [if_pos (by simp; omega)]; rfl
def addS (l : List SStroke) (m : List (ByteArray × List Int)) (d : SGrindDemand) (ss : List SGrindSession) (x : SGrindSession) : List SGrindSession × Int :=
 if sesC l d ss = 0 then (if sesE l (ss ++ [x]) = 0 then (match under ((List.range (zones l)).map (wS x.Mirror m (ss ++ [x]))) d.High with | true => (ss ++ [x], 0) | false => ([], 26)) else ([], sesE l (ss ++ [x]))) else ([], sesC l d ss)
theorem sesC_zero {l : List SStroke} {d : SGrindDemand} {ss : List SGrindSession} (h : sesC l d ss = 0) : strE l = 0 /\ demE l d = 0 /\ sesE l ss = 0 := by
 unfold sesC at h
 split at h
 ·split at h
  ·exact ⟨‹_›, ‹_›, h⟩
  ·exact absurd h ‹_›
 ·exact absurd h ‹_›
theorem add_p (k : Nat) (hk : 1000 < k) (hk2 : k <= 100000000000000000000) (l : List SStroke) (hl15 : l.length <= 15) (hw : ∀ i, i < l.length -> (l.getD i default).Wear.length <= 43) (m : List (ByteArray × List Int)) (h1 : ngrind_wearByName k l = some m) (hm : strE l = 0 -> ∀ s, sesE1 l s = 0 -> mhas m s.Stroke = true /\ nameB s.Mirror = true /\ (1 <= s.Minutes /\ s.Minutes <= 10000) /\ (mget m s.Stroke).length = zones l /\ ∀ z, z < zones l -> 0 <= (mget m s.Stroke).getD z 0 /\ (mget m s.Stroke).getD z 0 <= 100) (d : SGrindDemand) (ss : List SGrindSession) (hs : ss.length <= 203) (x : SGrindSession) : ngrind_AddSession k l d ss x = some (addS l m d ss x) := by
 unfold ngrind_AddSession ngrind_validStrokes ngrind_validDemand ngrind_validSessions ngrind_withinHigh addS
 simp only [Option.bind_some]
 rw [firstS3 k hk hk2 l hl15 hw d ss hs, Option.bind_some]
 by_cases hc : sesC l d ss = 0
 ·obtain ⟨hl, hd, he⟩ := sesC_zero hc
  obtain ⟨h200, _⟩ := sesE_zero he
  obtain ⟨d1, d2, _⟩ := demE_zero hd
  rw [if_pos hc, if_pos hc, clone_ses k ss (by omega), Option.bind_some, if_pos (by simp; omega)]
  unfold ngrind_firstOf_c0_Lgrind_validSessions_1_grind_withinHigh_1
  dsimp only
  rw [valid_p k hk hk2 l hl15 (ss ++ [x]) (by simp; omega), Option.bind_some]
  by_cases h2 : sesE l (ss ++ [x]) = 0
  ·rw [if_pos h2, if_pos h2, within_p k hk hl h1 (hm hl) (ss ++ [x]) (by simp; omega) (sesE_zero h2).2 x.Mirror d.Low d.High d2, Option.bind_some]
   cases under ((List.range (zones l)).map (wS x.Mirror m (ss ++ [x]))) d.High <;> rfl
  ·rw [if_neg h2, if_neg h2, Option.bind_some, if_neg h2]
 ·rw [if_neg hc, if_neg hc]
def leL (d : SGrindDemand) (u : List Int) (z : Nat) : Int := maxI 0 (w64 (d.Low.getD z 0 - u.getD z 0))
def leH (d : SGrindDemand) (u : List Int) (z : Nat) : Int := w64 (d.High.getD z 0 - u.getD z 0)
theorem left_p (k : Nat) (d : SGrindDemand) (q1 : List SStroke) (q2 : List Int × List Int × List SStroke) (q3 : List SStroke × List SGrindSession) (q4 : Bool × Int) (q5 : List SStroke × List SGrindSession × ByteArray × List Int × List Int) (u : List Int) (hu : u.length <= 43) (h1 : u.length = d.Low.length) (h2 : u.length = d.High.length) : ∀ (n fuel i : Nat), u.length = i + n -> n < fuel ->
 ngrind_LeftFor_l0_0 k d q1 q2 q3 q4 q5 u fuel ((List.range i).map (leL d u) ++ d.Low.drop i) ((List.range i).map (leH d u) ++ d.High.drop i) (i : Int) = some ((List.range u.length).map (leL d u), (List.range u.length).map (leH d u)) := by
 intro n
 induction n with
 | zero =>
   intro fuel i h hf
   obtain ⟨g, rfl⟩ : ∃ g, fuel = g + 1 := ⟨fuel - 1, by omega⟩
   rw [ngrind_LeftFor_l0_0.eq_2, if_neg (by omega), List.drop_eq_nil_of_le (by omega), List.drop_eq_nil_of_le (by omega), List.append_nil, List.append_nil, show i = u.length by omega]
 | succ n ih =>
   intro fuel i h hf
   obtain ⟨g, rfl⟩ : ∃ g, fuel = g + 1 := ⟨fuel - 1, by omega⟩
   rw [ngrind_LeftFor_l0_0.eq_2, if_pos (by omega), if_pos (by omega), if_pos (by simp; omega), if_pos (by simp; omega), Int.toNat_natCast, big_succ (by omega), get_next (by omega), get_next (by omega)]
   show ngrind_LeftFor_l0_0 k d q1 q2 q3 q4 q5 u g (((List.range i).map (leL d u) ++ d.Low.drop i).set i (leL d u i)) (((List.range i).map (leH d u) ++ d.High.drop i).set i (leH d u i)) _ = _
   rw [set_next (by omega), set_next (by omega)]
   exact ih g (i + 1) (by omega) (by omega)
theorem nameR (k : Nat) (hk : 100 < k) (hk2 : k <= 100000000000000000000) (mi : ByteArray) : ngrind_named k mi = some (nameB mi, 4) := by
 unfold ngrind_named ngrind_need
 rw [name_pk k hk hk2]; rfl
def leftS (l : List SStroke) (m : List (ByteArray × List Int)) (d : SGrindDemand) (ss : List SGrindSession) (mi : ByteArray) : SGrindDemand × Int :=
 if sesC l d ss = 0 then (match nameB mi with
  | false => (⟨[], []⟩, 4)
  | true => match under ((List.range (zones l)).map (wS mi m ss)) d.High with
    | true => (⟨(List.range (zones l)).map (leL d ((List.range (zones l)).map (wS mi m ss))), (List.range (zones l)).map (leH d ((List.range (zones l)).map (wS mi m ss)))⟩, 0)
    | false => (⟨[], []⟩, 26)) else (⟨[], []⟩, sesC l d ss)
theorem leftFor_p (k : Nat) (hk : 1000 < k) (hk2 : k <= 100000000000000000000) (l : List SStroke) (hl15 : l.length <= 15) (hw : ∀ i, i < l.length -> (l.getD i default).Wear.length <= 43) (m : List (ByteArray × List Int)) (h1 : ngrind_wearByName k l = some m) (hm : strE l = 0 -> ∀ s, sesE1 l s = 0 -> mhas m s.Stroke = true /\ nameB s.Mirror = true /\ (1 <= s.Minutes /\ s.Minutes <= 10000) /\ (mget m s.Stroke).length = zones l /\ ∀ z, z < zones l -> 0 <= (mget m s.Stroke).getD z 0 /\ (mget m s.Stroke).getD z 0 <= 100) (d : SGrindDemand) (ss : List SGrindSession) (hs : ss.length <= 203) (mi : ByteArray) : ngrind_LeftFor k l d ss mi = some (leftS l m d ss mi) := by
 unfold ngrind_LeftFor ngrind_validStrokes ngrind_validDemand ngrind_validSessions ngrind_withinHigh ngrind_firstOf_c0_Lgrind_validStrokes_1_grind_validDemand_1_grind_validSessions_1_grind_need_1_grind_withinHigh_1 leftS
 simp only [Option.bind_some, nameR k (by omega) hk2]
 rw [strokes1 k (by omega) hk2 l hl15 hw, Option.bind_some]
 by_cases hl : strE l = 0
 ·rw [if_pos hl, dem_p k (by omega) l hl, Option.bind_some]
  by_cases hd : demE l d = 0
  ·rw [if_pos hd, valid_p k hk hk2 l hl15 ss hs, Option.bind_some]
   have hsc : sesC l d ss = sesE l ss := by unfold sesC; rw [if_pos hl, if_pos hd]
   rw [hsc]
   by_cases h : sesE l ss = 0
   ·obtain ⟨h200, hok⟩ := sesE_zero h
    obtain ⟨h0, h12, hg⟩ := strE_zero hl
    have hz2 : zones l <= 40 := (hg 0 h0).1.z2
    obtain ⟨d1, d2, _⟩ := demE_zero hd
    rw [if_pos h, if_pos h, need1, Option.bind_some]
    cases nameB mi with
    | false => rfl
    | true =>
      dsimp only
      rw [if_pos rfl, within_p k hk hl h1 (hm hl) ss hs hok mi d.Low d.High d2, Option.bind_some]
      cases hu : under ((List.range (zones l)).map (wS mi m ss)) d.High with
      | false => rfl
      | true =>
        have hle := left_p k d l (d.Low, d.High, l) (l, ss) (true, 4) (l, ss, mi, d.Low, d.High) ((List.range (zones l)).map (wS mi m ss)) (by simp; omega) (by simp; omega) (by simp; omega) (zones l) k 0 (by simp) (by omega)
        rw [List.range_zero, List.map_nil, List.map_nil, List.nil_append, List.nil_append, List.drop_zero, List.drop_zero, List.length_map, List.length_range] at hle
        dsimp only
        rw [if_pos rfl, Option.bind_some, if_pos rfl, clone_ints k d.Low (by omega), Option.bind_some, clone_ints k d.High (by omega), Option.bind_some, wear_p k hk hl h1 (hm hl) ss hs hok mi, Option.bind_some, show ngrind_LeftFor_l0_0 k d l (d.Low, d.High, l) (l, ss) (true, 4) (l, ss, mi, d.Low, d.High) ((List.range (zones l)).map (wS mi m ss)) k d.Low d.High 0 = _ from hle]; rfl
   ·rw [if_neg h, if_neg h, Option.bind_some, if_neg h]
  ·have hsc : sesC l d ss = demE l d := by unfold sesC; rw [if_pos hl, if_neg hd]
   rw [hsc, if_neg hd, if_neg hd, Option.bind_some, if_neg hd]
 ·have hsc : sesC l d ss = strE l := by unfold sesC; rw [if_neg hl]
  rw [hsc, if_neg hl, if_neg hl, Option.bind_some, if_neg hl]
def wearS (l : List SStroke) (m : List (ByteArray × List Int)) (ss : List SGrindSession) (mi : ByteArray) : List Int × Int :=
 if strE l = 0 then (if sesE l ss = 0 then (match nameB mi with | true => ((List.range (zones l)).map (wS mi m ss), 0) | false => ([], 4)) else ([], sesE l ss)) else ([], strE l)
theorem wearOf_p (k : Nat) (hk : 1000 < k) (hk2 : k <= 100000000000000000000) (l : List SStroke) (hl15 : l.length <= 15) (hw : ∀ i, i < l.length -> (l.getD i default).Wear.length <= 43) (m : List (ByteArray × List Int)) (h1 : ngrind_wearByName k l = some m) (hm : strE l = 0 -> ∀ s, sesE1 l s = 0 -> mhas m s.Stroke = true /\ nameB s.Mirror = true /\ (1 <= s.Minutes /\ s.Minutes <= 10000) /\ (mget m s.Stroke).length = zones l /\ ∀ z, z < zones l -> 0 <= (mget m s.Stroke).getD z 0 /\ (mget m s.Stroke).getD z 0 <= 100) (ss : List SGrindSession) (hs : ss.length <= 203) (mi : ByteArray) : ngrind_WearOf k l ss mi = some (wearS l m ss mi) := by
 unfold ngrind_WearOf ngrind_validStrokes ngrind_validSessions ngrind_firstOf_c0_Lgrind_validStrokes_1_grind_validSessions_1_grind_need_1 wearS
 simp only [Option.bind_some, nameR k (by omega) hk2]
 rw [strokes1 k (by omega) hk2 l hl15 hw, Option.bind_some]
 by_cases hl : strE l = 0
 ·rw [if_pos hl, if_pos hl, valid_p k hk hk2 l hl15 ss hs, Option.bind_some]
  by_cases h : sesE l ss = 0
  ·rw [if_pos h, if_pos h, need1, Option.bind_some]
   cases nameB mi with
   | false => rfl
   | true => dsimp only; rw [if_pos rfl, Option.bind_some, if_pos rfl, wear_p k hk hl h1 (hm hl) ss hs (sesE_zero h).2 mi]; rfl
  ·rw [if_neg h, if_neg h, Option.bind_some, if_neg h]
 ·rw [if_neg hl, if_neg hl, Option.bind_some, if_neg hl]
end Go.Proofs.Ytbaegoglpijnnab.Vg

import Derived.Test.YtodaannbkfmhfaaN1
import Derived.Test.YtodaannbkfmhfaaKG
set_option linter.unusedVariables false
set_option linter.unusedSimpArgs false
namespace Go.Proofs.Ytodaannbkfmhfaa.Vg
open Go Go.Proofs.Ytodaannbkfmhfaa.Ev Go.Proofs.Ytodaannbkfmhfaa.Vv
theorem byName_l (k : Nat) (l : List SStroke) (hl : l.length <= 15) : ∀ (d fuel i : Nat) (y : List (ByteArray × List Int)), l.length = i + d -> d < fuel -> (∀ n, mhas y n = seenS l i n) ->
 (∀ j, j < i -> (∀ j', j' < l.length -> seenS l j' (l.getD j' default).Name = false) -> mget y (l.getD j default).Name = (l.getD j default).Wear) ->
 ∃ z, ngrind_wearByName_l0_0 k l fuel y (i : Int) = some z /\ (∀ n, mhas z n = seenS l l.length n) /\ ((∀ j', j' < l.length -> seenS l j' (l.getD j' default).Name = false) -> ∀ j, j < l.length -> mget z (l.getD j default).Name = (l.getD j default).Wear) := by
 intro d
 induction d with
 | zero =>
   intro fuel i y h hf hy hg
   obtain ⟨g, rfl⟩ : ∃ g, fuel = g + 1 := ⟨fuel - 1, by omega⟩
   obtain rfl : i = l.length := by omega
   exact ⟨y, by rw [ngrind_wearByName_l0_0.eq_2, if_neg (by omega)], hy, fun h j hj => hg j hj h⟩
 | succ d ih =>
   intro fuel i y h hf hy hg
   obtain ⟨g, rfl⟩ : ∃ g, fuel = g + 1 := ⟨fuel - 1, by omega⟩
   have hi : i < l.length := by omega
   rw [ngrind_wearByName_l0_0.eq_2, if_pos (by omega), if_pos (by omega), Int.toNat_natCast, big_succ (by omega)]
   refine ih g (i + 1) _ (by omega) (by omega) (fun n => by rw [mhas_set, seenS_succ l i hi, hy]) (fun j hj hu => ?_)
   rw [mget_set]
   by_cases e : (l.getD j default).Name = (l.getD i default).Name
   ·rw [decide_eq_true e]
    by_cases ej : j = i
    ·rw [ej]
    ·have h1 := seenS_mono l (l.getD i default).Name (show j + 1 <= i by omega) (seenS_at l _ (show j < l.length by omega) e)
     rw [hu i hi] at h1; cases h1
   ·rw [decide_eq_false e]
    by_cases ej : j = i
    ·rw [ej] at e; exact absurd rfl e
    ·exact hg j (by omega) hu
theorem byName_any (k : Nat) (hk : 100 < k) (l : List SStroke) (hl : l.length <= 15) : ∃ z, ngrind_wearByName k l = some z /\ (∀ n, mhas z n = seenS l l.length n) /\ ((∀ j', j' < l.length -> seenS l j' (l.getD j' default).Name = false) -> ∀ j, j < l.length -> mget z (l.getD j default).Name = (l.getD j default).Wear) := by
 obtain ⟨z, h1, h2, h3⟩ := byName_l k l hl l.length k 0 [] (by omega) (by omega) (fun n => by simp [mhas, seenS]) (fun j hj => by omega)
 refine ⟨z, ?_, h2, h3⟩
 unfold ngrind_wearByName
 rw [show ngrind_wearByName_l0_0 k l k [] 0 = _ from h1]; rfl
def sesE1 (l : List SStroke) (s : SGrindSession) : Int := match nameB s.Mirror with
 | false => 4
 | true => match seenS l l.length s.Stroke with
   | false => 6
   | true => match inR 1 10000 s.Minutes with
     | false => 2
     | true => 0
def sesL (l : List SStroke) : List SGrindSession -> Int
 | [] => 0
 | s :: ss => match decide (sesE1 l s = 0) with | true => sesL l ss | false => sesE1 l s
def sesE (l : List SStroke) (ss : List SGrindSession) : Int := match decide (ss.length <= 200) with | false => 8 | true => sesL l ss
theorem first3 (k : Nat) (hk : 100 < k) (n b : Bool) (x : Int) : ngrind_firstOf_c0_Lgrind_need_1_grind_need_1_grind_within_1 k ((n, 4), (b, 6), ([x], 1, 10000)) = some (match n with | false => 4 | true => match b with | false => 6 | true => match inR 1 10000 x with | false => 2 | true => 0) := by
 unfold ngrind_firstOf_c0_Lgrind_need_1_grind_need_1_grind_within_1
 simp only [need1, Option.bind_some, within1 k [x] 1 10000 (by simp) (by simp; omega), List.all_cons, List.all_nil, Bool.and_true]
 cases n with
 | false => rfl
 | true =>
   cases b with
   | false => rfl
   | true => cases inR 1 10000 x <;> rfl
theorem ses_p (k : Nat) (hk : 100 < k) (hk2 : k <= 100000000000000000000) (l : List SStroke) (z : List (ByteArray × List Int)) (hz : ∀ n, mhas z n = seenS l l.length n) (ss : List SGrindSession) (hs : ss.length <= 203) (i : Nat) (hi : i < ss.length) : ngrind_validSessions_1_1 k (i : Int) z ss = some (sesE1 l (ss.getD i default)) := by
 unfold ngrind_validSessions_1_1 ngrind_named ngrind_need ngrind_within
 rw [if_pos (by omega), Int.toNat_natCast, hz, name_pk k hk hk2]
 simp only [Option.bind_some]
 rw [first3 k hk, first3 k hk]
 unfold sesE1
 cases seenS l l.length (ss.getD i default).Stroke with
 | true => rw [if_pos rfl]; rfl
 | false => rw [if_neg (by simp)]; rfl
theorem each_l (k : Nat) (hk : 100 < k) (hk2 : k <= 100000000000000000000) (l : List SStroke) (z : List (ByteArray × List Int)) (hz : ∀ n, mhas z n = seenS l l.length n) (ss : List SGrindSession) (hs : ss.length <= 203) : ∀ (d fuel i : Nat), ss.length = i + d -> d < fuel -> ngrind_each_1_k_grind_validSessions_1_1_l0_0 k (ss.length : Int) (z, ss) fuel (i : Int) = some (errE (sesL l (ss.drop i))) := by
 intro d
 induction d with
 | zero =>
   intro fuel i h hf
   obtain ⟨g, rfl⟩ : ∃ g, fuel = g + 1 := ⟨fuel - 1, by omega⟩
   rw [ngrind_each_1_k_grind_validSessions_1_1_l0_0.eq_2, if_neg (by omega), List.drop_eq_nil_of_le (by omega)]; rfl
 | succ d ih =>
   intro fuel i h hf
   obtain ⟨g, rfl⟩ : ∃ g, fuel = g + 1 := ⟨fuel - 1, by omega⟩
   rw [ngrind_each_1_k_grind_validSessions_1_1_l0_0.eq_2, if_pos (by omega)]
   dsimp only
   rw [ses_p k hk hk2 l z hz ss hs i (by omega), Option.bind_some, big_succ (by omega), ih g (i + 1) (by omega) (by omega), drop_get (y := ss) (i := i) (by omega) default]
   simp only [sesL]
   cases hd : decide (sesE1 l (ss.getD i default) = 0) with
   | true => rw [if_pos (of_decide_eq_true hd)]
   | false => rw [if_neg (of_decide_eq_false hd)]; unfold errE; rw [hd]
theorem valid_p (k : Nat) (hk : 1000 < k) (hk2 : k <= 100000000000000000000) (l : List SStroke) (hl : l.length <= 15) (ss : List SGrindSession) (hs : ss.length <= 203) : ngrind_validSessions_1 k l ss = some (sesE l ss) := by
 obtain ⟨z, h1, h2, _⟩ := byName_any k (by omega) l hl
 have he := each_l k (by omega) hk2 l z h2 ss hs ss.length k 0 (by omega) (by omega)
 rw [List.drop_zero] at he
 have hd : decide ((ss.length : Int) <= 200) = decide (ss.length <= 200) := by congr 1; simp only [eq_iff_iff]; omega
 unfold ngrind_validSessions_1 ngrind_need ngrind_each_c1_grind_validSessions_1_1 ngrind_firstOf_c0_Lgrind_need_1_grind_each_1_grind_validSessions_1_1 ngrind_each_1_k_grind_validSessions_1_1 sesE
 rw [h1, hd]
 simp only [Option.bind_some]
 rw [need1, Option.bind_some]
 cases decide (ss.length <= 200) with
 | false => rfl
 | true =>
   dsimp only
   rw [if_pos rfl, show ngrind_each_1_k_grind_validSessions_1_1_l0_0 k (ss.length : Int) (z, ss) k 0 = _ from he, Option.bind_some]
   unfold errE
   cases h0 : decide (sesL l ss = 0) with
   | true => dsimp only; rw [of_decide_eq_true h0]; rfl
   | false => dsimp only; rw [Option.bind_some, if_neg (of_decide_eq_false h0), Option.bind_some]
theorem sesL_zero {l : List SStroke} : ∀ {ss : List SGrindSession}, sesL l ss = 0 -> ∀ s ∈ ss, sesE1 l s = 0
 | [], _, s, hs => by cases hs
 | x :: ss, h, s, hs => by
   simp only [sesL] at h
   cases hd : decide (sesE1 l x = 0) with
   | false => rw [hd] at h; exact absurd h (of_decide_eq_false hd)
   | true =>
     rw [hd] at h
     rcases List.mem_cons.1 hs with rfl | hs
     ·exact of_decide_eq_true hd
     ·exact sesL_zero h s hs
def sesC (l : List SStroke) (d : SGrindDemand) (ss : List SGrindSession) : Int := if strE l = 0 then (if demE l d = 0 then sesE l ss else demE l d) else strE l
theorem firstS3 (k : Nat) (hk : 1000 < k) (hk2 : k <= 100000000000000000000) (l : List SStroke) (hl15 : l.length <= 15) (hw : ∀ i, i < l.length -> (l.getD i default).Wear.length <= 43) (d : SGrindDemand) (ss : List SGrindSession) (hs : ss.length <= 203) : ngrind_firstOf_c0_Lgrind_validStrokes_1_grind_validDemand_1_grind_validSessions_1 k (l, (d.Low, d.High, l), (l, ss)) = some (sesC l d ss) := by
 unfold ngrind_firstOf_c0_Lgrind_validStrokes_1_grind_validDemand_1_grind_validSessions_1 sesC
 dsimp only
 rw [strokes1 k (by omega) hk2 l hl15 hw, Option.bind_some]
 by_cases hl : strE l = 0
 ·rw [if_pos hl, if_pos hl, dem_p k (by omega) l hl, Option.bind_some]
  by_cases hd : demE l d = 0
  ·rw [if_pos hd, if_pos hd, valid_p k hk hk2 l hl15 ss hs, Option.bind_some]
   by_cases h : sesE l ss = 0
   ·rw [if_pos h, h]
   ·rw [if_neg h]
  ·rw [if_neg hd, if_neg hd]
 ·rw [if_neg hl, if_neg hl]
theorem sesE_zero {l : List SStroke} {ss : List SGrindSession} (h : sesE l ss = 0) : ss.length <= 200 /\ sesL l ss = 0 := by
 unfold sesE at h
 cases hd : decide (ss.length <= 200) with
 | true => rw [hd] at h; exact ⟨of_decide_eq_true hd, h⟩
 | false => rw [hd] at h; simp at h
def lowB (u h : List Int) : Nat -> Nat -> Bool
 | 0, _ => true
 | n + 1, i => match decide (h.getD i 0 < u.getD i 0) with
   | true => false
   | false => lowB u h n (i + 1)
theorem over_b (k : Nat) (lo hi u : List Int) (hu : u.length <= 43) (hd : u.length = hi.length) : ∀ (n fuel i : Nat), u.length = i + n -> n < fuel ->
 ngrind_withinHigh_1_l0_0 k lo hi u fuel (i : Int) = some (sumB (lowB u hi n i)) := by
 intro n
 induction n with
 | zero =>
   intro fuel i h hf
   obtain ⟨g, rfl⟩ : ∃ g, fuel = g + 1 := ⟨fuel - 1, by omega⟩
   rw [ngrind_withinHigh_1_l0_0.eq_2, if_neg (by omega)]; rfl
 | succ n ih =>
   intro fuel i h hf
   obtain ⟨g, rfl⟩ : ∃ g, fuel = g + 1 := ⟨fuel - 1, by omega⟩
   rw [ngrind_withinHigh_1_l0_0.eq_2, if_pos (by omega), if_pos (by omega), if_pos (by omega), Int.toNat_natCast, big_succ (by omega), ih g (i + 1) (by omega) (by omega)]
   simp only [lowB]
   by_cases c : hi.getD i 0 < u.getD i 0
   ·rw [if_pos c, decide_eq_true c]; rfl
   ·rw [if_neg c, decide_eq_false c]
def under (u h : List Int) : Bool := lowB u h u.length 0
theorem within_u (k : Nat) (hk : 1000 < k) (l : List SStroke) (ss : List SGrindSession) (mi : ByteArray) (lo hi u : List Int) (hu : ngrind_wearOf k l ss mi = some u) (h1 : u.length <= 43) (h2 : u.length = hi.length) : ngrind_withinHigh_1 k l ss mi lo hi = some (match under u hi with | true => 0 | false => 26) := by
 unfold ngrind_withinHigh_1
 rw [hu, Option.bind_some, show ngrind_withinHigh_1_l0_0 k lo hi u k 0 = _ from over_b k lo hi u h1 h2 u.length k 0 (by omega) (by omega), Option.bind_some]
 unfold under
 cases lowB u hi u.length 0 <;> rfl
theorem clone_ses (k : Nat) (ss : List SGrindSession) (hs : ss.length <= 1000) : nslices_Clone_api_GrindSession_api_GrindSession_ k ss = some ss := by
 unfold nslices_Clone_api_GrindSession_api_GrindSession_; rw [if_pos (by simp; omega)]; rfl
end Go.Proofs.Ytodaannbkfmhfaa.Vg

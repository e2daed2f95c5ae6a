import Derived.Test.YtodaannbkfmhfaaKH
set_option linter.unusedVariables false
set_option linter.unusedSimpArgs false
namespace Go.Proofs.Ytodaannbkfmhfaa.Vg
open Go Go.Proofs.Ytodaannbkfmhfaa.Ev Go.Proofs.Ytodaannbkfmhfaa.Vv
abbrev RowM := List (ByteArray × List Int)
def wz (z : RowM) (mi : ByteArray) (t : Nat) (s : SGrindSession) : Int := if s.Mirror = mi then s.Minutes * (mget z s.Stroke).getD t 0 else 0
def tz (z : RowM) (mi : ByteArray) (t : Nat) : List SGrindSession -> Int
 | [] => 0
 | s :: ss => wz z mi t s + tz z mi t ss
theorem tz_app (z : RowM) (mi : ByteArray) (t : Nat) : ∀ a b : List SGrindSession, tz z mi t (a ++ b) = tz z mi t a + tz z mi t b
 | [], b => by simp [tz]
 | s :: a, b => by simp only [List.cons_append, tz]; rw [tz_app z mi t a b]; omega
structure SOK (z : RowM) (n : Nat) (s : SGrindSession) : Prop where
 m : 1 <= s.Minutes /\ s.Minutes <= 10000
 h : mhas z s.Stroke = true
 l : (mget z s.Stroke).length = n
 b : ∀ t, t < n -> 0 <= (mget z s.Stroke).getD t 0 /\ (mget z s.Stroke).getD t 0 <= 100
theorem wz_bd {z : RowM} {n : Nat} {s : SGrindSession} (h : SOK z n s) (mi : ByteArray) {t : Nat} (ht : t < n) : 0 <= wz z mi t s /\ wz z mi t s <= 1000000 := by
 have h1 := h.b t ht
 have h2 := h.m
 unfold wz
 split
 ·refine ⟨Int.mul_nonneg (by omega) h1.1, ?_⟩
  have := Int.mul_le_mul h2.2 h1.2 h1.1 (by omega)
  omega
 ·omega
theorem tz_bd {z : RowM} {n : Nat} (mi : ByteArray) {t : Nat} (ht : t < n) : ∀ ss : List SGrindSession, (∀ s ∈ ss, SOK z n s) -> 0 <= tz z mi t ss /\ tz z mi t ss <= (ss.length : Int) * 1000000
 | [], _ => by simp [tz]
 | s :: ss, h => by
   have h1 := wz_bd (h s (by simp)) mi ht
   have h2 := tz_bd mi ht ss (fun x hx => h x (by simp [hx]))
   simp only [tz, List.length_cons]; omega
theorem zone_p (k : Nat) {n : Nat} (ss : List SGrindSession) (mi : ByteArray) (i : Nat) (z : RowM) (hs : SOK z n (ss.getD i default)) (hn : n <= 43) : ∀ (d fuel x : Nat) (y : List Int), n = x + d -> d < fuel -> y.length = n -> (∀ t, x <= t -> t < n -> 0 <= y.getD t 0 /\ y.getD t 0 <= 1000000000000) -> ∃ u, ngrind_wearOf_l1_0 k ss mi (i : Int) z fuel y (x : Int) = some (z, u) /\ u.length = n /\ ∀ t, t < n -> u.getD t 0 = if x <= t then y.getD t 0 + (ss.getD i default).Minutes * (mget z (ss.getD i default).Stroke).getD t 0 else y.getD t 0 := by
 have hl := hs.l
 have hm := hs.m
 intro d
 induction d with
 | zero =>
   intro fuel x y h hf hy hb
   obtain ⟨g, rfl⟩ : ∃ g, fuel = g + 1 := ⟨fuel - 1, by omega⟩
   exact ⟨y, by rw [ngrind_wearOf_l1_0.eq_2, Int.toNat_natCast, if_neg (by omega)], hy, fun t ht => by rw [if_neg (by omega)]⟩
 | succ d ih =>
   intro fuel x y h hf hy hb
   obtain ⟨g, rfl⟩ : ∃ g, fuel = g + 1 := ⟨fuel - 1, by omega⟩
   have hr := hs.b x (by omega)
   have hyx := hb x (Nat.le_refl _) (by omega)
   have hp0 := Int.mul_nonneg (show 0 <= (ss.getD i default).Minutes by omega) hr.1
   have hp1 := Int.mul_le_mul hm.2 hr.2 hr.1 (by omega)
   rw [ngrind_wearOf_l1_0.eq_2]
   simp only [Int.toNat_natCast]
   rw [if_pos (by omega), if_pos (by omega), if_pos (by omega), w64_id (n := (ss.getD i default).Minutes * _) (by omega) (by omega), w64_id (n := y.getD x 0 + _) (by omega) (by omega), big_succ (by omega)]
   obtain ⟨u, u1, u2, u3⟩ := ih g (x + 1) (y.set x (y.getD x 0 + (ss.getD i default).Minutes * (mget z (ss.getD i default).Stroke).getD x 0)) (by omega) (by omega) (by rw [List.length_set]; exact hy) (fun t h1 ht => by
    rw [set_at (by omega), if_neg (by omega)]
    exact hb t (by omega) ht)
   refine ⟨u, u1, u2, fun t ht => ?_⟩
   rw [u3 t ht, set_at (by omega)]
   by_cases e : t = x
   ·rw [if_neg (by omega), if_pos e, if_pos (by omega), e]
   ·rw [if_neg e]
    by_cases e2 : x + 1 <= t
    ·rw [if_pos e2, if_pos (by omega)]
    ·rw [if_neg e2, if_neg (by omega)]
theorem drop_tz {z : RowM} {mi : ByteArray} {t : Nat} {ss : List SGrindSession} {i : Nat} (hi : i < ss.length) : tz z mi t (ss.drop i) = wz z mi t (ss.getD i default) + tz z mi t (ss.drop (i + 1)) := by
 rw [drop_get hi default]; rfl
theorem wear_p (k : Nat) (hk : 1000 < k) {n : Nat} (hn : n <= 43) (ss : List SGrindSession) (hs : ss.length <= 203) (mi : ByteArray) (z : RowM) (hok : ∀ s ∈ ss, SOK z n s) : ∀ (d fuel i : Nat) (y : List Int), ss.length = i + d -> d < fuel -> y.length = n -> (∀ t, t < n -> 0 <= y.getD t 0 /\ y.getD t 0 <= (i : Int) * 1000000) ->
 ∃ u, ngrind_wearOf_l0_0 k ss mi fuel y (i : Int) z = some u /\ u.length = n /\ ∀ t, t < n -> u.getD t 0 = y.getD t 0 + tz z mi t (ss.drop i) := by
 intro d
 induction d with
 | zero =>
   intro fuel i y h hf hy hb
   obtain ⟨g, rfl⟩ : ∃ g, fuel = g + 1 := ⟨fuel - 1, by omega⟩
   exact ⟨y, by rw [ngrind_wearOf_l0_0.eq_2, if_neg (by omega)], hy, fun t ht => by rw [List.drop_eq_nil_of_le (by omega)]; simp [tz]⟩
 | succ d ih =>
   intro fuel i y h hf hy hb
   obtain ⟨g, rfl⟩ : ∃ g, fuel = g + 1 := ⟨fuel - 1, by omega⟩
   have hi : i < ss.length := by omega
   have hm := hok _ (getD_mem hi default)
   rw [ngrind_wearOf_l0_0.eq_2]
   simp only [Int.toNat_natCast]
   rw [if_pos (by omega), if_pos (by omega), big_succ (by omega)]
   have hw : ∀ t, t < n -> 0 <= wz z mi t (ss.getD i default) /\ wz z mi t (ss.getD i default) <= 1000000 := fun t ht => wz_bd hm mi ht
   by_cases c : (ss.getD i default).Mirror = mi
   ·obtain ⟨u, u1, u2, u3⟩ := zone_p k ss mi i z hm hn n k 0 y (by omega) (by omega) hy (fun t _ ht => by have := hb t ht; omega)
    have hu : ∀ t, t < n -> u.getD t 0 = y.getD t 0 + wz z mi t (ss.getD i default) := fun t ht => by
     rw [u3 t ht, if_pos (Nat.zero_le _)]
     unfold wz; rw [if_pos c]
    rw [if_pos c, if_pos hm.h, show ngrind_wearOf_l1_0 k ss mi (i : Int) z k y 0 = _ from u1, Option.bind_some]
    obtain ⟨v, v1, v2, v3⟩ := ih g (i + 1) u (by omega) (by omega) u2 (fun t ht => by rw [hu t ht]; have := hw t ht; have := hb t ht; omega)
    exact ⟨v, v1, v2, fun t ht => by rw [v3 t ht, hu t ht, drop_tz hi]; omega⟩
   ·have hz : ∀ t, wz z mi t (ss.getD i default) = 0 := fun t => by unfold wz; rw [if_neg c]
    rw [if_neg c]
    obtain ⟨v, v1, v2, v3⟩ := ih g (i + 1) y (by omega) (by omega) hy (fun t ht => by have := hb t ht; omega)
    exact ⟨v, v1, v2, fun t ht => by rw [v3 t ht, drop_tz hi, hz t]; omega⟩
theorem rows_ex (k : Nat) (hk : 1000 < k) (l : List SStroke) (hl : strE l = 0) : ∃ z, ngrind_wearByName k l = some z /\ ∀ ss, sesL l ss = 0 -> ∀ s ∈ ss, SOK z (zones l) s := by
 obtain ⟨h0, hl12, hg⟩ := strE_zero hl
 obtain ⟨z, h1, h2, h3⟩ := byName_any k (by omega) l (by omega)
 have h4 := h3 (fun j hj => (hg j hj).2)
 refine ⟨z, h1, fun ss hss s hs => ?_⟩
 have h5 := sesL_zero hss s hs
 unfold sesE1 at h5
 cases hn : nameB s.Mirror with
 | false => rw [hn] at h5; simp at h5
 | true =>
   rw [hn] at h5
   cases hsn : seenS l l.length s.Stroke with
   | false => rw [hsn] at h5; simp at h5
   | true =>
     rw [hsn] at h5
     cases hr : inR 1 10000 s.Minutes with
     | false => rw [hr] at h5; simp at h5
     | true =>
       have hx := hsn
       unfold seenS at hx
       rw [List.take_length] at hx
       obtain ⟨g, hg1, hg2⟩ := List.any_eq_true.1 hx
       obtain ⟨j, hj, hj2⟩ := List.getElem_of_mem hg1
       have e1 : l.getD j default = g := by rw [List.getD_eq_getElem?_getD, List.getElem?_eq_getElem hj, Option.getD_some, hj2]
       have e2 : mget z s.Stroke = (l.getD j default).Wear := by rw [<- h4 j hj, e1, of_decide_eq_true hg2]
       have hgj := (hg j hj).1
       refine ⟨inR_t.1 hr, by rw [h2]; exact hsn, by rw [e2]; exact hgj.len, fun t ht => ?_⟩
       have ht2 : t < (l.getD j default).Wear.length := by rw [hgj.len]; exact ht
       rw [e2]
       exact hgj.wear _ (getD_mem ht2 0)
theorem wearOf_p (k : Nat) (hk : 1000 < k) (l : List SStroke) (hl : strE l = 0) (z : RowM) (hz : ngrind_wearByName k l = some z) (ss : List SGrindSession) (hs : ss.length <= 203) (hok : ∀ s ∈ ss, SOK z (zones l) s) (mi : ByteArray) : ∃ u, ngrind_wearOf k l ss mi = some u /\ u.length = zones l /\ ∀ t, t < zones l -> u.getD t 0 = tz z mi t ss := by
 obtain ⟨h0, hl12, hg⟩ := strE_zero hl
 have hw0 : zones l <= 40 := (hg 0 h0).1.z2
 obtain ⟨u, u1, u2, u3⟩ := wear_p k hk (n := zones l) (by omega) ss hs mi z hok ss.length k 0 (List.replicate (zones l) 0) (by omega) (by omega) (by simp) (fun t ht => by simp [List.getD_eq_getElem?_getD, List.getElem?_replicate, ht])
 refine ⟨u, ?_, u2, fun t ht => ?_⟩
 ·unfold ngrind_wearOf ngrind_zonesOf
  have hzl : (l.getD 0 default).Wear.length = zones l := rfl
  rw [hz, Option.bind_some, if_pos (by omega), Option.bind_some, show ((0 : Int)).toNat = 0 from rfl, if_pos (by omega), Int.toNat_natCast, hzl, show ngrind_wearOf_l0_0 k ss mi k (List.replicate (zones l) 0) 0 z = _ from u1]; rfl
 ·rw [u3 t ht, List.drop_zero]; simp [List.getD_eq_getElem?_getD, List.getElem?_replicate, ht]
theorem lowB_le (u h : List Int) : ∀ (n i : Nat), lowB u h n i = true -> ∀ j, i <= j -> j < i + n -> u.getD j 0 <= h.getD j 0
 | 0, i, _, j, h1, h2 => by omega
 | n + 1, i, hb, j, h1, h2 => by
   simp only [lowB] at hb
   by_cases c : h.getD i 0 < u.getD i 0
   ·rw [decide_eq_true c] at hb; cases hb
   ·rw [decide_eq_false c] at hb
    by_cases e : j = i
    ·rw [e]; omega
    ·exact lowB_le u h n (i + 1) hb j (by omega) (by omega)
theorem add_p (k : Nat) (hk : 1000 < k) (hk2 : k <= 100000000000000000000) (l : List SStroke) (hl15 : l.length <= 15) (hw : ∀ i, i < l.length -> (l.getD i default).Wear.length <= 43) (d : SGrindDemand) (ss : List SGrindSession) (hs : ss.length <= 200) (x : SGrindSession) :
 ∃ r, ngrind_AddSession k l d ss x = some r /\ (r.2 = 0 -> strE l = 0 /\ demE l d = 0 /\ r.1 = ss ++ [x] /\ sesL l (ss ++ [x]) = 0 /\ ∃ u, ngrind_wearOf k l (ss ++ [x]) x.Mirror = some u /\ u.length = zones l /\ under u d.High = true) := by
 unfold ngrind_AddSession ngrind_validStrokes ngrind_validDemand ngrind_validSessions ngrind_withinHigh
 simp only [Option.bind_some]
 rw [firstS3 k hk hk2 l hl15 hw d ss (by omega), Option.bind_some]
 by_cases c : sesC l d ss = 0
 case neg => rw [if_neg c]; exact ⟨_, rfl, fun h => absurd h c⟩
 have hc : strE l = 0 /\ demE l d = 0 := by
  unfold sesC at c
  by_cases h1 : strE l = 0
  ·rw [if_pos h1] at c
   by_cases h2 : demE l d = 0
   ·exact ⟨h1, h2⟩
   ·rw [if_neg h2] at c; exact absurd c h2
  ·rw [if_neg h1] at c; exact absurd c h1
 obtain ⟨hl, hd⟩ := hc
 have e8 := valid_p k hk hk2 l hl15 (ss ++ [x]) (by simp; omega)
 rw [if_pos c, clone_ses k ss (by omega), Option.bind_some, if_pos (by simp; omega)]
 unfold ngrind_firstOf_c0_Lgrind_validSessions_1_grind_withinHigh_1
 dsimp only
 rw [e8, Option.bind_some]
 by_cases hm : sesE l (ss ++ [x]) = 0
 case neg => rw [if_neg hm, Option.bind_some, if_neg hm]; exact ⟨_, rfl, fun h => absurd h hm⟩
 obtain ⟨_, hm2⟩ := sesE_zero hm
 obtain ⟨z, z1, z2⟩ := rows_ex k hk l hl
 obtain ⟨u, u1, u2, u3⟩ := wearOf_p k hk l hl z z1 (ss ++ [x]) (by simp; omega) (z2 _ hm2) x.Mirror
 obtain ⟨h0, h12, hg⟩ := strE_zero hl
 have hz2 : zones l <= 40 := (hg 0 h0).1.z2
 obtain ⟨d1, d2, _⟩ := demE_zero hd
 rw [if_pos hm, within_u k hk l (ss ++ [x]) x.Mirror d.Low d.High u u1 (by omega) (by omega), Option.bind_some]
 cases hu : under u d.High with
 | true => exact ⟨_, rfl, fun _ => ⟨hl, hd, rfl, hm2, u, u1, u2, hu⟩⟩
 | false => exact ⟨_, rfl, fun h => by cases h⟩
theorem named_p (k : Nat) (hk : 100 < k) (hk2 : k <= 100000000000000000000) (mi : ByteArray) : ngrind_named k mi = some (nameB mi, 4) := by
 unfold ngrind_named ngrind_need
 rw [name_pk k hk hk2]; rfl
theorem WearOf_p (k : Nat) (hk : 1000 < k) (hk2 : k <= 100000000000000000000) (l : List SStroke) (hl15 : l.length <= 15) (hw : ∀ i, i < l.length -> (l.getD i default).Wear.length <= 43) (ss : List SGrindSession) (hs : ss.length <= 200) (mi : ByteArray) :
 ∃ r, ngrind_WearOf k l ss mi = some r /\ (r.2 = 0 -> strE l = 0 /\ sesL l ss = 0 /\ ngrind_wearOf k l ss mi = some r.1) := by
 unfold ngrind_WearOf ngrind_validStrokes ngrind_validSessions ngrind_firstOf_c0_Lgrind_validStrokes_1_grind_validSessions_1_grind_need_1
 simp only [Option.bind_some]
 rw [named_p k (by omega) hk2, Option.bind_some]
 dsimp only
 rw [strokes1 k (by omega) hk2 l hl15 hw, Option.bind_some]
 by_cases h1 : strE l = 0
 case neg => rw [if_neg h1, Option.bind_some, if_neg h1]; exact ⟨_, rfl, fun h => absurd h h1⟩
 rw [if_pos h1, valid_p k hk hk2 l hl15 ss (by omega), Option.bind_some]
 by_cases h2 : sesE l ss = 0
 case neg => rw [if_neg h2, Option.bind_some, if_neg h2]; exact ⟨_, rfl, fun h => absurd h h2⟩
 obtain ⟨_, hm2⟩ := sesE_zero h2
 obtain ⟨z, z1, z2⟩ := rows_ex k hk l h1
 obtain ⟨u, u1, u2, u3⟩ := wearOf_p k hk l h1 z z1 ss (by omega) (z2 _ hm2) mi
 rw [if_pos h2, need1, Option.bind_some]
 cases nameB mi with
 | false => exact ⟨_, rfl, fun h => by cases h⟩
 | true => exact ⟨(u, 0), by rw [u1]; rfl, fun _ => ⟨h1, hm2, u1⟩⟩
end Go.Proofs.Ytodaannbkfmhfaa.Vg

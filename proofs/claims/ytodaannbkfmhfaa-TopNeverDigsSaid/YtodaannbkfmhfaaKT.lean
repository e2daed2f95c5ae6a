import Derived.Test.YtodaannbkfmhfaaKW
import Derived.Test.YtodaannbkfmhfaaN2
set_option linter.unusedVariables false
set_option linter.unusedSimpArgs false
namespace Go.Proofs.Ytodaannbkfmhfaa.Vg
open Go Go.Proofs.Ytodaannbkfmhfaa.Ev Go.Proofs.Ytodaannbkfmhfaa.Vv
theorem str_l (k : Nat) (x : SGrinding) (h w : List Int) (hl : x.Strokes.length <= 10) : ∀ (d fuel i : Nat), x.Strokes.length = i + d -> d < fuel ->
 ∃ r, nspeculumtop_TopNeverDigs_l0_0 k x h w fuel (i : Int) = some r /\ (r = .inl () \/ r = .inr () /\ ∀ j, i <= j -> j < x.Strokes.length -> (x.Strokes.getD j default).Wear.length = h.length) := by
 intro d
 induction d with
 | zero =>
   intro fuel i hd hf
   obtain ⟨g, rfl⟩ : ∃ g, fuel = g + 1 := ⟨fuel - 1, by omega⟩
   exact ⟨_, by rw [nspeculumtop_TopNeverDigs_l0_0.eq_2, if_neg (by omega)], .inr ⟨rfl, fun j h1 h2 => by omega⟩⟩
 | succ d ih =>
   intro fuel i hd hf
   obtain ⟨g, rfl⟩ : ∃ g, fuel = g + 1 := ⟨fuel - 1, by omega⟩
   rw [nspeculumtop_TopNeverDigs_l0_0.eq_2, if_pos (by omega), if_pos (by omega), Int.toNat_natCast]
   by_cases c1 : (((x.Strokes.getD i default).Wear).length : Int) = (h.length : Int)
   case neg => rw [if_neg c1]; exact ⟨_, rfl, .inl rfl⟩
   rw [if_pos c1]
   by_cases c2 : 30 < (((x.Strokes.getD i default).Name).size : Int)
   ·rw [if_pos c2]; exact ⟨_, rfl, .inl rfl⟩
   rw [if_neg c2, big_succ (by omega)]
   obtain ⟨r, e1, e2⟩ := ih g (i + 1) (by omega) (by omega)
   refine ⟨r, e1, ?_⟩
   rcases e2 with e2 | ⟨e2, e3⟩
   ·exact .inl e2
   ·refine .inr ⟨e2, fun j h1 h2 => ?_⟩
    by_cases e : j = i
    ·rw [e]; omega
    ·exact e3 j (by omega) h2
theorem app_at (y : List Int) (v : Int) (j : Nat) : (y ++ [v]).getD j 0 = if j < y.length then y.getD j 0 else if j = y.length then v else 0 := by
 rw [List.getD_eq_getElem?_getD, List.getD_eq_getElem?_getD]
 by_cases c : j < y.length
 ·rw [if_pos c, List.getElem?_append_left c]
 ·rw [if_neg c, List.getElem?_append_right (by omega)]
  by_cases e : j = y.length
  ·rw [if_pos e, e, Nat.sub_self]; rfl
  ·rw [if_neg e, List.getElem?_eq_none (by simp; omega)]; rfl
theorem dem_l (k : Nat) (x : SGrinding) {n : Nat} (hn : n <= 10) (h w : List Int) (hh : h.length = n) (hw : w.length = n) (hb : ∀ t, t < n -> (-100000 <= h.getD t 0 /\ h.getD t 0 <= 100000) /\ -100000 <= w.getD t 0 /\ w.getD t 0 <= 100000) : ∀ (d fuel i : Nat) (lo hi : List Int), n = i + d -> d < fuel -> lo.length = i -> hi.length = i -> (∀ t, t < i -> hi.getD t 0 = h.getD t 0 - w.getD t 0 /\ 0 <= hi.getD t 0 /\ hi.getD t 0 <= 10000) ->
 ∃ r, nspeculumtop_TopNeverDigs_l1_0 k x h w fuel lo hi (i : Int) = some r /\ (r = .inl () \/ ∃ lo' hi', r = .inr (lo', hi') /\ lo'.length = n /\ hi'.length = n /\ ∀ t, t < n -> hi'.getD t 0 = h.getD t 0 - w.getD t 0 /\ 0 <= hi'.getD t 0 /\ hi'.getD t 0 <= 10000) := by
 intro d
 induction d with
 | zero =>
   intro fuel i lo hi hd hf h1 h2 h3
   obtain ⟨g, rfl⟩ : ∃ g, fuel = g + 1 := ⟨fuel - 1, by omega⟩
   exact ⟨_, by rw [nspeculumtop_TopNeverDigs_l1_0.eq_2, if_neg (by omega)], .inr ⟨lo, hi, rfl, by omega, by omega, fun t ht => h3 t (by omega)⟩⟩
 | succ d ih =>
   intro fuel i lo hi hd hf h1 h2 h3
   obtain ⟨g, rfl⟩ : ∃ g, fuel = g + 1 := ⟨fuel - 1, by omega⟩
   have hbi := hb i (by omega)
   rw [nspeculumtop_TopNeverDigs_l1_0.eq_2, if_pos (by omega), if_pos (by omega), if_pos (by omega), Int.toNat_natCast, w64_id (n := h.getD i 0 - w.getD i 0) (by omega) (by omega), wib, Option.bind_some]
   by_cases c : 0 <= h.getD i 0 - w.getD i 0 /\ h.getD i 0 - w.getD i 0 <= 10000
   case neg => rw [inR_f.2 c, if_neg (by decide)]; exact ⟨_, rfl, .inl rfl⟩
   rw [inR_t.2 c, if_pos rfl, if_pos (by simp only [List.length_cons, List.length_nil]; omega), if_pos (by simp only [List.length_cons, List.length_nil]; omega), big_succ (by omega)]
   refine ih g (i + 1) _ _ (by omega) (by omega) (by simp; omega) (by simp; omega) (fun t ht => ?_)
   rw [app_at]
   by_cases e : t < hi.length
   ·rw [if_pos e]; exact h3 t (by omega)
   ·rw [if_neg e, if_pos (by omega), show t = i by omega]; exact ⟨rfl, c⟩
def Inv (k : Nat) (l : List SStroke) (M : ByteArray) (n : Nat) (hi : List Int) (s : List SGrindSession) (wr : List (List Int)) : Prop :=
 (s = [] /\ wr = []) \/ (strE l = 0 /\ sesL l s = 0 /\ ∀ z, ngrind_wearByName k l = some z -> (∀ t, t < n -> tz z M t s <= hi.getD t 0) /\ wr.length <= s.length /\ Rows n wr /\ ∀ t, t < n -> rsm t wr <= tz z M t s)
theorem Inv.at {k : Nat} {l : List SStroke} {M : ByteArray} {n : Nat} {hi : List Int} {s : List SGrindSession} {wr : List (List Int)} (h : Inv k l M n hi s wr) (h0 : ∀ t, t < n -> 0 <= hi.getD t 0) {z : RowM} (hz : ngrind_wearByName k l = some z) : (∀ t, t < n -> tz z M t s <= hi.getD t 0) /\ wr.length <= s.length /\ Rows n wr /\ ∀ t, t < n -> rsm t wr <= tz z M t s := by
 rcases h with ⟨rfl, rfl⟩ | ⟨-, -, h⟩
 ·exact ⟨(fun t ht => by simp only [tz]; exact h0 t ht), Nat.le_refl _, (fun r hr => by cases hr), fun t ht => Int.le_refl _⟩
 ·exact h z hz
theorem day_l (k : Nat) (hk : 1000 < k) (hk2 : k <= 100000000000000000000) (x : SGrinding) (h w lo hi : List Int) {n : Nat} (hn : n <= 10) (hl4 : x.Strokes.length <= 4) (hws : ∀ i, i < x.Strokes.length -> (x.Strokes.getD i default).Wear.length = n) (hhi : hi.length = n) (h0 : ∀ t, t < n -> 0 <= hi.getD t 0) (hs6 : x.Sessions.length <= 6) : ∀ (d fuel i : Nat) (s : List SGrindSession) (wr : List (List Int)), x.Sessions.length = i + d -> d < fuel -> s.length <= i -> Inv k x.Strokes x.Mirror n hi s wr ->
 ∃ r, nspeculumtop_TopNeverDigs_l2_0 k x h w (lo, hi) fuel s wr (i : Int) = some r /\ (r = .inl true \/ ∃ s' wr', r = .inr (s', wr') /\ s'.length <= 6 /\ Inv k x.Strokes x.Mirror n hi s' wr') := by
 have hw43 : ∀ i, i < x.Strokes.length -> (x.Strokes.getD i default).Wear.length <= 43 := fun i hi => by rw [hws i hi]; omega
 intro d
 induction d with
 | zero =>
   intro fuel i s wr hd hf hsl hI
   obtain ⟨g, rfl⟩ : ∃ g, fuel = g + 1 := ⟨fuel - 1, by omega⟩
   exact ⟨_, by rw [nspeculumtop_TopNeverDigs_l2_0.eq_2, if_neg (by omega)], .inr ⟨s, wr, rfl, by omega, hI⟩⟩
 | succ d ih =>
   intro fuel i s wr hd hf hsl hI
   obtain ⟨g, rfl⟩ : ∃ g, fuel = g + 1 := ⟨fuel - 1, by omega⟩
   have hwl : wr.length <= 6 := by
    rcases hI with ⟨-, rfl⟩ | ⟨hl, -, h⟩
    ·simp
    ·obtain ⟨z, z1, -⟩ := rows_ex k hk x.Strokes hl
     have := (h z z1).2.1; omega
   rw [nspeculumtop_TopNeverDigs_l2_0.eq_2, if_pos (by omega), if_pos (by omega), Int.toNat_natCast, show w64 ((i : Int) + 1) = ((i + 1 : Nat) : Int) from big_succ (by omega)]
   generalize x.Sessions.getD i default = q
   by_cases c1 : 30 < (q.Mirror.size : Int)
   ·rw [if_pos c1]; exact ⟨_, rfl, .inl rfl⟩
   rw [if_neg c1]
   by_cases c2 : 30 < (q.Stroke.size : Int)
   ·rw [if_pos c2]; exact ⟨_, rfl, .inl rfl⟩
   rw [if_neg c2, if_pos (by omega)]
   obtain ⟨r, r1, r2⟩ := add_p k hk hk2 x.Strokes (by omega) hw43 ⟨lo, hi⟩ s (by omega) q
   rw [r1, Option.bind_some]
   by_cases c3 : r.2 = 0
   case neg => rw [if_neg c3]; exact ih g (i + 1) s wr (by omega) (by omega) (by omega) hI
   obtain ⟨hl, hd', hr1, hses, u, u1, u2, u3⟩ := r2 c3
   have hz0 := (strE_zero hl).1
   have hzn : zones x.Strokes = n := hws 0 hz0
   have hlen : r.1.length = s.length + 1 := by rw [hr1]; simp
   rw [if_pos c3, if_pos (by rw [w64_id (by omega) (by omega)]; omega)]
   obtain ⟨v, v1, v2⟩ := WearOf_p k hk hk2 x.Strokes (by omega) hw43 [q] (by simp) x.Mirror
   rw [v1, Option.bind_some]
   obtain ⟨z, z1, z2⟩ := rows_ex k hk x.Strokes hl
   have hok := z2 _ hses
   rw [hzn] at hok
   have hold := hI.at h0 z1
   obtain ⟨u', w1, w2, w3⟩ := wearOf_p k hk x.Strokes hl z z1 (s ++ [q]) (by simp; omega) (by rw [hzn]; exact hok) q.Mirror
   have huu : u' = u := by rw [u1] at w1; exact (Option.some.inj w1).symm
   rw [huu, hzn] at w3
   have happ : ∀ t, tz z x.Mirror t (s ++ [q]) = tz z x.Mirror t s + wz z x.Mirror t q := fun t => by rw [tz_app]; simp [tz]
   have hq0 : ∀ t, t < n -> 0 <= wz z x.Mirror t q := fun t ht => (wz_bd (hok q (by simp)) x.Mirror ht).1
   have hup : ∀ t, t < n -> tz z x.Mirror t (s ++ [q]) <= hi.getD t 0 := fun t ht => by
    by_cases e : q.Mirror = x.Mirror
    ·rw [<- e, <- w3 t ht]
     exact lowB_le u hi u.length 0 u3 t (Nat.zero_le _) (by omega)
    ·have hz : wz z x.Mirror t q = 0 := by unfold wz; rw [if_neg e]
     rw [happ, hz]
     have := hold.1 t ht; omega
   have uniq : ∀ z', ngrind_wearByName k x.Strokes = some z' -> z' = z := fun z' hz' => by rw [z1] at hz'; exact (Option.some.inj hz').symm
   by_cases c4 : v.2 = 0
   ·rw [if_pos c4, if_pos (by simp only [List.length_cons, List.length_nil]; omega)]
    obtain ⟨-, k2, k3⟩ := v2 c4
    obtain ⟨v', x1, x2, x3⟩ := wearOf_p k hk x.Strokes hl z z1 [q] (by simp) (z2 _ k2) x.Mirror
    have hvv : v' = v.1 := by rw [k3] at x1; exact (Option.some.inj x1).symm
    rw [hvv, hzn] at x2 x3
    have hv : ∀ t, t < n -> v.1.getD t 0 = wz z x.Mirror t q := fun t ht => by rw [x3 t ht]; simp [tz]
    refine ih g (i + 1) r.1 ([v.1] ++ wr) (by omega) (by omega) (by omega) (.inr ⟨hl, by rw [hr1]; exact hses, fun z' hz' => ?_⟩)
    rw [uniq z' hz', hr1]
    refine ⟨hup, by simp; have := hold.2.1; omega, fun y hy => ?_, fun t ht => ?_⟩
    ·rcases List.mem_cons.1 hy with rfl | hy
     ·exact ⟨x2, fun t ht => by rw [hv t ht]; exact hq0 t ht⟩
     ·exact hold.2.2.1 y hy
    ·show v.1.getD t 0 + rsm t wr <= _
     rw [happ, hv t ht]
     have := hold.2.2.2 t ht; omega
   ·rw [if_neg c4]
    refine ih g (i + 1) r.1 wr (by omega) (by omega) (by omega) (.inr ⟨hl, by rw [hr1]; exact hses, fun z' hz' => ?_⟩)
    rw [uniq z' hz', hr1]
    refine ⟨hup, by simp; have := hold.2.1; omega, hold.2.2.1, fun t ht => ?_⟩
    rw [happ]
    have := hold.2.2.2 t ht; have := hq0 t ht; omega
theorem copy_ok (k : Nat) (a : List Int) (h : a.length <= 1000) : nspeculumbase_CopyInts k a = some a := by
 unfold nspeculumbase_CopyInts
 rw [if_pos (by simp only [List.length_nil]; omega), List.nil_append]
theorem law_digs (k : Nat) (hk : 1000 < k) (hk2 : k <= 100000000000000000000) (x : SGrinding) (h w : List Int) : nspeculumtop_TopNeverDigs k x h w = some true := by
 unfold nspeculumtop_TopNeverDigs
 rw [show nawake k = some true from rfl, Option.bind_some, if_pos rfl]
 by_cases c1 : 4 < (x.Strokes.length : Int)
 ·rw [if_pos c1]
 rw [if_neg c1]
 by_cases c2 : 6 < (x.Sessions.length : Int)
 ·rw [if_pos c2]
 rw [if_neg c2]
 by_cases c3 : 6 < (h.length : Int)
 ·rw [if_pos c3]
 rw [if_neg c3]
 by_cases c4 : (w.length : Int) = (h.length : Int)
 case neg => rw [if_neg c4]
 rw [if_pos c4]
 by_cases c5 : 30 < (x.Mirror.size : Int)
 ·rw [if_pos c5]
 rw [if_neg c5, two_any hk h w (by omega) (by omega), Option.bind_some]
 by_cases c6 : twE h w = 0
 case neg => rw [if_neg c6]
 rw [if_pos c6]
 have hz : hE h = 0 /\ hE w = 0 := by
  have he := c6
  unfold twE at he
  by_cases c : hE h = 0
  ·rw [if_pos c, if_pos (by omega)] at he; exact ⟨c, he⟩
  ·rw [if_neg c] at he; exact absurd he c
 have h1 := hE_zero hz.1
 have h2 := hE_zero hz.2
 obtain ⟨r, e1, e2⟩ := str_l k x h w (by omega) x.Strokes.length k 0 (by omega) (by omega)
 rw [show nspeculumtop_TopNeverDigs_l0_0 k x h w k 0 = _ from e1, Option.bind_some]
 rcases e2 with rfl | ⟨rfl, e3⟩
 ·rfl
 dsimp only
 obtain ⟨r, f1, f2⟩ := dem_l k x (n := h.length) (by omega) h w rfl (by omega) (fun t ht => ⟨h1 t ht, h2 t (by omega)⟩) h.length k 0 [] [] (by omega) (by omega) rfl rfl (fun t ht => by omega)
 rw [show nspeculumtop_TopNeverDigs_l1_0 k x h w k ([] : List Int) ([] : List Int) 0 = _ from f1, Option.bind_some]
 rcases f2 with rfl | ⟨lo, hi, rfl, g1, g2, g3⟩
 ·rfl
 dsimp only
 have h0 : ∀ t, t < h.length -> 0 <= hi.getD t 0 := fun t ht => (g3 t ht).2.1
 have hws : ∀ i, i < x.Strokes.length -> (x.Strokes.getD i default).Wear.length = h.length := fun i hi => e3 i (Nat.zero_le _) hi
 have hw43 : ∀ i, i < x.Strokes.length -> (x.Strokes.getD i default).Wear.length <= 43 := fun i hi => by rw [hws i hi]; omega
 obtain ⟨r, i1, i2⟩ := day_l k hk hk2 x h w lo hi (n := h.length) (by omega) (by omega) hws g2 h0 (by omega) x.Sessions.length k 0 [] [] (by omega) (by omega) (Nat.zero_le _) (.inl ⟨rfl, rfl⟩)
 rw [show nspeculumtop_TopNeverDigs_l2_0 k x h w (lo, hi) k ([] : List SGrindSession) ([] : List (List Int)) 0 = _ from i1, Option.bind_some]
 rcases i2 with rfl | ⟨s, wr, rfl, s6, hI⟩
 ·rfl
 dsimp only
 obtain ⟨v, v1, v2⟩ := WearOf_p k hk hk2 x.Strokes (by omega) hw43 s (by omega) x.Mirror
 rw [v1, Option.bind_some]
 by_cases c7 : v.2 = 0
 case neg => rw [if_neg c7]
 rw [if_pos c7, copy_ok k h (by omega), copy_ok k w (by omega), Option.bind_some, Option.bind_some]
 obtain ⟨hl, k2, k3⟩ := v2 c7
 have hzn : zones x.Strokes = h.length := hws 0 (strE_zero hl).1
 obtain ⟨z, z1, z2⟩ := rows_ex k hk x.Strokes hl
 have hold := hI.at h0 z1
 obtain ⟨v', x1, x2, x3⟩ := wearOf_p k hk x.Strokes hl z z1 s (by omega) (z2 _ k2) x.Mirror
 have hvv : v' = v.1 := by rw [k3] at x1; exact (Option.some.inj x1).symm
 have hok := z2 _ k2
 rw [hvv, hzn] at x2 x3
 rw [hzn] at hok
 have a1 := ses_ok hk (n := h.length) (by omega) h w rfl (by omega) c6 [v.1] (by simp) (fun y hy => by
  rw [List.mem_singleton.1 hy]
  exact ⟨x2, fun t ht => by rw [x3 t ht]; exact (tz_bd x.Mirror ht s hok).1⟩) (fun t ht => by
  have := hold.1 t ht; have := g3 t ht; have := x3 t ht
  simp only [rsm]; omega)
 have a2 := ses_ok hk (n := h.length) (by omega) h w rfl (by omega) c6 wr (by have := hold.2.1; omega) hold.2.2.1 (fun t ht => by
  have := hold.1 t ht; have := g3 t ht; have := hold.2.2.2 t ht
  omega)
 rw [a1, a2, Option.bind_some, Option.bind_some, if_pos rfl]; rfl
theorem vc_digs (x : SGrinding) (h w : List Int) : VC Try.prog 3 [VV.ag (c_SGrinding x), VV.tr (List.map vi h) h.length, VV.tr (List.map vi w) w.length] (vb true) := nspeculumtop_TopNeverDigs_ok 100000000000000000000 x h w true (law_digs _ (by decide) (by decide) x h w)
end Go.Proofs.Ytodaannbkfmhfaa.Vg

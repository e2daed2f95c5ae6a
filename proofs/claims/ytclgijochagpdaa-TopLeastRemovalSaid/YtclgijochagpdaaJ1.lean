import Derived.Test.YtclgijochagpdaaJ0
set_option linter.unusedVariables false
set_option linter.unusedSimpArgs false
namespace Go.Proofs.Ytclgijochagpdaa.Vg
open Go Go.Proofs.Ytclgijochagpdaa.Ev Go.Proofs.Ytclgijochagpdaa.Vv
theorem w64_id {n : Int} (h1 : -9223372036854775808 <= n) (h2 : n <= 9223372036854775807) : w64 n = n := by
 unfold w64 IntKind.wrap
 simp [IntKind.signed, IntKind.bits]
 omega
theorem w64_succ {i : Nat} (h : i < 1000000000000) : w64 ((i : Int) + 1) = ((i + 1 : Nat) : Int) := by
 rw [w64_id (by omega) (by omega)]; omega
theorem drop_get {α : Type} {y : List α} {i : Nat} (h : i < y.length) (d : α) : y.drop i = y.getD i d :: y.drop (i + 1) := by
 rw [List.drop_eq_getElem_cons h, List.getD_eq_getElem?_getD, List.getElem?_eq_getElem h]; rfl
theorem mem_getD {α : Type} {y : List α} {i : Nat} (h : i < y.length) (d : α) : y.getD i d ∈ y := by
 rw [List.getD_eq_getElem?_getD, List.getElem?_eq_getElem h]; exact List.getElem_mem h
theorem getD_set {α : Type} {y : List α} {i : Nat} (h : i < y.length) (v d : α) (j : Nat) : (y.set i v).getD j d = if j = i then v else y.getD j d := by
 rw [List.getD_eq_getElem?_getD, List.getD_eq_getElem?_getD, List.getElem?_set]
 by_cases e : j = i
 ·subst e; rw [if_pos rfl, if_pos rfl, if_pos h]; rfl
 ·rw [if_neg e, if_neg (fun x => e x.symm)]
def sumB (b : Bool) : Sum Unit Unit := match b with | true => .inr () | false => .inl ()
def sumE (e : Int) : Sum Int Unit := if e = 0 then .inr () else .inl e
theorem sumE_n {e : Int} (h : e ≠ 0) : sumE e = .inl e := if_neg h
def inR (a b n : Int) : Bool := decide (a <= n /\ n <= b)
theorem inR_t {a b n : Int} : inR a b n = true ↔ a <= n /\ n <= b := by unfold inR; exact decide_eq_true_iff
theorem within_base (k : Nat) (a b c : Int) : nspeculumbase_Within k a b c = some (inR b c a) := by
 unfold nspeculumbase_Within inR
 by_cases h : b <= a <;> simp [h]
theorem isWithin_p (k : Nat) (a b c : Int) : nprofile_isWithin k a b c = some (inR b c a) := by
 unfold nprofile_isWithin inR
 by_cases h : b <= a <;> simp [h]
def firstE {α : Type} (f : α -> Int) : List α -> Int
 | [] => 0
 | x :: xs => if f x = 0 then firstE f xs else f x
theorem firstE_zero {α : Type} {f : α -> Int} : ∀ {l : List α}, firstE f l = 0 -> ∀ x ∈ l, f x = 0
 | [], _, x, hx => by cases hx
 | y :: l, h, x, hx => by
   unfold firstE at h
   by_cases hy : f y = 0
   ·rw [if_pos hy] at h
    rcases List.mem_cons.1 hx with rfl | hx
    ·exact hy
    ·exact firstE_zero h x hx
   ·rw [if_neg hy] at h; exact absurd h hy
theorem areZones_p (k : Nat) {z : Int} (hz : 1 <= z /\ z <= 40) (a b : Int) : nprofile_areZones k z a b = some (inR 0 (z - 1) a && inR 0 (z - 1) b) := by
 unfold nprofile_areZones
 rw [isWithin_p, Option.bind_some, w64_id (n := z - 1) (by omega) (by omega), isWithin_p]
 cases inR 0 (z - 1) a <;> rfl
theorem small_l (k : Nat) {a : Int} (ha : 0 <= a /\ a <= 1000000000000) (l : List Int) (hl : l.length <= 1000) : ∀ (d fuel i : Nat), l.length = i + d -> d < fuel -> nprofile_areSmall_l0_0 k a l fuel (i : Int) = some (sumB ((l.drop i).all (inR (0 - a) a))) := by
 intro d
 induction d with
 | zero =>
   intro fuel i he hf
   obtain ⟨f, rfl⟩ : ∃ f, fuel = f + 1 := ⟨fuel - 1, by omega⟩
   rw [nprofile_areSmall_l0_0.eq_2, if_neg (by omega), List.drop_of_length_le (by omega)]; rfl
 | succ d ih =>
   intro fuel i he hf
   obtain ⟨f, rfl⟩ : ∃ f, fuel = f + 1 := ⟨fuel - 1, by omega⟩
   rw [nprofile_areSmall_l0_0.eq_2, if_pos (by omega), if_pos (by omega), isWithin_p, Option.bind_some, drop_get (show i < l.length by omega) 0, Int.toNat_natCast, w64_id (n := 0 - a) (by omega) (by omega), List.all_cons]
   cases inR (0 - a) a (l.getD i 0) with
   | false => rfl
   | true =>
     rw [if_pos rfl, w64_succ (by omega), Bool.true_and]
     exact ih f (i + 1) (by omega) (by omega)
theorem areSmall_p {k : Nat} (hk : 2000 < k) {a : Int} (ha : 0 <= a /\ a <= 1000000000000) (l : List Int) (hl : l.length <= 1000) : nprofile_areSmall k a l = some (l.all (inR (0 - a) a)) := by
 unfold nprofile_areSmall
 rw [show nprofile_areSmall_l0_0 k a l k 0 = _ from small_l k ha l hl l.length k 0 (by omega) (by omega), Option.bind_some, List.drop_zero]
 cases l.all (inR (0 - a) a) <;> rfl
def rdE (z : Int) (r : SHeightReading) : Int :=
 if (inR 0 (z - 1) r.From && inR 0 (z - 1) r.To) = true then
  (if r.From = r.To then 3 else if (inR (-1000000) 1000000 r.Diff.Lo && inR (-1000000) 1000000 r.Diff.Hi) = true then (if r.Diff.Hi < r.Diff.Lo then 9 else 0) else 2)
 else 6
def chkE (z : Int) (l : List SHeightReading) : Int := if inR 1 40 z = true then (if 100 < l.length then 8 else firstE (rdE z) l) else 2
theorem reading_p {k : Nat} (hk : 2000 < k) {z : Int} (hz : 1 <= z /\ z <= 40) (r : SHeightReading) : nprofile_checkReading k z r = some (rdE z r) := by
 unfold nprofile_checkReading rdE
 rw [areZones_p k hz, Option.bind_some]
 by_cases c : (inR 0 (z - 1) r.From && inR 0 (z - 1) r.To) = true
 ·rw [if_pos c, if_pos c]
  by_cases c2 : r.From = r.To
  ·rw [if_pos c2, if_pos c2]
  ·rw [if_neg c2, if_neg c2, areSmall_p hk (by omega) _ (by simp), Option.bind_some]
   have e : ([r.Diff.Lo, r.Diff.Hi] : List Int).all (inR (0 - 1000000) 1000000) = (inR (-1000000) 1000000 r.Diff.Lo && inR (-1000000) 1000000 r.Diff.Hi) := by
    simp only [List.all_cons, List.all_nil, Bool.and_true]; rfl
   rw [e]
   by_cases c3 : (inR (-1000000) 1000000 r.Diff.Lo && inR (-1000000) 1000000 r.Diff.Hi) = true
   ·rw [if_pos c3, if_pos c3]
    split <;> rfl
   ·rw [if_neg c3, if_neg c3]
 ·rw [if_neg c, if_neg c]
theorem checks_p {k : Nat} (hk : 2000 < k) {z : Int} (hz : 1 <= z /\ z <= 40) (l : List SHeightReading) (hl : l.length <= 200) : ∀ (d fuel i : Nat), l.length = i + d -> d < fuel -> nprofile_CheckReadings_l0_0 k z l fuel (i : Int) = some (sumE (firstE (rdE z) (l.drop i))) := by
 intro d
 induction d with
 | zero =>
   intro fuel i he hf
   obtain ⟨f, rfl⟩ : ∃ f, fuel = f + 1 := ⟨fuel - 1, by omega⟩
   rw [nprofile_CheckReadings_l0_0.eq_2, if_neg (by omega), List.drop_of_length_le (by omega)]; rfl
 | succ d ih =>
   intro fuel i he hf
   obtain ⟨f, rfl⟩ : ∃ f, fuel = f + 1 := ⟨fuel - 1, by omega⟩
   rw [nprofile_CheckReadings_l0_0.eq_2, if_pos (by omega), if_pos (by omega), drop_get (show i < l.length by omega) default, Int.toNat_natCast]
   show ((nprofile_checkReading k z (l.getD i default)).bind _) = _
   rw [reading_p hk hz, Option.bind_some]
   unfold firstE
   by_cases c : rdE z (l.getD i default) = 0
   ·rw [if_pos c, if_pos c, w64_succ (by omega)]
    exact ih f (i + 1) (by omega) (by omega)
   ·rw [if_neg c, if_neg c, sumE_n c]
theorem check_p {k : Nat} (hk : 2000 < k) (z : Int) (l : List SHeightReading) (hl : l.length <= 200) : nprofile_CheckReadings k z l = some (chkE z l) := by
 unfold nprofile_CheckReadings chkE
 rw [isWithin_p, Option.bind_some]
 cases e : inR 1 40 z with
 | false => rfl
 | true =>
   have hz := inR_t.1 e
   rw [if_pos rfl, if_pos rfl]
   by_cases c : 100 < l.length
   ·rw [if_pos (by omega), if_pos c]
   ·rw [if_neg (by omega), if_neg c, show nprofile_CheckReadings_l0_0 k z l k 0 = _ from checks_p hk hz l hl l.length k 0 (by omega) (by omega), Option.bind_some, List.drop_zero]
    by_cases c2 : firstE (rdE z) l = 0
    ·rw [c2]; rfl
    ·rw [sumE_n c2]
structure RV (z : Int) (r : SHeightReading) : Prop where
 f : 0 <= r.From /\ r.From < z
 t : 0 <= r.To /\ r.To < z
 ne : r.From ≠ r.To
 lo : -1000000 <= r.Diff.Lo /\ r.Diff.Lo <= 1000000
 hi : -1000000 <= r.Diff.Hi /\ r.Diff.Hi <= 1000000
 le : r.Diff.Lo <= r.Diff.Hi
theorem rdE_rv {z : Int} {r : SHeightReading} (h : rdE z r = 0) : RV z r := by
 unfold rdE at h
 by_cases c : (inR 0 (z - 1) r.From && inR 0 (z - 1) r.To) = true
 ·rw [if_pos c] at h
  rw [Bool.and_eq_true, inR_t, inR_t] at c
  by_cases c2 : r.From = r.To
  ·rw [if_pos c2] at h; omega
  ·rw [if_neg c2] at h
   by_cases c3 : (inR (-1000000) 1000000 r.Diff.Lo && inR (-1000000) 1000000 r.Diff.Hi) = true
   ·rw [if_pos c3] at h
    rw [Bool.and_eq_true, inR_t, inR_t] at c3
    by_cases c4 : r.Diff.Hi < r.Diff.Lo
    ·rw [if_pos c4] at h; omega
    ·exact ⟨by omega, by omega, c2, by omega, by omega, by omega⟩
   ·rw [if_neg c3] at h; omega
 ·rw [if_neg c] at h; omega
structure OKR (z : Int) (l : List SHeightReading) : Prop where
 zz : 1 <= z /\ z <= 40
 n : l.length <= 100
 r : ∀ r ∈ l, RV z r
theorem chk_ok {z : Int} {l : List SHeightReading} (h : chkE z l = 0) : OKR z l := by
 unfold chkE at h
 cases e : inR 1 40 z with
 | false => rw [e] at h; simp at h
 | true =>
   rw [e, if_pos rfl] at h
   by_cases c : 100 < l.length
   ·rw [if_pos c] at h; omega
   ·rw [if_neg c] at h
    exact ⟨inR_t.1 e, by omega, fun r hr => rdE_rv (firstE_zero h r hr)⟩
def lgP (i : Nat) (r : SHeightReading) : Sleg := ⟨(i : Int) + 1, r.From, r.To, r.Diff.Hi⟩
def lgN (i : Nat) (r : SHeightReading) : Sleg := ⟨-(i : Int) - 1, r.To, r.From, -r.Diff.Lo⟩
def legs : List SHeightReading -> Nat -> List Sleg
 | [], _ => []
 | r :: l, i => lgP i r :: lgN i r :: legs l (i + 1)
theorem legs_len : ∀ (l : List SHeightReading) (i : Nat), (legs l i).length = 2 * l.length
 | [], _ => rfl
 | r :: l, i => by simp [legs, legs_len l]; omega
theorem legs_mem : ∀ {l : List SHeightReading} {i : Nat} {g : Sleg}, g ∈ legs l i -> ∃ j, j < l.length /\ (g = lgP (i + j) (l.getD j default) \/ g = lgN (i + j) (l.getD j default))
 | [], _, g, h => by cases h
 | r :: l, i, g, h => by
   rcases List.mem_cons.1 h with h | h
   ·exact ⟨0, by simp, .inl (by rw [h]; rfl)⟩
   ·rcases List.mem_cons.1 h with h | h
    ·exact ⟨0, by simp, .inr (by rw [h]; rfl)⟩
    ·obtain ⟨j, h1, h2⟩ := legs_mem h
     refine ⟨j + 1, by simp; omega, ?_⟩
     rw [show i + (j + 1) = i + 1 + j by omega]
     exact h2
theorem OKR.web {z : Int} {l : List SHeightReading} (h : OKR z l) : Web z.toNat (legs l 0) := by
 have hz := h.zz
 have key : ∀ g, g ∈ legs l 0 -> ∃ r, RV z r /\ (g.from_ = r.From /\ g.to = r.To /\ g.length = r.Diff.Hi \/ g.from_ = r.To /\ g.to = r.From /\ g.length = -r.Diff.Lo) := fun g hg => by
  obtain ⟨j, h1, h2⟩ := legs_mem hg
  refine ⟨l.getD j default, h.r _ (mem_getD h1 _), ?_⟩
  rcases h2 with h2 | h2
  ·rw [h2]; exact .inl ⟨rfl, rfl, rfl⟩
  ·rw [h2]; exact .inr ⟨rfl, rfl, rfl⟩
 refine ⟨by omega, by omega, fun g hg => ?_, fun g hg => ?_, fun g hg => ?_, by rw [legs_len]; have := h.n; omega, fun g hg => ?_⟩ <;>
  (obtain ⟨r, hr, e⟩ := key g hg; have h1 := hr.f; have h2 := hr.t; have h3 := hr.ne; have h4 := hr.lo; have h5 := hr.hi; try unfold ln) <;> first
  | (unfold fr to; rcases e with ⟨e1, e2, e3⟩ | ⟨e1, e2, e3⟩ <;> rw [e1, e2] <;> omega)
  | (rcases e with ⟨e1, e2, e3⟩ | ⟨e1, e2, e3⟩ <;> rw [e3] <;> omega)
def LegI (z : Int) (L : List Sleg) : Prop := ∀ g, g ∈ L -> (0 <= g.from_ /\ g.from_ < z) /\ (0 <= g.to /\ g.to < z)
theorem OKR.legI {z : Int} {l : List SHeightReading} (h : OKR z l) : LegI z (legs l 0) := fun g hg => by
 obtain ⟨j, h1, h2⟩ := legs_mem hg
 have hr := h.r _ (mem_getD h1 default)
 have f1 := hr.f
 have f2 := hr.t
 rcases h2 with h2 | h2 <;> rw [h2]
 ·exact ⟨f1, f2⟩
 ·exact ⟨f2, f1⟩
theorem legOf_p (k : Nat) {z : Int} {l : List SHeightReading} (h : OKR z l) {i : Nat} (hi : i < l.length) : nprofile_legOf k l ((i : Int) + 1) = some (lgP i (l.getD i default)) /\ nprofile_legOf k l (-(i : Int) - 1) = some (lgN i (l.getD i default)) := by
 have hn := h.n
 have hr := (h.r _ (mem_getD hi default)).lo
 unfold nprofile_legOf
 constructor
 ·rw [if_neg (by omega), w64_id (n := (i : Int) + 1 - 1) (by omega) (by omega), if_pos (by omega), show ((i : Int) + 1 - 1).toNat = i by omega]; rfl
 ·rw [if_pos (by omega), w64_id (n := 0 - (-(i : Int) - 1)) (by omega) (by omega), w64_id (n := 0 - (-(i : Int) - 1) - 1) (by omega) (by omega), if_pos (by omega), show (0 - (-(i : Int) - 1) - 1).toNat = i by omega, w64_id (n := 0 - (l.getD i default).Diff.Lo) (by omega) (by omega), show 0 - (l.getD i default).Diff.Lo = -(l.getD i default).Diff.Lo by omega]; rfl
theorem web_l (k : Nat) {z : Int} {l : List SHeightReading} (h : OKR z l) (z' : Int) : ∀ (d fuel i : Nat) (y : List Sleg), l.length = i + d -> d < fuel -> y.length + 2 * d <= 1000 -> nprofile_newWeb_l0_0 k z' l fuel y (i : Int) = some (y ++ legs (l.drop i) i) := by
 intro d
 induction d with
 | zero =>
   intro fuel i y he hf hy
   obtain ⟨f, rfl⟩ : ∃ f, fuel = f + 1 := ⟨fuel - 1, by omega⟩
   rw [nprofile_newWeb_l0_0.eq_2, if_neg (by omega), List.drop_of_length_le (by omega)]
   simp [legs]
 | succ d ih =>
   intro fuel i y he hf hy
   obtain ⟨f, rfl⟩ : ∃ f, fuel = f + 1 := ⟨fuel - 1, by omega⟩
   have hn := h.n
   obtain ⟨e1, e2⟩ := legOf_p k h (i := i) (by omega)
   rw [nprofile_newWeb_l0_0.eq_2, if_pos (by omega), w64_id (n := (i : Int) + 1) (by omega) (by omega), e1, Option.bind_some, w64_id (n := 0 - (i : Int)) (by omega) (by omega), w64_id (n := 0 - (i : Int) - 1) (by omega) (by omega), show 0 - (i : Int) - 1 = -(i : Int) - 1 by omega, e2, Option.bind_some, if_pos (by simp; omega), drop_get (show i < l.length by omega) default, show ((i : Int) + 1) = ((i + 1 : Nat) : Int) by omega, ih f (i + 1) _ (by omega) (by omega) (by simp; omega), List.append_assoc]
   rfl
theorem newWeb_p {k : Nat} (hk : 2000 < k) {z : Int} {l : List SHeightReading} (h : OKR z l) (z' : Int) : nprofile_newWeb k z' l = some ⟨z', legs l 0⟩ := by
 have hn := h.n
 unfold nprofile_newWeb
 rw [show nprofile_newWeb_l0_0 k z' l k [] 0 = _ from web_l k h z' l.length k 0 [] (by omega) (by omega) (by simp; omega)]
 rfl
def lw : List Sleg -> List Int -> List Sleg -> Int -> Bool -> Int × Bool × List Int × List Sleg
 | [], s, q, z, ok => (z, ok, s, q)
 | g :: l, s, q, z, ok => if gx s (fr g) = far then lw l s q z ok else if gx s (fr g) + ln g < gx s (to g) then lw l (s.set (to g) (gx s (fr g) + ln g)) (q.set (to g) g) g.to true else lw l s q z ok
theorem lw_s : ∀ (l : List Sleg) (s : List Int) (q : List Sleg) (z : Int) (ok : Bool), (lw l s q z ok).2.2.1 = rnd s l
 | [], s, q, z, ok => rfl
 | g :: l, s, q, z, ok => by
   unfold lw
   show _ = rnd (rlx s g) l
   unfold rlx
   by_cases c : gx s (fr g) = far
   ·rw [if_pos c, if_pos c]; exact lw_s l s q z ok
   ·rw [if_neg c, if_neg c]
    by_cases c2 : gx s (fr g) + ln g < gx s (to g)
    ·rw [if_pos c2, if_pos c2]; exact lw_s l _ _ _ _
    ·rw [if_neg c2, if_neg c2]; exact lw_s l s q z ok
theorem lw_q : ∀ (l : List Sleg) (s : List Int) (q : List Sleg) (z : Int) (ok : Bool), (lw l s q z ok).2.2.2.length = q.length
 | [], s, q, z, ok => rfl
 | g :: l, s, q, z, ok => by
   unfold lw
   split
   ·exact lw_q l s q z ok
   ·split
    ·rw [lw_q l _ _ _ _, List.length_set]
    ·exact lw_q l s q z ok
theorem lw_ok {n : Nat} : ∀ (l : List Sleg), OKL n l -> ∀ (s : List Int) (q : List Sleg) (z : Int) (ok : Bool), s.length = n -> ((lw l s q z ok).2.1 = false -> ok = false /\ rnd s l = s) /\ ((lw l s q z ok).2.1 = true -> ok = true \/ ∃ j, j < n /\ gx (rnd s l) j < gx s j)
 | [], _, s, q, z, ok, hs => ⟨fun h => ⟨h, rfl⟩, fun h => .inl h⟩
 | g :: l, hl, s, q, z, ok, hs => by
   have hl' : OKL n l := fun x hx => hl x (by simp [hx])
   unfold lw
   show (_ -> _ /\ rnd (rlx s g) l = s) /\ (_ -> _ \/ ∃ j, j < n /\ gx (rnd (rlx s g) l) j < gx s j)
   unfold rlx
   by_cases c : gx s (fr g) = far
   ·rw [if_pos c, if_pos c]; exact lw_ok l hl' s q z ok hs
   ·rw [if_neg c, if_neg c]
    by_cases c2 : gx s (fr g) + ln g < gx s (to g)
    ·rw [if_pos c2, if_pos c2]
     have ih := lw_ok l hl' (s.set (to g) (gx s (fr g) + ln g)) (q.set (to g) g) g.to true (by simp [hs])
     refine ⟨fun h => ?_, fun _ => .inr ⟨to g, (hl g (by simp)).2, ?_⟩⟩
     ·have := (ih.1 h).1; cases this
     ·have h1 := rnd_le hl' (s := s.set (to g) (gx s (fr g) + ln g)) (by simp [hs]) (to g)
      rw [gx_set (by rw [hs]; exact (hl g (by simp)).2), if_pos rfl] at h1
      omega
    ·rw [if_neg c2, if_neg c2]; exact lw_ok l hl' s q z ok hs
structure Sm (n : Nat) (s : List Int) (B : Int) : Prop where
 len : s.length = n
 far : ∀ j, gx s j <= far
 up : Up n 1000000 0 s
 lo : ∀ j, j < n -> B <= gx s j
theorem Sm.rlx {n : Nat} {L : List Sleg} (W : Web n L) {s : List Int} {B : Int} (h : Sm n s B) {g : Sleg} (hg : g ∈ L) : Sm n (rlx s g) (B - 1000000) := by
 have hn := W.ok g hg
 refine ⟨by rw [rlx_len, h.len], fun j => rlx_far (by rw [h.len]; exact hn.2) h.far j, rlx_up (by omega) (small_up W) h.len h.far hn (W.up g hg) h.up, fun j hj => ?_⟩
 exact rlx_lo (by omega) (by rw [h.len]; exact hn.2) (W.lo g hg) (fun j hj => h.lo j (by rw [<- h.len]; exact hj)) (by rw [h.len]; exact hn.1) j (by rw [rlx_len, h.len]; exact hj)
theorem Sm.weak {n : Nat} {s : List Int} {B C : Int} (h : Sm n s B) (hc : C <= B) : Sm n s C := ⟨h.len, h.far, h.up, fun j hj => Int.le_trans hc (h.lo j hj)⟩
theorem Sm.rnd {n : Nat} {L : List Sleg} (W : Web n L) : ∀ {l : List Sleg}, (∀ g, g ∈ l -> g ∈ L) -> ∀ {s : List Int} {B : Int}, Sm n s B -> Sm n (rnd s l) (B - (l.length : Int) * 1000000)
 | [], _, s, B, h => h.weak (by simp)
 | g :: l, hl, s, B, h => by
   have := Sm.rnd W (l := l) (fun x hx => hl x (by simp [hx])) (h.rlx W (hl g (by simp)))
   exact this.weak (by rw [List.length_cons]; omega)
theorem Sm.hi {n : Nat} {L : List Sleg} (W : Web n L) {s : List Int} {B : Int} (h : Sm n s B) {j : Nat} (hj : j < n) (hf : gx s j ≠ Vg.far) : gx s j <= 40000000 := by
 have := Up.max (by omega) h.up j hj hf
 have := W.n1
 omega
theorem sm_zs {n : Nat} : Sm n (zs n) 0 := ⟨zs_len, fun j => by rw [gx_zs]; unfold Vg.far; omega, zs_up, fun j _ => by rw [gx_zs]; omega⟩
theorem sm_fs {n z : Nat} (hz : z < n) : Sm n (fs n z) 0 := ⟨fs_len z, fs_far z, fs_up hz, fun j hj => by rw [gx_fs hz hj]; split <;> (try unfold Vg.far) <;> omega⟩
section
variable {n : Nat} {z : Int} {L : List Sleg}
theorem lower_c (k : Nat) (W : Web n L) (hI : LegI z L) (hz : z = (n : Int)) (y1 : List Int) (y2 : List Sleg) (x17 x4 : Int) : ∀ (d fuel i : Nat) (s : List Int) (q : List Sleg) (x : Int) (ok : Bool), L.length = i + d -> d < fuel -> Sm n s (-9000000000000 + (d : Int) * 1000000) -> q.length = n ->
 n_profile_web_circle_i34_l0_0 k ⟨z, L⟩ y1 y2 x17 x4 fuel s q (i : Int) x ok = some ((lw (L.drop i) s q x ok).1, (lw (L.drop i) s q x ok).2.1, (lw (L.drop i) s q x ok).2.2.1, (lw (L.drop i) s q x ok).2.2.2) := by
 intro d
 induction d with
 | zero =>
   intro fuel i s q x ok he hf hS hq
   obtain ⟨f, rfl⟩ : ∃ f, fuel = f + 1 := ⟨fuel - 1, by omega⟩
   rw [n_profile_web_circle_i34_l0_0.eq_2, List.drop_of_length_le (by omega)]
   dsimp only
   rw [if_neg (by omega)]; rfl
 | succ d ih =>
   intro fuel i s q x ok he hf hS hq
   obtain ⟨f, rfl⟩ : ∃ f, fuel = f + 1 := ⟨fuel - 1, by omega⟩
   have hfew := W.few
   have hmem : L.getD i default ∈ L := mem_getD (by omega) default
   have hSn := hS.rlx W hmem
   rw [n_profile_web_circle_i34_l0_0.eq_2, drop_get (show i < L.length by omega) default]
   dsimp only
   rw [if_pos (by omega), if_pos (by omega), Int.toNat_natCast]
   generalize L.getD i default = g at hmem hSn ⊢
   obtain ⟨g1, g2⟩ := hI g hmem
   have hsl := hS.len
   have w1 := W.up g hmem
   have w2 := W.lo g hmem
   have h1 : (s.getD g.from_.toNat 0) = gx s (fr g) := rfl
   have h2 : (s.getD g.to.toNat 0) = gx s (to g) := rfl
   unfold ln at w1 w2
   rw [if_pos (by omega)]
   unfold lw
   unfold Vg.rlx at hSn
   by_cases c : gx s (fr g) = far
   ·rw [if_pos c, if_pos (show s.getD g.from_.toNat 0 = 9223372036854775807 from c), w64_succ (by omega)]
    exact ih f (i + 1) s q x ok (by omega) (by omega) (hS.weak (by omega)) hq
   ·have b1 := hS.hi W (W.ok g hmem).1 c
    have b2 := hS.lo _ (W.ok g hmem).1
    rw [if_neg c] at hSn
    rw [if_neg c, if_neg (show ¬ s.getD g.from_.toNat 0 = 9223372036854775807 from c), if_pos (by omega), h1, h2, w64_id (n := gx s (fr g) + g.length) (by omega) (by omega)]
    by_cases c2 : gx s (fr g) + ln g < gx s (to g)
    ·rw [if_pos c2] at hSn
     rw [if_pos c2, if_pos (show gx s (fr g) + g.length < gx s (to g) from c2), if_pos (by omega), w64_succ (by omega)]
     exact ih f (i + 1) _ _ _ _ (by omega) (by omega) (hSn.weak (by omega)) (by simp [hq])
    ·rw [if_neg c2, if_neg (show ¬ gx s (fr g) + g.length < gx s (to g) from c2), w64_succ (by omega)]
     exact ih f (i + 1) s q x ok (by omega) (by omega) (hS.weak (by omega)) hq
theorem lower_f (k : Nat) (W : Web n L) (hI : LegI z L) (hz : z = (n : Int)) (y1 : List Int) (y2 : List Sleg) (x22 : Int) : ∀ (d fuel i : Nat) (s : List Int) (q : List Sleg) (x : Int) (ok : Bool), L.length = i + d -> d < fuel -> Sm n s (-9000000000000 + (d : Int) * 1000000) -> q.length = n ->
 n_profile_web_from_i34_l0_0 k ⟨z, L⟩ y1 y2 x22 fuel s q (i : Int) x ok = some ((lw (L.drop i) s q x ok).1, (lw (L.drop i) s q x ok).2.1, (lw (L.drop i) s q x ok).2.2.1, (lw (L.drop i) s q x ok).2.2.2) := by
 intro d
 induction d with
 | zero =>
   intro fuel i s q x ok he hf hS hq
   obtain ⟨f, rfl⟩ : ∃ f, fuel = f + 1 := ⟨fuel - 1, by omega⟩
   rw [n_profile_web_from_i34_l0_0.eq_2, List.drop_of_length_le (by omega)]
   dsimp only
   rw [if_neg (by omega)]; rfl
 | succ d ih =>
   intro fuel i s q x ok he hf hS hq
   obtain ⟨f, rfl⟩ : ∃ f, fuel = f + 1 := ⟨fuel - 1, by omega⟩
   have hfew := W.few
   have hmem : L.getD i default ∈ L := mem_getD (by omega) default
   have hSn := hS.rlx W hmem
   rw [n_profile_web_from_i34_l0_0.eq_2, drop_get (show i < L.length by omega) default]
   dsimp only
   rw [if_pos (by omega), if_pos (by omega), Int.toNat_natCast]
   generalize L.getD i default = g at hmem hSn ⊢
   obtain ⟨g1, g2⟩ := hI g hmem
   have hsl := hS.len
   have w1 := W.up g hmem
   have w2 := W.lo g hmem
   have h1 : (s.getD g.from_.toNat 0) = gx s (fr g) := rfl
   have h2 : (s.getD g.to.toNat 0) = gx s (to g) := rfl
   unfold ln at w1 w2
   rw [if_pos (by omega)]
   unfold lw
   unfold Vg.rlx at hSn
   by_cases c : gx s (fr g) = far
   ·rw [if_pos c, if_pos (show s.getD g.from_.toNat 0 = 9223372036854775807 from c), w64_succ (by omega)]
    exact ih f (i + 1) s q x ok (by omega) (by omega) (hS.weak (by omega)) hq
   ·have b1 := hS.hi W (W.ok g hmem).1 c
    have b2 := hS.lo _ (W.ok g hmem).1
    rw [if_neg c] at hSn
    rw [if_neg c, if_neg (show ¬ s.getD g.from_.toNat 0 = 9223372036854775807 from c), if_pos (by omega), h1, h2, w64_id (n := gx s (fr g) + g.length) (by omega) (by omega)]
    by_cases c2 : gx s (fr g) + ln g < gx s (to g)
    ·rw [if_pos c2] at hSn
     rw [if_pos c2, if_pos (show gx s (fr g) + g.length < gx s (to g) from c2), if_pos (by omega), w64_succ (by omega)]
     exact ih f (i + 1) _ _ _ _ (by omega) (by omega) (hSn.weak (by omega)) (by simp [hq])
    ·rw [if_neg c2, if_neg (show ¬ gx s (fr g) + g.length < gx s (to g) from c2), w64_succ (by omega)]
     exact ih f (i + 1) s q x ok (by omega) (by omega) (hS.weak (by omega)) hq
end
end Go.Proofs.Ytclgijochagpdaa.Vg

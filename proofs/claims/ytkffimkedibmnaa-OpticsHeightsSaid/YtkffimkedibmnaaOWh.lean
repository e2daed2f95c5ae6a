/- Chapter 2, plain: heights on a line, and spots. -/
import Derived.Test.YtkffimkedibmnaaOWc
import Derived.Test.YtkffimkedibmnaaWH
set_option linter.unusedVariables false
set_option linter.unusedSimpArgs false
namespace Go.Proofs.Ytkffimkedibmnaa.Vg
open Go Go.Proofs.Ytkffimkedibmnaa.Ev Go.Proofs.Ytkffimkedibmnaa.Vv
theorem checkFrac_ref (k : Nat) (hk : 100000000000000000000 ≤ k) {f : SFrac} (h : IF f) : nspeculumref02_CheckFrac k f = some (ckE f) := by
  have e := ckE_sm f
  unfold nspeculumref02_CheckFrac
  rw [isLowest_any k hk h, Option.bind_some, isSmall_any k hk h, Option.bind_some]
  cases hl : lowB f with
  | false => unfold ckE; rw [hl]; rfl
  | true =>
    rw [if_pos rfl]
    by_cases s : smB f = true
    · rw [if_pos s, e.2 s]
    · rw [if_neg s]
      have : ckE f ≠ 0 := fun h => s (e.1 h)
      unfold ckE at this ⊢
      rw [hl, if_pos rfl] at this ⊢
      split
      · rfl
      · split
        · rfl
        · rename_i h1 h2; rw [if_neg h1, if_neg h2] at this; exact absurd rfl this
def liE (l : SLine) : Int := fcE [l.Point.R, l.Point.Z, l.Toward.e0, l.Toward.e1, l.Z]
structure IL (l : SLine) : Prop where
  a : IF l.Point.R
  b : IF l.Point.Z
  c : IF l.Toward.e0
  d : IF l.Toward.e1
  e : IF l.Z
theorem line_opt (k : Nat) (hk : 100000000000000000000 ≤ k) {l : SLine} (h : IL l) : noptics_checkFracs k [l.Point.R, l.Point.Z, l.Toward.e0, l.Toward.e1, l.Z] = some (liE l) := checkFracs_any k hk _ (fun f hf => by
  simp only [List.mem_cons, List.not_mem_nil, or_false] at hf
  rcases hf with rfl | rfl | rfl | rfl | rfl
  · exact h.a
  · exact h.b
  · exact h.c
  · exact h.d
  · exact h.e) (by simp)
theorem line_ref (k : Nat) (hk : 100000000000000000000 ≤ k) {l : SLine} (h : IL l) : ∀ g, nspeculumref02_HeightAt_l0_0 k l.Point l.Toward l.Z (g + 6) 0 = some (sumE (liE l)) := by
  intro g
  have bad : ∀ e : Int, e ≠ 0 → (some (.inl e) : Option (Sum Int Unit)) = some (sumE e) := fun e he => by unfold sumE; rw [if_neg he]
  unfold liE
  simp only [fcE]
  rw [nspeculumref02_HeightAt_l0_0.eq_2, if_pos (by decide), if_pos rfl, checkFrac_ref k hk h.a, Option.bind_some]
  by_cases c1 : ckE l.Point.R = 0
  · rw [if_pos c1, if_pos c1, show w64 (0 + 1) = 1 from by decide, nspeculumref02_HeightAt_l0_0.eq_2, if_pos (by decide), if_neg (by decide), if_pos rfl, checkFrac_ref k hk h.b, Option.bind_some]
    by_cases c2 : ckE l.Point.Z = 0
    · rw [if_pos c2, if_pos c2, show w64 (1 + 1) = 2 from by decide, nspeculumref02_HeightAt_l0_0.eq_2, if_pos (by decide), if_neg (by decide), if_neg (by decide), if_pos rfl, checkFrac_ref k hk h.c, Option.bind_some]
      by_cases c3 : ckE l.Toward.e0 = 0
      · rw [if_pos c3, if_pos c3, show w64 (2 + 1) = 3 from by decide, nspeculumref02_HeightAt_l0_0.eq_2, if_pos (by decide), if_neg (by decide), if_neg (by decide), if_neg (by decide), if_pos rfl, checkFrac_ref k hk h.d, Option.bind_some]
        by_cases c4 : ckE l.Toward.e1 = 0
        · rw [if_pos c4, if_pos c4, show w64 (3 + 1) = 4 from by decide, nspeculumref02_HeightAt_l0_0.eq_2, if_pos (by decide), if_neg (by decide), if_neg (by decide), if_neg (by decide), if_neg (by decide), if_pos rfl, checkFrac_ref k hk h.e, Option.bind_some]
          by_cases c5 : ckE l.Z = 0
          · rw [if_pos c5, if_pos c5, show w64 (4 + 1) = 5 from by decide, nspeculumref02_HeightAt_l0_0.eq_2, if_neg (by decide)]; rfl
          · rw [if_neg c5, if_neg c5]; exact bad _ c5
        · rw [if_neg c4, if_neg c4]; exact bad _ c4
      · rw [if_neg c3, if_neg c3]; exact bad _ c3
    · rw [if_neg c2, if_neg c2]; exact bad _ c2
  · rw [if_neg c1, if_neg c1]; exact bad _ c1
theorem height_both (k : Nat) (hk : 100000000000000000000 ≤ k) {l : SLine} (h : IL l) : ∃ r, noptics_HeightAt k l.Point l.Toward l.Z = some r ∧ nspeculumref02_HeightAt k l.Point l.Toward l.Z = some r := by
  unfold noptics_HeightAt nspeculumref02_HeightAt nspeculumref02_fraction noptics_beside_api_Frac_
  have lr : nspeculumref02_HeightAt_l0_0 k l.Point l.Toward l.Z k 0 = some (sumE (liE l)) := by
    obtain ⟨g, hg⟩ : ∃ g, k = g + 6 := ⟨k - 6, by omega⟩
    have := line_ref k hk h g
    rwa [← hg] at this
  rw [line_opt k hk h, lr, Option.bind_some, Option.bind_some]
  unfold sumE
  by_cases c : liE l = 0
  · rw [if_pos c, if_pos c]
    dsimp only
    obtain ⟨h1, x⟩ := fcE_cons c
    obtain ⟨h2, x⟩ := fcE_cons x
    obtain ⟨h3, x⟩ := fcE_cons x
    obtain ⟨h4, x⟩ := fcE_cons x
    obtain ⟨h5, _⟩ := fcE_cons x
    have s1 := Sm.of ((ckE_sm _).1 h1); have s2 := Sm.of ((ckE_sm _).1 h2); have s3 := Sm.of ((ckE_sm _).1 h3); have s4 := Sm.of ((ckE_sm _).1 h4); have s5 := Sm.of ((ckE_sm _).1 h5)
    by_cases z : l.Toward.e1.Num = 0
    · rw [if_pos z, over_zero k hk s3 s4 z, Option.bind_some, minus_failed k 11 (by decide), Option.bind_some, times_failed k 11 (by decide), Option.bind_some, plus_failed k 11 (by decide), Option.bind_some, first_one k hk]
      exact ⟨_, rfl, rfl⟩
    · rw [if_neg z]
      obtain ⟨v1, w1, q1, e1, f1, A1⟩ := quo_step k hk (q := ⟨false⟩) (a' := l.Toward.e0) (b' := l.Toward.e1) (fun _ => rfl) (fun _ => rfl) s3 s4 (fun _ => z)
      obtain ⟨v2, w2, q2, e2, f2, A2⟩ := sub_step k hk (q := q1) (a' := l.Z) (b' := l.Point.Z) (fun _ => rfl) (fun _ => rfl) s5 s2
      obtain ⟨v3, w3, q3, e3, f3, A3⟩ := mul_step k hk (q := q2) A2.same (fun h => A1.same (A2.keep h)) A2.sm A1.sm
      obtain ⟨v4, w4, q4, e4, f4, A4⟩ := add_step k hk (q := q3) (a' := l.Point.R) (fun _ => rfl) A3.same s1 A3.sm
      obtain ⟨g1, g1a, g1b⟩ := quo_at f1
      obtain ⟨g2, g2a, g2b⟩ := sub_at f2
      rw [show (⟨0⟩ : Sway) = fl ⟨false⟩ from rfl, e1, Option.bind_some, e2, Option.bind_some, e3, Option.bind_some, e4, Option.bind_some, g2b, Option.bind_some, g1b, Option.bind_some]
      dsimp only
      rw [show st g1 (st g2 ⟨false⟩) = q2 by rw [g2a, g1a, st_swap], f3, Option.bind_some, f4, Option.bind_some, first_one k hk, Option.bind_some, fl_failed]
      dsimp only
      cases hq : q4.Large with
      | true => exact ⟨_, rfl, rfl⟩
      | false => rw [A4.same hq]; exact ⟨_, rfl, rfl⟩
  · rw [if_neg c, if_neg c]; exact ⟨_, rfl, rfl⟩
/-- the whole numbers around a fraction. -/
def loF (f : SFrac) : Int := if f.Num.tmod f.Den < 0 then w64 (w64 (f.Num.tdiv f.Den) - 1) else w64 (f.Num.tdiv f.Den)
def hiF (f : SFrac) : Int := w64 (0 - loF ⟨w64 (0 - f.Num), f.Den⟩)
theorem floor_b (k : Nat) {f : SFrac} (h : Sm f) : nspeculumbase_Floor k f.Num f.Den = some (loF f) := by
  have := h.d0
  unfold nspeculumbase_Floor loF
  rw [if_pos (by omega)]
  split <;> rfl
theorem ceil_b (k : Nat) {f : SFrac} (h : Sm f) : nspeculumbase_Ceil k f.Num f.Den = some (hiF f) := by
  have := h.d0
  unfold nspeculumbase_Ceil nspeculumbase_Floor hiF loF
  rw [if_pos (by omega)]
  dsimp only
  split <;> rfl
theorem around_b (k : Nat) {f : SFrac} (h : Sm f) : noptics_around k f = some ⟨loF f, hiF f⟩ := by
  have h1 : noptics_down k f.Num f.Den = some (loF f) := floor_b k h
  have h2 : noptics_up k f.Num f.Den = some (hiF f) := ceil_b k h
  unfold noptics_around
  rw [h1, Option.bind_some, h2]; rfl
def spanL : List SFrac → Int → Int → Int × Int
  | [], a, b => (a, b)
  | f :: l, a, b => spanL l (minI a (loF f)) (maxI b (hiF f))
theorem span_opt (k : Nat) (xs : List SFrac) (hs : ∀ f ∈ xs, Sm f) (h1 : 1 ≤ xs.length) (hl : xs.length < 1000000000) : ∀ (d fuel i : Nat) (a b : Int), xs.length = i + 1 + d → d < fuel → noptics_SpotOf_l0_0 k xs fuel a b (i : Int) = some (spanL (xs.drop (i + 1)) a b) := by
  have hlen : (sl xs ((1 : Int)).toNat xs.length).length = xs.length - 1 := by rw [sl_len]; show min (xs.length - 1) (xs.length - 1) = _; omega
  intro d
  induction d with
  | zero =>
    intro fuel i a b h hf
    obtain ⟨g, rfl⟩ : ∃ g, fuel = g + 1 := ⟨fuel - 1, by omega⟩
    rw [noptics_SpotOf_l0_0.eq_2, if_neg (by omega), List.drop_eq_nil_of_le (by omega)]; rfl
  | succ d ih =>
    intro fuel i a b h hf
    obtain ⟨g, rfl⟩ : ∃ g, fuel = g + 1 := ⟨fuel - 1, by omega⟩
    have hi : i + 1 < xs.length := by omega
    have e : (sl xs ((1 : Int)).toNat xs.length).getD ((i : Int)).toNat default = xs[i + 1] := by
      rw [Int.toNat_natCast, List.getD_eq_getElem?_getD]
      unfold sl
      rw [List.getElem?_take_of_lt (by show i < xs.length - 1; omega), List.getElem?_drop, show ((1 : Int)).toNat + i = i + 1 by show 1 + i = _; omega, List.getElem?_eq_getElem hi]; rfl
    rw [noptics_SpotOf_l0_0.eq_2, if_pos (by omega), if_pos (by omega), e, around_b k (hs _ (List.getElem_mem hi)), Option.bind_some, w64_succ (by omega), ih g (i + 1) _ _ (by omega) (by omega), List.drop_eq_getElem_cons hi]
    rfl
theorem span_ref (k : Nat) (xs : List SFrac) (hs : ∀ f ∈ xs, Sm f) (hl : xs.length < 1000000000) : ∀ (d fuel i : Nat) (a b : Int), xs.length = i + d → d < fuel → nspeculumref02_SpotOf_l1_0 k xs fuel a b (i : Int) = some (spanL (xs.drop i) a b) := by
  intro d
  induction d with
  | zero =>
    intro fuel i a b h hf
    obtain ⟨g, rfl⟩ : ∃ g, fuel = g + 1 := ⟨fuel - 1, by omega⟩
    rw [nspeculumref02_SpotOf_l1_0.eq_2, if_neg (by omega), List.drop_eq_nil_of_le (by omega)]; rfl
  | succ d ih =>
    intro fuel i a b h hf
    obtain ⟨g, rfl⟩ : ∃ g, fuel = g + 1 := ⟨fuel - 1, by omega⟩
    have hi : i < xs.length := by omega
    have e : xs.getD ((i : Int)).toNat default = xs[i] := by
      rw [Int.toNat_natCast, List.getD_eq_getElem?_getD, List.getElem?_eq_getElem hi]; rfl
    rw [nspeculumref02_SpotOf_l1_0.eq_2, if_pos (by omega), if_pos (by omega), e, floor_b k (hs _ (List.getElem_mem hi)), Option.bind_some, ceil_b k (hs _ (List.getElem_mem hi)), Option.bind_some, w64_succ (by omega), ih g (i + 1) _ _ (by omega) (by omega), List.drop_eq_getElem_cons hi]
    rfl
theorem spotErr_ref (k : Nat) (hk : 100000000000000000000 ≤ k) (xs : List SFrac) (hx : ∀ f, f ∈ xs → IF f) (hl : xs.length < 1000000000000) : ∀ (d fuel i : Nat), xs.length = i + d → d < fuel →
    nspeculumref02_SpotOf_l0_0 k xs fuel (i : Int) = some (sumE (fcE (xs.drop i))) := by
  intro d
  induction d with
  | zero =>
    intro fuel i h hf
    obtain ⟨g, rfl⟩ : ∃ g, fuel = g + 1 := ⟨fuel - 1, by omega⟩
    rw [nspeculumref02_SpotOf_l0_0.eq_2, if_neg (by omega), List.drop_eq_nil_of_le (by omega)]; rfl
  | succ d ih =>
    intro fuel i h hf
    obtain ⟨g, rfl⟩ : ∃ g, fuel = g + 1 := ⟨fuel - 1, by omega⟩
    have hi : i < xs.length := by omega
    have e : xs.getD ((i : Int)).toNat default = xs[i] := by
      rw [Int.toNat_natCast, List.getD_eq_getElem?_getD, List.getElem?_eq_getElem hi]; rfl
    rw [nspeculumref02_SpotOf_l0_0.eq_2, if_pos (by omega), if_pos (by omega), e, w64_succ (by omega), ih g (i + 1) (by omega) (by omega), List.drop_eq_getElem_cons hi, checkFrac_ref k hk (hx _ (List.getElem_mem hi)), Option.bind_some]
    unfold sumE
    by_cases c : ckE xs[i] = 0
    · rw [if_pos c]; simp only [fcE, if_pos c]
    · rw [if_neg c]; simp only [fcE, if_neg c]
theorem fcE_all : ∀ {l : List SFrac}, fcE l = 0 → ∀ f ∈ l, Sm f
  | f :: l, h, g, hg => by
    obtain ⟨h1, h2⟩ := fcE_cons h
    rcases List.mem_cons.1 hg with rfl | hg
    · exact Sm.of ((ckE_sm _).1 h1)
    · exact fcE_all h2 g hg
theorem spot_both (k : Nat) (hk : 100000000000000000000 ≤ k) (xs : List SFrac) (hx : ∀ f, f ∈ xs → IF f) : ∃ r, noptics_SpotOf k xs = some r ∧ nspeculumref02_SpotOf k xs = some r := by
  unfold noptics_SpotOf nspeculumref02_SpotOf
  by_cases c0 : (xs.length : Int) = 0
  · rw [if_pos c0, if_pos c0]; exact ⟨_, rfl, rfl⟩
  · rw [if_neg c0, if_neg c0]
    by_cases c1 : 60 < (xs.length : Int)
    · rw [if_pos c1, if_pos c1]; exact ⟨_, rfl, rfl⟩
    · rw [if_neg c1, if_neg c1, checkFracs_any k hk xs hx (by omega), show nspeculumref02_SpotOf_l0_0 k xs k 0 = _ from spotErr_ref k hk xs hx (by omega) xs.length k 0 (by omega) (by omega), Option.bind_some, Option.bind_some, List.drop_zero]
      unfold sumE
      by_cases c2 : fcE xs = 0
      · have hs := fcE_all c2
        have e : xs.getD ((0 : Int)).toNat default ∈ xs := by
          rw [show ((0 : Int)).toNat = 0 from rfl, List.getD_eq_getElem?_getD, List.getElem?_eq_getElem (show 0 < xs.length by omega)]
          exact List.getElem_mem _
        have s0 := hs _ e
        rw [if_pos c2, if_pos c2]
        dsimp only
        rw [if_pos (show (0 : Int) ≤ 0 ∧ 0 < (xs.length : Int) by omega), if_pos (show (0 : Int) ≤ 0 ∧ 0 < (xs.length : Int) by omega), around_b k s0, Option.bind_some, if_pos (by omega), show noptics_SpotOf_l0_0 k xs k _ _ 0 = _ from span_opt k xs hs (by omega) (by omega) (xs.length - 1) k 0 _ _ (by omega) (by omega), Option.bind_some, floor_b k s0, Option.bind_some, ceil_b k s0, Option.bind_some, show nspeculumref02_SpotOf_l1_0 k xs k _ _ 1 = _ from span_ref k xs hs (by omega) (xs.length - 1) k 1 _ _ (by omega) (by omega), Option.bind_some]
        exact ⟨_, rfl, rfl⟩
      · rw [if_neg c2, if_neg c2]; exact ⟨_, rfl, rfl⟩
theorem law_heights (l : SLine) (xs : List SFrac) (h : IL l) (hx : ∀ f, f ∈ xs → IF f) : nspeculumlaw02_OpticsHeights big l xs = some true := by
  have hk : 100000000000000000000 ≤ big := by decide
  unfold nspeculumlaw02_OpticsHeights
  rw [awake_big, Option.bind_some, if_pos rfl]
  by_cases c : 65 < (xs.length : Int)
  · rw [if_pos c]
  · obtain ⟨r, r1, r2⟩ := height_both big hk h
    obtain ⟨s, s1, s2⟩ := spot_both big hk xs hx
    unfold nspeculumbase_CopyFracs
    rw [if_neg c, r1, Option.bind_some, if_pos (by simp; omega), Option.bind_some, List.nil_append, s1, Option.bind_some, r2, Option.bind_some, s2, Option.bind_some, if_pos rfl, if_pos (by simp), if_pos rfl]
    simp
theorem vc_heights (l : SLine) (xs : List SFrac) (h : ((((Vv.In64 l.Point.R.Num) ∧ (Vv.In64 l.Point.R.Den)) ∧ ((Vv.In64 l.Point.Z.Num) ∧ (Vv.In64 l.Point.Z.Den))) ∧ (((Vv.In64 l.Toward.e0.Num) ∧ (Vv.In64 l.Toward.e0.Den)) ∧ ((Vv.In64 l.Toward.e1.Num) ∧ (Vv.In64 l.Toward.e1.Den))) ∧ ((Vv.In64 l.Z.Num) ∧ (Vv.In64 l.Z.Den)))) (hx : ∀ y ∈ xs, (Vv.In64 y.Num) ∧ (Vv.In64 y.Den)) : VC Go.Proofs.Try.prog 9 [VV.ag (c_SLine l), VV.tr (List.flatMap c_SFrac xs) xs.length] (vb true) := nspeculumlaw02_OpticsHeights_ok _ _ _ _ (law_heights l xs ⟨⟨h.1.1.1, h.1.1.2⟩, ⟨h.1.2.1, h.1.2.2⟩, ⟨h.2.1.1.1, h.2.1.1.2⟩, ⟨h.2.1.2.1, h.2.1.2.2⟩, ⟨h.2.2.1, h.2.2.2⟩⟩ (fun f hf => ⟨(hx f hf).1, (hx f hf).2⟩))
end Go.Proofs.Ytkffimkedibmnaa.Vg

/- The true brightness, plain: films, what is truly on a mirror, first days. -/
import Derived.Test.YtfdmpodpglppbaaTC2
import Derived.Test.YtfdmpodpglppbaaTCb
set_option linter.unusedVariables false
set_option linter.unusedSimpArgs false
namespace Go.Proofs.Ytfdmpodpglppbaa.Vg
open Go Go.Proofs.Ytfdmpodpglppbaa.Ev Go.Proofs.Ytfdmpodpglppbaa.Vv
/-- a brightness some days later. -/
def agd (a : SAging) (r : SRange) (days : Int) : SRange := ⟨maxI 0 (r.Lo - cdiv (a.Loss.Hi * days) 1000), maxI 0 (r.Hi - a.Loss.Lo * days / 1000)⟩
structure Num (a : SAging) (r : SRange) (days : Int) : Prop where
  l0 : 0 ≤ a.Loss.Lo
  l1 : a.Loss.Lo ≤ a.Loss.Hi
  l2 : a.Loss.Hi ≤ 1000
  r0 : 0 ≤ r.Lo
  r1 : r.Lo ≤ r.Hi
  r2 : r.Hi ≤ 1000
  d0 : 0 ≤ days
  d1 : days ≤ 100000
theorem cdiv_in {n d : Int} (hn : 0 ≤ n) (hd : 0 < d) : n / d ≤ cdiv n d ∧ cdiv n d ≤ n + 1 ∧ 0 ≤ cdiv n d := by
  have h := div_le hn hd
  rw [cdiv_eq hd]
  split <;> omega
theorem Num.prod {a : SAging} {r : SRange} {days : Int} (N : Num a r days) : (0 ≤ a.Loss.Lo * days ∧ a.Loss.Lo * days ≤ 100000000) ∧ (0 ≤ a.Loss.Hi * days ∧ a.Loss.Hi * days ≤ 100000000) ∧ a.Loss.Lo * days ≤ a.Loss.Hi * days := by
  have l0 := N.l0; have l1 := N.l1; have l2 := N.l2
  have h1 := mb (A := 1000) (B := 100000) N.l0 (by omega) N.d0 N.d1
  have h2 := mb (A := 1000) (B := 100000) (a := a.Loss.Hi) (by omega) N.l2 N.d0 N.d1
  exact ⟨⟨h1.1, by omega⟩, ⟨h2.1, by omega⟩, Int.mul_le_mul_of_nonneg_right N.l1 N.d0⟩
theorem brightOn_any (k : Nat) {f : Sfilm} {D : Int} (N : Num f.Aging f.bright (D - f.since)) (hD : 0 ≤ D ∧ D ≤ 100000) (hs : 0 ≤ f.since) : n_coat_film_brightOn k f D = some (agd f.Aging f.bright (D - f.since)) := by
  obtain ⟨h1, h2, h3⟩ := N.prod
  have r0 := N.r0; have r1 := N.r1; have r2 := N.r2; have d0 := N.d0; have d1 := N.d1
  have c := cdiv_in (d := 1000) h2.1 (by decide)
  have c2 := div_le (d := 1000) h1.1 (by decide)
  unfold n_coat_film_brightOn agd
  rw [w64_id (n := D - f.since) (by omega) (by omega), w64_id (n := f.Aging.Loss.Lo * (D - f.since)) (by omega) (by omega), w64_id (n := f.Aging.Loss.Hi * (D - f.since)) (by omega) (by omega), outward_any k h1.1 (by omega) h2.1 (by omega) (by decide) (by decide), Option.bind_some]
  dsimp only
  rw [w64_id (n := f.bright.Lo - _) (by omega) (by omega), w64_id (n := f.bright.Hi - _) (by omega) (by omega)]
theorem maxI_cases (a b : Int) : (maxI a b = a ∧ b ≤ a) ∨ (maxI a b = b ∧ a ≤ b) := by unfold maxI; split <;> omega
theorem minI_cases (a b : Int) : (minI a b = a ∧ a ≤ b) ∨ (minI a b = b ∧ b ≤ a) := by unfold minI; split <;> omega
theorem agd_in {a : SAging} {r : SRange} {days : Int} (N : Num a r days) : 0 ≤ (agd a r days).Lo ∧ (agd a r days).Lo ≤ (agd a r days).Hi ∧ (agd a r days).Hi ≤ r.Hi ∧ (agd a r days).Lo ≤ r.Lo := by
  obtain ⟨h1, h2, h3⟩ := N.prod
  have r0 := N.r0; have r1 := N.r1
  have c := cdiv_in (d := 1000) h2.1 (by decide)
  have c2 := div_le (d := 1000) h1.1 (by decide)
  have c3 : a.Loss.Lo * days / 1000 ≤ a.Loss.Hi * days / 1000 := Int.ediv_le_ediv (by decide) h3
  unfold agd
  dsimp only
  rcases maxI_cases 0 (r.Lo - cdiv (a.Loss.Hi * days) 1000) with ⟨e1, _⟩ | ⟨e1, _⟩ <;> rcases maxI_cases 0 (r.Hi - a.Loss.Lo * days / 1000) with ⟨e2, _⟩ | ⟨e2, _⟩ <;> rw [e1, e2] <;> omega
/-- behind a wash. -/
def wsh (a : SAging) (r : SRange) (days : Int) : SRange := ⟨minI ((agd a r days).Lo + a.Back.Lo) a.Fresh.Lo, minI ((agd a r days).Hi + a.Back.Hi) a.Fresh.Hi⟩
/-- what a film says of the brightness. -/
structure BR (a : SAging) (f : Sfilm) (r : SRange) (last : Int) : Prop where
  s : f.since = last
  b : f.bright = r
  d0 : 0 ≤ last
  r0 : 0 ≤ r.Lo
  r1 : r.Lo ≤ r.Hi
  r2 : r.Hi ≤ 1000
structure AgOK (a : SAging) : Prop where
  f : 0 ≤ a.Fresh.Lo ∧ a.Fresh.Lo ≤ a.Fresh.Hi ∧ a.Fresh.Hi ≤ 1000
  l : 0 ≤ a.Loss.Lo ∧ a.Loss.Lo ≤ a.Loss.Hi ∧ a.Loss.Hi ≤ 1000
  b : 0 ≤ a.Back.Lo ∧ a.Back.Lo ≤ a.Back.Hi ∧ a.Back.Hi ≤ 1000
  w : 0 ≤ a.Washes ∧ a.Washes ≤ 100
theorem AgOK.of {a : SAging} (h : agE a = 0) : AgOK a := by
  obtain ⟨h1, h2, h3, h4⟩ := agE_W h
  exact ⟨rgB_t.1 h1, rgB_t.1 h2, rgB_t.1 h3, h4⟩
theorem AgOK.num {a : SAging} (A : AgOK a) {f : Sfilm} {r : SRange} {last D : Int} (B : BR a f r last) (h : last ≤ D) (hD : D ≤ 100000) : Num a r (D - last) :=
  ⟨A.l.1, A.l.2.1, A.l.2.2, B.r0, B.r1, B.r2, by omega, by have := B.d0; omega⟩
theorem wsh_in {a : SAging} (A : AgOK a) {r : SRange} {days : Int} (N : Num a r days) : 0 ≤ (wsh a r days).Lo ∧ (wsh a r days).Lo ≤ (wsh a r days).Hi ∧ (wsh a r days).Hi ≤ 1000 := by
  have h := agd_in N
  have f := A.f; have b := A.b
  unfold wsh
  dsimp only
  rcases minI_cases ((agd a r days).Lo + a.Back.Lo) a.Fresh.Lo with ⟨e1, _⟩ | ⟨e1, _⟩ <;> rcases minI_cases ((agd a r days).Hi + a.Back.Hi) a.Fresh.Hi with ⟨e2, _⟩ | ⟨e2, _⟩ <;> rw [e1, e2] <;> omega
theorem behind_put (k : Nat) {f : Sfilm} {x : SCoatEvent} (c : x.Kind = 0) : n_coat_film_behind k f x = some ⟨f.Aging, true, 0, x.Day, f.Aging.Fresh⟩ := by
  unfold n_coat_film_behind
  rw [if_pos c]; rfl
theorem behind_strip (k : Nat) {f : Sfilm} {x : SCoatEvent} (c : x.Kind = 2) : n_coat_film_behind k f x = some ⟨f.Aging, false, 0, 0, ⟨0, 0⟩⟩ := by
  unfold n_coat_film_behind
  rw [if_neg (by omega), if_neg (by omega)]; rfl
theorem behind_wash (k : Nat) {a : SAging} (A : AgOK a) {f : Sfilm} (hf : f.Aging = a) {r : SRange} {last : Int} (B : BR a f r last) {x : SCoatEvent} (c : x.Kind = 1) (h : last ≤ x.Day) (hD : x.Day ≤ 100000) :
    n_coat_film_behind k f x = some ⟨a, f.isOn, w64 (f.washed + 1), x.Day, wsh a r (x.Day - last)⟩ := by
  have N := A.num B h hD
  have d0 := B.d0
  unfold n_coat_film_behind n_coat_film_wash
  rw [if_neg (by omega), if_pos c]
  have hb : n_coat_film_brightOn k f x.Day = some (agd a r (x.Day - last)) := by
    have := brightOn_any k (f := f) (D := x.Day) (by rw [hf, B.b, B.s]; exact N) (by omega) (by rw [B.s]; omega)
    rw [hf, B.b, B.s] at this; exact this
  rw [show n_coat_film_brightOn k _ x.Day = _ from hb, Option.bind_some, Option.bind_some]
  have h1 := agd_in N
  have fr := A.f; have b := A.b; have r2 := N.r2
  try dsimp only
  rw [w64_id (n := (agd a r (x.Day - last)).Lo + f.Aging.Back.Lo) (by rw [hf]; omega) (by rw [hf]; omega), w64_id (n := (agd a r (x.Day - last)).Hi + f.Aging.Back.Hi) (by rw [hf]; omega) (by rw [hf]; omega)]
  unfold wsh
  rw [← hf]
theorem his_ok {W : Int} {l : List SCoatEvent} : ∀ (d i : Nat) (n : Int), hisL W l d i n = .inr () → ∀ j, i ≤ j → j < i + d → evE (ge l j) = 0 ∧ (0 < j → (ge l (j - 1)).Day ≤ (ge l j).Day)
  | 0, i, n, h, j, h1, h2 => by omega
  | d + 1, i, n, h, j, h1, h2 => by
    rw [hisL_succ] at h
    by_cases c : chk l i n = 0
    · rw [if_pos c] at h
      by_cases e : j = i
      · subst e; obtain ⟨g1, g2, g3, _⟩ := chk_zero c; exact ⟨g1, g3⟩
      · exact his_ok d (i + 1) _ h j (by omega) (by omega)
    · rw [if_neg c] at h; cases h
theorem his_mono {l : List SCoatEvent} (h : ∀ j, 0 < j → j < l.length → (ge l (j - 1)).Day ≤ (ge l j).Day) : ∀ (d i : Nat), i + d < l.length → (ge l i).Day ≤ (ge l (i + d)).Day
  | 0, i, _ => Int.le_refl _
  | d + 1, i, hd => by
    have h1 := his_mono h d i (by omega)
    have h2 := h (i + d + 1) (by omega) (by omega)
    rw [show i + d + 1 - 1 = i + d by omega] at h2
    show _ ≤ (ge l (i + d + 1)).Day
    omega
/-- behind the day nothing changes. -/
theorem day_coat (k : Nat) (hk : 1000 < k) (hk2 : k ≤ 1000000000) (D : Int) : ncoat_checkDay k D = some (if inR 0 100000 D = true then 0 else 2) := by
  unfold ncoat_checkDay
  rw [areWithin_1 k _ _ _ (by omega) hk2, Option.bind_some]
  split <;> rfl
theorem half {x y : Int} (h1 : 0 ≤ x) (h2 : x < y) (h3 : y ≤ 1000000) : w64 ((IntKind.u64.wrap (w64 (x + y))).fdiv (2 ^ (min (1 : Int).toNat 64))) = (x + y) / 2 := by
  have e : IntKind.u64.wrap (w64 (x + y)) = x + y := by
    rw [w64_id (by omega) (by omega)]
    unfold IntKind.wrap
    simp [IntKind.signed, IntKind.bits]
    omega
  rw [e, show (2 : Int) ^ (min (1 : Int).toNat 64) = 2 from rfl, Int.fdiv_eq_ediv_of_nonneg _ (by omega), w64_id (by omega) (by omega)]
/-- halving finds the first place from which on p holds. -/
theorem search1 (k : Nat) (q : Int × Int × Int × Int × Int × Int × Int × Int × Bool × Int × Int × Int × Int) (p : Int → Bool) (N : Int) (hN : N ≤ 200000) (hp : ∀ d, 0 ≤ d → d < N → n_coat_film_firstDay_1_k_coat_DueDays_1 k d q.1 q.2.1 q.2.2.1 q.2.2.2.1 q.2.2.2.2.1 q.2.2.2.2.2.1 q.2.2.2.2.2.2.1 q.2.2.2.2.2.2.2.1 q.2.2.2.2.2.2.2.2.1 q.2.2.2.2.2.2.2.2.2.1 q.2.2.2.2.2.2.2.2.2.2.1 q.2.2.2.2.2.2.2.2.2.2.2.1 q.2.2.2.2.2.2.2.2.2.2.2.2 = some (p d)) (hm : ∀ d e, 0 ≤ d → d ≤ e → e < N → p d = true → p e = true) :
    ∀ (n fuel : Nat) (x y : Int), 0 ≤ x → x ≤ y → y ≤ N → (y - x).toNat < n → n ≤ fuel → (∀ d, 0 ≤ d → d < x → p d = false) → (∀ d, y ≤ d → d < N → p d = true) →
      ∃ s, nsort_Search_c1_coat_film_firstDay_1_coat_DueDays_1_l0_0 k q fuel x y = some s ∧ x ≤ s ∧ s ≤ y ∧ (∀ d, 0 ≤ d → d < s → p d = false) ∧ (∀ d, s ≤ d → d < N → p d = true) := by
  intro n
  induction n with
  | zero => intro fuel x y h1 h2 h3 h; omega
  | succ n ih =>
    intro fuel x y h1 h2 h3 h hf hl hr
    obtain ⟨g, rfl⟩ : ∃ g, fuel = g + 1 := ⟨fuel - 1, by omega⟩
    rw [nsort_Search_c1_coat_film_firstDay_1_coat_DueDays_1_l0_0.eq_2]
    by_cases c : x < y
    · rw [if_pos c, half h1 c (by omega), hp _ (by omega) (by omega), Option.bind_some]
      cases hq : p ((x + y) / 2) with
      | true =>
        rw [if_pos rfl]
        obtain ⟨s, s1, s2, s3, s4, s5⟩ := ih g x ((x + y) / 2) h1 (by omega) (by omega) (by omega) (by omega) hl (fun d d1 d2 => hm _ d (by omega) d1 d2 hq)
        exact ⟨s, s1, s2, by omega, s4, s5⟩
      | false =>
        rw [if_neg (by simp), w64_id (by omega) (by omega)]
        obtain ⟨s, s1, s2, s3, s4, s5⟩ := ih g ((x + y) / 2 + 1) y (by omega) (by omega) h3 (by omega) (by omega) (fun d d1 d2 => by
          cases hd : p d with
          | false => rfl
          | true => have := hm d ((x + y) / 2) d1 (by omega) (by omega) hd; rw [hq] at this; cases this) hr
        exact ⟨s, s1, by omega, s3, s4, s5⟩
    · rw [if_neg c]
      exact ⟨x, rfl, Int.le_refl _, h2, hl, fun d d1 d2 => hr d (by omega) d2⟩
/-- halving finds the first place from which on p holds. -/
theorem search2 (k : Nat) (q : Int × Int × Int × Int × Int × Int × Int × Int × Bool × Int × Int × Int × Int) (p : Int → Bool) (N : Int) (hN : N ≤ 200000) (hp : ∀ d, 0 ≤ d → d < N → n_coat_film_firstDay_1_k_coat_DueDays_2 k d q.1 q.2.1 q.2.2.1 q.2.2.2.1 q.2.2.2.2.1 q.2.2.2.2.2.1 q.2.2.2.2.2.2.1 q.2.2.2.2.2.2.2.1 q.2.2.2.2.2.2.2.2.1 q.2.2.2.2.2.2.2.2.2.1 q.2.2.2.2.2.2.2.2.2.2.1 q.2.2.2.2.2.2.2.2.2.2.2.1 q.2.2.2.2.2.2.2.2.2.2.2.2 = some (p d)) (hm : ∀ d e, 0 ≤ d → d ≤ e → e < N → p d = true → p e = true) :
    ∀ (n fuel : Nat) (x y : Int), 0 ≤ x → x ≤ y → y ≤ N → (y - x).toNat < n → n ≤ fuel → (∀ d, 0 ≤ d → d < x → p d = false) → (∀ d, y ≤ d → d < N → p d = true) →
      ∃ s, nsort_Search_c1_coat_film_firstDay_1_coat_DueDays_2_l0_0 k q fuel x y = some s ∧ x ≤ s ∧ s ≤ y ∧ (∀ d, 0 ≤ d → d < s → p d = false) ∧ (∀ d, s ≤ d → d < N → p d = true) := by
  intro n
  induction n with
  | zero => intro fuel x y h1 h2 h3 h; omega
  | succ n ih =>
    intro fuel x y h1 h2 h3 h hf hl hr
    obtain ⟨g, rfl⟩ : ∃ g, fuel = g + 1 := ⟨fuel - 1, by omega⟩
    rw [nsort_Search_c1_coat_film_firstDay_1_coat_DueDays_2_l0_0.eq_2]
    by_cases c : x < y
    · rw [if_pos c, half h1 c (by omega), hp _ (by omega) (by omega), Option.bind_some]
      cases hq : p ((x + y) / 2) with
      | true =>
        rw [if_pos rfl]
        obtain ⟨s, s1, s2, s3, s4, s5⟩ := ih g x ((x + y) / 2) h1 (by omega) (by omega) (by omega) (by omega) hl (fun d d1 d2 => hm _ d (by omega) d1 d2 hq)
        exact ⟨s, s1, s2, by omega, s4, s5⟩
      | false =>
        rw [if_neg (by simp), w64_id (by omega) (by omega)]
        obtain ⟨s, s1, s2, s3, s4, s5⟩ := ih g ((x + y) / 2 + 1) y (by omega) (by omega) h3 (by omega) (by omega) (fun d d1 d2 => by
          cases hd : p d with
          | false => rfl
          | true => have := hm d ((x + y) / 2) d1 (by omega) (by omega) hd; rw [hq] at this; cases this) hr
        exact ⟨s, s1, by omega, s3, s4, s5⟩
    · rw [if_neg c]
      exact ⟨x, rfl, Int.le_refl _, h2, hl, fun d d1 d2 => hr d (by omega) d2⟩
/-- behind the day nothing changes. -/
theorem film_after (k : Nat) (a : SAging) (l : List SCoatEvent) (hl : l.length < 100000) (D : Int) : ∀ (d fuel i : Nat) (f : Sfilm), l.length = i + d → d < fuel → (∀ j, i ≤ j → j < l.length → D < (ge l j).Day) →
    ncoat_filmOn_l0_0 k a l D fuel f.Aging.Fresh.Lo f.Aging.Fresh.Hi f.bright.Lo f.bright.Hi f.Aging.Loss.Lo f.Aging.Loss.Hi f.Aging.Back.Lo f.Aging.Back.Hi f.Aging.Washes f.isOn f.washed f.since (i : Int) = some (f.Aging.Fresh.Lo, f.Aging.Fresh.Hi, f.Aging.Loss.Lo, f.Aging.Loss.Hi, f.Aging.Back.Lo, f.Aging.Back.Hi, f.Aging.Washes, f.isOn, f.washed, f.since, f.bright.Lo, f.bright.Hi) := by
  intro d
  induction d with
  | zero =>
    intro fuel i f h hf _
    obtain ⟨g, rfl⟩ : ∃ g, fuel = g + 1 := ⟨fuel - 1, by omega⟩
    rw [ncoat_filmOn_l0_0.eq_2, if_neg (by omega)]
  | succ d ih =>
    intro fuel i f h hf hj
    obtain ⟨g, rfl⟩ : ∃ g, fuel = g + 1 := ⟨fuel - 1, by omega⟩
    have := hj i (Nat.le_refl _) (by omega)
    rw [ncoat_filmOn_l0_0.eq_2, if_pos (by omega), if_pos (by omega), w64_succ (by omega)]
    simp only [Int.toNat_natCast]
    rw [if_neg (show ¬ (ge l i).Day ≤ D by omega), ih g (i + 1) f (by omega) (by omega) (fun j h1 h2 => hj j (by omega) h2)]
theorem until_after (k : Nat) (l : List SCoatEvent) (hl : l.length < 100000) (D : Int) : ∀ (d fuel i : Nat) (y : List SCoatEvent), l.length = i + d → d < fuel → (∀ j, i ≤ j → j < l.length → D < (ge l j).Day) →
    nspeculumref08_Until_l0_0 k l D fuel y (i : Int) = some y := by
  intro d
  induction d with
  | zero =>
    intro fuel i f h hf _
    obtain ⟨g, rfl⟩ : ∃ g, fuel = g + 1 := ⟨fuel - 1, by omega⟩
    rw [nspeculumref08_Until_l0_0.eq_2, if_neg (by omega)]
  | succ d ih =>
    intro fuel i f h hf hj
    obtain ⟨g, rfl⟩ : ∃ g, fuel = g + 1 := ⟨fuel - 1, by omega⟩
    have := hj i (Nat.le_refl _) (by omega)
    rw [nspeculumref08_Until_l0_0.eq_2, if_pos (by omega), if_pos (by omega), w64_succ (by omega)]
    simp only [Int.toNat_natCast]
    rw [if_neg (show ¬ (ge l i).Day ≤ D by omega), ih g (i + 1) f (by omega) (by omega) (fun j h1 h2 => hj j (by omega) h2)]
theorem cdiv_mono {n m d : Int} (hn : 0 ≤ n) (h : n ≤ m) (hd : 0 < d) : cdiv n d ≤ cdiv m d := by
  rw [cdiv_eq hd, cdiv_eq hd]
  have h1 := Int.ediv_le_ediv hd h
  have e1 := Int.mul_ediv_add_emod n d
  have e2 := Int.mul_ediv_add_emod m d
  have a1 := Int.emod_nonneg n (show d ≠ 0 by omega)
  have a2 := Int.emod_nonneg m (show d ≠ 0 by omega)
  by_cases c1 : n % d = 0
  · rw [if_pos c1]; split <;> omega
  · rw [if_neg c1]
    by_cases c2 : m % d = 0
    · rw [if_pos c2]
      rcases Int.lt_or_le (n / d) (m / d) with h3 | h3
      · omega
      · have : n / d = m / d := by omega
        rw [this] at e1; omega
    · rw [if_neg c2]; omega
theorem agd_mono {a : SAging} {r : SRange} {d e : Int} (hL : 0 ≤ a.Loss.Lo ∧ 0 ≤ a.Loss.Hi) (hd : 0 ≤ d) (h : d ≤ e) : (agd a r e).Lo ≤ (agd a r d).Lo ∧ (agd a r e).Hi ≤ (agd a r d).Hi := by
  have m1 := Int.mul_le_mul_of_nonneg_left h hL.2
  have m2 := Int.mul_le_mul_of_nonneg_left h hL.1
  have p1 := Int.mul_nonneg hL.2 hd
  have c1 := cdiv_mono (d := 1000) p1 m1 (by omega)
  have c2 := Int.ediv_le_ediv (show (0 : Int) < 1000 by omega) m2
  unfold agd
  dsimp only
  rcases maxI_cases 0 (r.Lo - cdiv (a.Loss.Hi * d) 1000) with ⟨x1, y1⟩ | ⟨x1, y1⟩ <;> rcases maxI_cases 0 (r.Lo - cdiv (a.Loss.Hi * e) 1000) with ⟨x2, y2⟩ | ⟨x2, y2⟩ <;> rcases maxI_cases 0 (r.Hi - a.Loss.Lo * d / 1000) with ⟨x3, y3⟩ | ⟨x3, y3⟩ <;> rcases maxI_cases 0 (r.Hi - a.Loss.Lo * e / 1000) with ⟨x4, y4⟩ | ⟨x4, y4⟩ <;> rw [x1, x2, x3, x4] <;> omega
theorem first1 (k : Nat) (hk : 200003 ≤ k) {a : SAging} (A : AgOK a) {f : Sfilm} {n last : Int} {r : SRange} (F : FR a f n) (B : BR a f r last) (hl : last ≤ 100000) (least : Int) :
    ∃ s, n_coat_film_firstDay_c1_coat_DueDays_1 k f least = some (last + s) ∧ 0 ≤ s ∧ s ≤ 100001 - last ∧ (∀ d, 0 ≤ d → d < s → ¬(agd a r d).Lo < least) ∧ (∀ d, s ≤ d → d < 100001 - last → (agd a r d).Lo < least) := by
  have d0 := B.d0
  have hb : ∀ d, 0 ≤ d → d < 100001 - last → n_coat_film_firstDay_1_k_coat_DueDays_1 k d least f.Aging.Fresh.Lo f.Aging.Fresh.Hi f.Aging.Loss.Lo f.Aging.Loss.Hi f.Aging.Back.Lo f.Aging.Back.Hi f.Aging.Washes f.isOn f.washed f.since f.bright.Lo f.bright.Hi = some (decide ((agd a r d).Lo < least)) := fun d h1 h2 => by
    have N := A.num B (D := last + d) (by omega) (by omega)
    rw [show last + d - last = d by omega] at N
    have hbr := brightOn_any k (f := f) (D := last + d) (by rw [F.ag, B.b, B.s, show last + d - last = d by omega]; exact N) (by omega) (by rw [B.s]; exact d0)
    rw [F.ag, B.b, B.s, show last + d - last = d by omega] at hbr
    unfold n_coat_film_firstDay_1_k_coat_DueDays_1 ncoat_DueDays_1
    rw [B.s, w64_id (n := last + d) (by omega) (by omega), show n_coat_film_brightOn k _ (last + d) = some (agd a r d) from (by rw [← B.s] at hbr ⊢; exact hbr), Option.bind_some, Option.bind_some]
  obtain ⟨s, e1, e2, e3, e4, e5⟩ := search1 k (least, f.Aging.Fresh.Lo, f.Aging.Fresh.Hi, f.Aging.Loss.Lo, f.Aging.Loss.Hi, f.Aging.Back.Lo, f.Aging.Back.Hi, f.Aging.Washes, f.isOn, f.washed, f.since, f.bright.Lo, f.bright.Hi) (fun d => decide ((agd a r d).Lo < least)) (100001 - last) (by omega) hb (fun d e h1 h2 h3 h4 => by
    have hm := (agd_mono (a := a) (r := r) ⟨A.l.1, by have := A.l; omega⟩ h1 h2).1
    have h4 := of_decide_eq_true h4
    exact decide_eq_true (by omega)) 200003 k 0 (100001 - last) (by omega) (by omega) (by omega) (by omega) hk (fun d h1 h2 => by omega) (fun d h1 h2 => by omega)
  refine ⟨s, ?_, e2, e3, fun d h1 h2 => of_decide_eq_false (e4 d h1 h2), fun d h1 h2 => of_decide_eq_true (e5 d h1 h2)⟩
  unfold n_coat_film_firstDay_c1_coat_DueDays_1 nsort_Search_c1_coat_film_firstDay_1_coat_DueDays_1
  rw [show w64 (100001 - f.since) = 100001 - last by rw [B.s, w64_id (by omega) (by omega)], e1, Option.bind_some, Option.bind_some, B.s, w64_id (by omega) (by omega)]
theorem first2 (k : Nat) (hk : 200003 ≤ k) {a : SAging} (A : AgOK a) {f : Sfilm} {n last : Int} {r : SRange} (F : FR a f n) (B : BR a f r last) (hl : last ≤ 100000) (least : Int) :
    ∃ s, n_coat_film_firstDay_c1_coat_DueDays_2 k f least = some (last + s) ∧ 0 ≤ s ∧ s ≤ 100001 - last ∧ (∀ d, 0 ≤ d → d < s → ¬(agd a r d).Hi < least) ∧ (∀ d, s ≤ d → d < 100001 - last → (agd a r d).Hi < least) := by
  have d0 := B.d0
  have hb : ∀ d, 0 ≤ d → d < 100001 - last → n_coat_film_firstDay_1_k_coat_DueDays_2 k d least f.Aging.Fresh.Lo f.Aging.Fresh.Hi f.Aging.Loss.Lo f.Aging.Loss.Hi f.Aging.Back.Lo f.Aging.Back.Hi f.Aging.Washes f.isOn f.washed f.since f.bright.Lo f.bright.Hi = some (decide ((agd a r d).Hi < least)) := fun d h1 h2 => by
    have N := A.num B (D := last + d) (by omega) (by omega)
    rw [show last + d - last = d by omega] at N
    have hbr := brightOn_any k (f := f) (D := last + d) (by rw [F.ag, B.b, B.s, show last + d - last = d by omega]; exact N) (by omega) (by rw [B.s]; exact d0)
    rw [F.ag, B.b, B.s, show last + d - last = d by omega] at hbr
    unfold n_coat_film_firstDay_1_k_coat_DueDays_2 ncoat_DueDays_2
    rw [B.s, w64_id (n := last + d) (by omega) (by omega), show n_coat_film_brightOn k _ (last + d) = some (agd a r d) from (by rw [← B.s] at hbr ⊢; exact hbr), Option.bind_some, Option.bind_some]
  obtain ⟨s, e1, e2, e3, e4, e5⟩ := search2 k (least, f.Aging.Fresh.Lo, f.Aging.Fresh.Hi, f.Aging.Loss.Lo, f.Aging.Loss.Hi, f.Aging.Back.Lo, f.Aging.Back.Hi, f.Aging.Washes, f.isOn, f.washed, f.since, f.bright.Lo, f.bright.Hi) (fun d => decide ((agd a r d).Hi < least)) (100001 - last) (by omega) hb (fun d e h1 h2 h3 h4 => by
    have hm := (agd_mono (a := a) (r := r) ⟨A.l.1, by have := A.l; omega⟩ h1 h2).2
    have h4 := of_decide_eq_true h4
    exact decide_eq_true (by omega)) 200003 k 0 (100001 - last) (by omega) (by omega) (by omega) (by omega) hk (fun d h1 h2 => by omega) (fun d h1 h2 => by omega)
  refine ⟨s, ?_, e2, e3, fun d h1 h2 => of_decide_eq_false (e4 d h1 h2), fun d h1 h2 => of_decide_eq_true (e5 d h1 h2)⟩
  unfold n_coat_film_firstDay_c1_coat_DueDays_2 nsort_Search_c1_coat_film_firstDay_1_coat_DueDays_2
  rw [show w64 (100001 - f.since) = 100001 - last by rw [B.s, w64_id (by omega) (by omega)], e1, Option.bind_some, Option.bind_some, B.s, w64_id (by omega) (by omega)]
theorem bright_at (k : Nat) {a : SAging} (A : AgOK a) {l : List SCoatEvent} {D last n : Int} {f : Sfilm} {r : SRange} (hr : ncoat_rightFilmOn k a l D = some (f, 0)) (F : FR a f n) (hn : 0 ≤ n) (B : BR a f r last) (h1 : last ≤ D) (h2 : D ≤ 100000) : ncoat_Bright k a l D = some (agd a r (D - last), 0) := by
  have d0 := B.d0
  have N := A.num B h1 h2
  have hb := brightOn_any k (f := f) (D := D) (by rw [F.ag, B.b, B.s]; exact N) (by omega) (by rw [B.s]; exact d0)
  rw [F.ag, B.b, B.s] at hb
  unfold ncoat_Bright
  rw [hr, Option.bind_some, if_pos rfl]
  dsimp only
  rw [if_pos (show f.isOn = true by rw [F.on]; exact decide_eq_true hn), hb, Option.bind_some]
theorem mod_any (k : Nat) (p : Int) {m : Int} (h0 : 0 < m) (h1 : m ≤ 1000000) : ∃ r, nspeculumbase_Mod k p m = some r ∧ 0 ≤ r ∧ r < m := by
  unfold nspeculumbase_Mod
  rw [if_pos (by omega)]
  have a := Int.tmod_lt_of_pos p h0
  have b : -m < p.tmod m := by
    have := Int.tmod_lt_of_pos (-p) h0
    rw [Int.neg_tmod] at this; omega
  by_cases c : p.tmod m < 0
  · rw [if_pos c, w64_id (by omega) (by omega)]; exact ⟨_, rfl, by omega, by omega⟩
  · rw [if_neg c]; exact ⟨_, rfl, by omega, by omega⟩
theorem in_any (k : Nat) {r : SRange} (h : 0 ≤ r.Lo ∧ r.Lo ≤ r.Hi ∧ r.Hi ≤ 1000) (p : Int) : ∃ x, nspeculumtop_in k r p = some x ∧ r.Lo ≤ x ∧ x ≤ r.Hi := by
  unfold nspeculumtop_in
  rw [w64_id (n := r.Hi - r.Lo) (by omega) (by omega), w64_id (n := r.Hi - r.Lo + 1) (by omega) (by omega)]
  obtain ⟨y, e, y0, y1⟩ := mod_any k p (m := r.Hi - r.Lo + 1) (by omega) (by omega)
  rw [e, Option.bind_some, w64_id (by omega) (by omega)]
  exact ⟨_, rfl, by omega, by omega⟩
/-- a true brightness within its range. -/
structure TR (r : SRange) (now : Int) : Prop where
  lo : 1000000 * r.Lo ≤ now
  hi : now ≤ 1000000 * r.Hi
/-- what a coating truly reflects, loses and gains. -/
structure Tru (a : SAging) (F L B : Int) : Prop where
  f : a.Fresh.Lo ≤ F ∧ F ≤ a.Fresh.Hi
  l : a.Loss.Lo ≤ L ∧ L ≤ a.Loss.Hi
  b : a.Back.Lo ≤ B ∧ B ≤ a.Back.Hi
theorem cdiv_ge {n : Int} : n ≤ 1000 * cdiv n 1000 := by
  rw [cdiv_eq (by decide)]
  split <;> omega
theorem TR.aged {a : SAging} {F L B : Int} (T : Tru a F L B) {r : SRange} {now days : Int} (N : Num a r days) (h : TR r now) : TR (agd a r days) (maxI 0 (now - 1000 * L * days)) ∧ 0 ≤ 1000 * L * days ∧ 1000 * L * days ≤ 100000000000 := by
  obtain ⟨h1, h2, h3⟩ := N.prod
  have l0 := N.l0; have tl := T.l; have d0 := N.d0
  have p1 : a.Loss.Lo * days ≤ L * days := Int.mul_le_mul_of_nonneg_right tl.1 d0
  have p2 : L * days ≤ a.Loss.Hi * days := Int.mul_le_mul_of_nonneg_right tl.2 d0
  have e : 1000 * L * days = 1000 * (L * days) := Int.mul_assoc _ _ _
  have c1 := cdiv_ge (n := a.Loss.Hi * days)
  have c2 : 1000 * (a.Loss.Lo * days / 1000) ≤ a.Loss.Lo * days := by omega
  have hl := h.lo; have hh := h.hi
  rw [e]
  unfold agd
  refine ⟨⟨?_, ?_⟩, by omega, by omega⟩
  · dsimp only
    rcases maxI_cases 0 (r.Lo - cdiv (a.Loss.Hi * days) 1000) with ⟨e1, _⟩ | ⟨e1, _⟩ <;> rcases maxI_cases 0 (now - 1000 * (L * days)) with ⟨e2, _⟩ | ⟨e2, _⟩ <;> rw [e1, e2] <;> omega
  · dsimp only
    rcases maxI_cases 0 (r.Hi - a.Loss.Lo * days / 1000) with ⟨e1, _⟩ | ⟨e1, _⟩ <;> rcases maxI_cases 0 (now - 1000 * (L * days)) with ⟨e2, _⟩ | ⟨e2, _⟩ <;> rw [e1, e2] <;> omega
theorem TR.washed {a : SAging} {F L B : Int} (T : Tru a F L B) {r : SRange} {now days : Int} (N : Num a r days) (h : TR r now) : TR (wsh a r days) (minI (1000000 * F) (maxI 0 (now - 1000 * L * days) + 1000000 * B)) := by
  obtain ⟨⟨q1, q2⟩, _⟩ := TR.aged T N h
  have tf := T.f; have tb := T.b
  unfold wsh
  generalize maxI 0 (now - 1000 * L * days) = x at *
  constructor
  · dsimp only
    rcases minI_cases ((agd a r days).Lo + a.Back.Lo) a.Fresh.Lo with ⟨e1, _⟩ | ⟨e1, _⟩ <;> rcases minI_cases (1000000 * F) (x + 1000000 * B) with ⟨e2, _⟩ | ⟨e2, _⟩ <;> rw [e1, e2] <;> omega
  · dsimp only
    rcases minI_cases ((agd a r days).Hi + a.Back.Hi) a.Fresh.Hi with ⟨e1, _⟩ | ⟨e1, _⟩ <;> rcases minI_cases (1000000 * F) (x + 1000000 * B) with ⟨e2, _⟩ | ⟨e2, _⟩ <;> rw [e1, e2] <;> omega
theorem on_after (k : Nat) (l : List SCoatEvent) (hl : l.length < 100000) (D F L B : Int) : ∀ (d fuel i : Nat) (now last : Int), l.length = i + d → d < fuel → (∀ j, i ≤ j → j < l.length → D < (ge l j).Day) →
    n_speculumtop_truth_on_l0_0 k l D F L B fuel now last (i : Int) = some (now, last) := by
  intro d fuel i now last h hf hj
  obtain ⟨g, rfl⟩ : ∃ g, fuel = g + 1 := ⟨fuel - 1, by omega⟩
  rw [n_speculumtop_truth_on_l0_0.eq_2]
  by_cases c : (i : Int) < (l.length : Int)
  · have := hj i (Nat.le_refl _) (by omega)
    rw [if_pos c, if_pos (by omega)]
    simp only [Int.toNat_natCast]
    rw [if_neg (show ¬ (ge l i).Day ≤ D by omega)]
  · rw [if_neg c]
/-- what all come to on a day. -/
structure ResT (k : Nat) (a : SAging) (l : List SCoatEvent) (D1 D2 F L B : Int) (fuel i : Nat) (f : Sfilm) (y : List SCoatEvent) (now last : Int) (f' : Sfilm) (n' : Int) (y' : List SCoatEvent) (now' last' : Int) (i' : Nat) : Prop where
  film : ncoat_filmOn_l0_0 k a l D1 fuel f.Aging.Fresh.Lo f.Aging.Fresh.Hi f.bright.Lo f.bright.Hi f.Aging.Loss.Lo f.Aging.Loss.Hi f.Aging.Back.Lo f.Aging.Back.Hi f.Aging.Washes f.isOn f.washed f.since (i : Int) = some (f'.Aging.Fresh.Lo, f'.Aging.Fresh.Hi, f'.Aging.Loss.Lo, f'.Aging.Loss.Hi, f'.Aging.Back.Lo, f'.Aging.Back.Hi, f'.Aging.Washes, f'.isOn, f'.washed, f'.since, f'.bright.Lo, f'.bright.Hi)
  unt : nspeculumref08_Until_l0_0 k l D1 fuel y (i : Int) = some y'
  on : n_speculumtop_truth_on_l0_0 k l D2 F L B fuel now last (i : Int) = some (now', last')
  st : stF a.Washes (-1) y' = n'
  len : y'.length ≤ l.length
  fr : FR a f' n'
  br : 0 ≤ n' → BR a f' f'.bright last' ∧ TR f'.bright now' ∧ last' ≤ D1 ∧ last' ≤ D2 ∧ 0 < i' ∧ last' = (ge l (i' - 1)).Day
  i1 : i' ≤ l.length
  i2 : i' = l.length ∨ D1 < (ge l i').Day
theorem all_onT (k : Nat) {a : SAging} (A : AgOK a) {F L B : Int} (T : Tru a F L B) {l : List SCoatEvent} (hl : l.length < 100) (hm : ∀ i j, i ≤ j → j < l.length → (ge l i).Day ≤ (ge l j).Day) {D1 D2 : Int} (hD : ∀ j, j < l.length → ((ge l j).Day ≤ D1 ↔ (ge l j).Day ≤ D2)) : ∀ (d fuel i : Nat) (f : Sfilm) (n : Int) (y : List SCoatEvent) (now last : Int), l.length = i + d → d < fuel →
    hisL a.Washes l d i n = .inr () → FR a f n → stF a.Washes (-1) y = n → y.length ≤ i → (0 ≤ n → BR a f f.bright last ∧ TR f.bright now ∧ last ≤ D1 ∧ last ≤ D2 ∧ 0 < i ∧ last = (ge l (i - 1)).Day) →
    ∃ f' n' y' now' last' i', ResT k a l D1 D2 F L B fuel i f y now last f' n' y' now' last' i' := by
  intro d
  induction d with
  | zero =>
    intro fuel i f n y now last h hf _ F0 hy hyl hb
    have hnone : ∀ D j, i ≤ j → j < l.length → D < (ge l j).Day := fun D j h1 h2 => by omega
    exact ⟨f, n, y, now, last, i, film_after k a l (by omega) D1 0 fuel i f h hf (hnone D1), until_after k l (by omega) D1 0 fuel i y h hf (hnone D1), on_after k l (by omega) D2 F L B 0 fuel i now last h hf (hnone D2), hy, by omega, F0, hb, by omega, .inl (by omega)⟩
  | succ d ih =>
    intro fuel i f n y now last h hf hh F0 hy hyl hb
    by_cases c : (ge l i).Day ≤ D1
    · have c2 := (hD i (by omega)).1 c
      obtain ⟨g, rfl⟩ : ∃ g, fuel = g + 1 := ⟨fuel - 1, by omega⟩
      rw [hisL_succ] at hh
      by_cases hc : chk l i n = 0
      case neg => rw [if_neg hc] at hh; cases hh
      rw [if_pos hc] at hh
      obtain ⟨g1, g2, g3, g4, g5⟩ := chk_zero hc
      obtain ⟨hday, hk⟩ := evE_kind g1
      have key : ∃ f1 now1 last1, n_coat_film_behind k f (ge l i) = some f1 ∧ FR a f1 (stp a.Washes n (ge l i).Kind) ∧ (0 ≤ stp a.Washes n (ge l i).Kind → BR a f1 f1.bright last1 ∧ TR f1.bright now1 ∧ last1 = (ge l i).Day) ∧
          n_speculumtop_truth_on_l0_0 k l D2 F L B (g + 1) now last (i : Int) = n_speculumtop_truth_on_l0_0 k l D2 F L B g now1 last1 ((i + 1 : Nat) : Int) := by
        obtain ⟨f1, e1, F1⟩ := behind_some k A.w F0 hk g4 g5
        have tf := T.f; have tl := T.l; have tb := T.b; have af := A.f; have al := A.l; have ab := A.b
        rw [n_speculumtop_truth_on_l0_0.eq_2, if_pos (by omega), if_pos (by omega), w64_succ (by omega)]
        simp only [Int.toNat_natCast]
        rw [if_pos c2]
        rcases hk with hk | hk | hk
        · have e2 := behind_put k (f := f) hk
          rw [e2] at e1; injection e1 with e1; subst e1
          refine ⟨_, 1000000 * F, (ge l i).Day, e2, F1, fun _ => ⟨⟨rfl, rfl, hday.1, by dsimp only; rw [F0.ag]; exact A.f.1, by dsimp only; rw [F0.ag]; exact A.f.2.1, by dsimp only; rw [F0.ag]; exact A.f.2.2⟩, ⟨by dsimp only; rw [F0.ag]; omega, by dsimp only; rw [F0.ag]; omega⟩, rfl⟩, ?_⟩
          rw [if_pos hk, if_neg (show ¬ (ge l i).Kind = 1 by omega), w64_id (n := 1000000 * F) (by omega) (by omega)]
        · have hn : 0 ≤ n := by
            rcases Int.lt_or_le n 0 with h | h
            · have := g4.2 h; omega
            · exact h
          obtain ⟨B0, t0, b1, b2, b3, b4⟩ := hb hn
          have hle : last ≤ (ge l i).Day := by rw [b4]; exact hm (i - 1) i (by omega) (by omega)
          have N := A.num B0 hle hday.2
          have hw := wsh_in A N
          obtain ⟨ta, p0, p1⟩ := TR.aged T N t0
          have tw := TR.washed T N t0
          have d0 := B0.d0
          have r2 := B0.r2; have r1 := B0.r1; have r0 := B0.r0
          have th := t0.hi; have tlo := t0.lo
          have e2 := behind_wash k A F0.ag B0 hk hle hday.2
          rw [e2] at e1; injection e1 with e1; subst e1
          refine ⟨_, minI (1000000 * F) (maxI 0 (now - 1000 * L * ((ge l i).Day - last)) + 1000000 * B), (ge l i).Day, e2, F1, fun _ => ⟨⟨rfl, rfl, hday.1, hw.1, hw.2.1, hw.2.2⟩, tw, rfl⟩, ?_⟩
          rw [if_neg (show ¬ (ge l i).Kind = 0 by omega), if_pos hk, w64_id (n := 1000000 * F) (by omega) (by omega), w64_id (n := 1000 * L) (by omega) (by omega), w64_id (n := (ge l i).Day - last) (by omega) (by omega), w64_id (n := 1000 * L * ((ge l i).Day - last)) (by omega) (by omega), w64_id (n := now - 1000 * L * ((ge l i).Day - last)) (by omega) (by omega), w64_id (n := 1000000 * B) (by omega) (by omega)]
          have hmx : 0 ≤ maxI 0 (now - 1000 * L * ((ge l i).Day - last)) ∧ maxI 0 (now - 1000 * L * ((ge l i).Day - last)) ≤ 1000000000 := by
            rcases maxI_cases 0 (now - 1000 * L * ((ge l i).Day - last)) with ⟨e1, _⟩ | ⟨e1, _⟩ <;> rw [e1] <;> omega
          rw [w64_id (n := maxI 0 (now - 1000 * L * ((ge l i).Day - last)) + 1000000 * B) (by omega) (by omega)]
        · refine ⟨f1, now, last, e1, F1, fun hn => ?_, ?_⟩
          · exfalso
            unfold stp at hn
            rw [if_neg (by omega), if_neg (by omega), if_pos hk] at hn
            exact absurd hn (by decide)
          · rw [if_neg (show ¬ (ge l i).Kind = 0 by omega), if_neg (show ¬ (ge l i).Kind = 1 by omega)]
      obtain ⟨f1, now1, last1, k1, k2, k3, k4⟩ := key
      have hy1 : stF a.Washes (-1) (y ++ [ge l i]) = stp a.Washes n (ge l i).Kind := by
        rw [← hy]; unfold stF; rw [List.foldl_append]; rfl
      obtain ⟨f', n', y', now', last', i', R⟩ := ih g (i + 1) f1 _ (y ++ [ge l i]) now1 last1 (by omega) (by omega) hh k2 hy1 (by simp; omega) (fun hn => by
        obtain ⟨u1, u2, u3⟩ := k3 hn
        exact ⟨u1, u2, by omega, by omega, by omega, by rw [u3]; rfl⟩)
      refine ⟨f', n', y', now', last', i', ?_, ?_, by rw [k4]; exact R.on, R.st, R.len, R.fr, R.br, R.i1, R.i2⟩
      · rw [ncoat_filmOn_l0_0.eq_2, if_pos (by omega), if_pos (by omega), w64_succ (by omega)]
        simp only [Int.toNat_natCast]
        rw [if_pos c, show n_coat_film_behind k _ _ = _ from k1, Option.bind_some]
        exact R.film
      · rw [nspeculumref08_Until_l0_0.eq_2, if_pos (by omega), if_pos (by omega), w64_succ (by omega)]
        simp only [Int.toNat_natCast]
        rw [if_pos c, if_pos (by simp; omega)]
        exact R.unt
    · have c2 : ¬ (ge l i).Day ≤ D2 := fun h => c ((hD i (by omega)).2 h)
      have hnone1 : ∀ j, i ≤ j → j < l.length → D1 < (ge l j).Day := fun j h1 h2 => by have := hm i j h1 h2; omega
      have hnone2 : ∀ j, i ≤ j → j < l.length → D2 < (ge l j).Day := fun j h1 h2 => by have := hm i j h1 h2; omega
      exact ⟨f, n, y, now, last, i, film_after k a l (by omega) D1 (d + 1) fuel i f h hf hnone1, until_after k l (by omega) D1 (d + 1) fuel i y h hf hnone1, on_after k l (by omega) D2 F L B (d + 1) fuel i now last h hf hnone2, hy, by omega, F0, hb, by omega, .inr (by omega)⟩
/-- what is said of a day D1, and truly is on a day D2 behind the same events. -/
theorem truly (k : Nat) (hk : 1000 < k) (hk2 : k ≤ 1000000000) {a : SAging} (ha : agE a = 0) {l : List SCoatEvent} (hl : (hiE a.Washes l).2 = 0) (p : SFate) {D1 D2 : Int} (hD1 : inR 0 100000 D1 = true) (hD2 : 0 ≤ D2 ∧ D2 ≤ 100000) (hD : ∀ j, j < l.length → ((ge l j).Day ≤ D1 ↔ (ge l j).Day ≤ D2)) :
    ∃ f n last i, ncoat_rightFilmOn k a l D1 = some (f, 0) ∧ nspeculumref08_StateOn k a l D1 = some n ∧ FR a f n ∧ i ≤ l.length ∧ (i = l.length ∨ D1 < (ge l i).Day) ∧
      (0 ≤ n → BR a f f.bright last ∧ last ≤ D1 ∧ last ≤ D2 ∧ 0 < i ∧ last = (ge l (i - 1)).Day ∧ ∃ x, n_speculumtop_truth_on k ⟨a, p⟩ l D2 = some x ∧ TR (agd a f.bright (D2 - last)) x) := by
  have A := AgOK.of ha
  obtain ⟨h1, h2⟩ := hiE_zero hl
  have hok := his_ok _ _ _ h2
  have hm : ∀ i j, i ≤ j → j < l.length → (ge l i).Day ≤ (ge l j).Day := fun i j h1 h2 => by
    have := his_mono (l := l) (fun j j1 j2 => (hok j (by omega) (by omega)).2 j1) (j - i) i (by omega)
    rw [show i + (j - i) = j by omega] at this; exact this
  have hd := inR_t.1 hD1
  obtain ⟨F, eF, f0, f1⟩ := in_any k A.f p.Fresh
  obtain ⟨L, eL, l0, l1⟩ := in_any k A.l p.Loss
  obtain ⟨B, eB, b0, b1⟩ := in_any k A.b p.Back
  have T : Tru a F L B := ⟨⟨f0, f1⟩, ⟨l0, l1⟩, ⟨b0, b1⟩⟩
  have F0 : FR a ⟨a, false, 0, 0, ⟨0, 0⟩⟩ (-1) := ⟨rfl, rfl, by decide, fun h => by omega⟩
  obtain ⟨f', n', y', now', last', i', R⟩ := all_onT k A T (by omega) hm hD l.length k 0 ⟨a, false, 0, 0, ⟨0, 0⟩⟩ (-1) [] 0 0 (by omega) (by omega) h2 F0 rfl (Nat.le_refl _) (fun h => absurd h (by decide))
  have hs : nspeculumref08_StateOn k a l D1 = some n' := by
    unfold nspeculumref08_StateOn nspeculumref08_Until
    have hlen := R.len
    rw [show nspeculumref08_Until_l0_0 k l D1 k [] 0 = _ from R.unt, Option.bind_some, Option.bind_some, show nspeculumref08_state k _ y' = _ from state_any k a A.w y' (by omega) (by omega), Option.bind_some, R.st]
  have hf : ncoat_rightFilmOn k a l D1 = some (f', 0) := by
    unfold ncoat_rightFilmOn ncoat_filmOn
    rw [show ncoat_CheckHistory k _ l = _ from history_coat k hk hk2 a l, Option.bind_some, if_pos ha, if_pos hl, day_coat k hk hk2, if_pos hD1, Option.bind_some, if_pos rfl]
    rw [show ncoat_filmOn_l0_0 k _ l D1 k a.Fresh.Lo a.Fresh.Hi 0 0 a.Loss.Lo a.Loss.Hi a.Back.Lo a.Back.Hi a.Washes false 0 0 0 = _ from R.film, Option.bind_some]
    rfl
  refine ⟨f', n', last', i', hf, hs, R.fr, R.i1, R.i2, fun hn => ?_⟩
  obtain ⟨B0, t0, u1, u2, u3, u4⟩ := R.br hn
  refine ⟨B0, u1, u2, u3, u4, ?_⟩
  have N := A.num B0 u2 hD2.2
  obtain ⟨ta, p0, p1⟩ := TR.aged T N t0
  have af := A.f; have al := A.l; have d0 := B0.d0
  have r2 := B0.r2; have r1 := B0.r1; have r0 := B0.r0
  have th := t0.hi; have tlo := t0.lo
  refine ⟨_, ?_, ta⟩
  unfold n_speculumtop_truth_on
  rw [show nspeculumtop_in k _ p.Fresh = _ from eF, Option.bind_some, show nspeculumtop_in k _ p.Loss = _ from eL, Option.bind_some, show nspeculumtop_in k _ p.Back = _ from eB, Option.bind_some]
  rw [show n_speculumtop_truth_on_l0_0 k l D2 F L B k 0 0 0 = _ from R.on, Option.bind_some]
  dsimp only
  rw [w64_id (n := 1000 * L) (by omega) (by omega), w64_id (n := D2 - last') (by omega) (by omega), w64_id (n := 1000 * L * (D2 - last')) (by omega) (by omega), w64_id (n := now' - 1000 * L * (D2 - last')) (by omega) (by omega)]
end Go.Proofs.Ytfdmpodpglppbaa.Vg

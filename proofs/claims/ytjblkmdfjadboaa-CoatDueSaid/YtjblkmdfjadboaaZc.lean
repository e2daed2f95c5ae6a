/- CoatDue, plain: films, and the first days found by halving and by going down. -/
import Derived.Test.YtjblkmdfjadboaaZ2
import Derived.Test.YtjblkmdfjadboaaZb
set_option linter.unusedVariables false
set_option linter.unusedSimpArgs false
namespace Go.Proofs.Ytjblkmdfjadboaa.Vg
open Go Go.Proofs.Ytjblkmdfjadboaa.Ev Go.Proofs.Ytjblkmdfjadboaa.Vv
theorem floor_any (k : Nat) {n d : Int} (hn : 0 ≤ n) (hn2 : n ≤ 1000000000000000000) (hd : 0 < d) : nspeculumbase_Floor k n d = some (n / d) := by
  unfold nspeculumbase_Floor
  have := div_le hn hd
  rw [if_pos (by omega), if_neg (by have := Int.tmod_nonneg d hn; omega), tdiv_pos hn, w64_id (by omega) (by omega)]
theorem ceil_any (k : Nat) {n d : Int} (hn : 0 ≤ n) (hn2 : n ≤ 1000000000000000000) (hd : 0 < d) : nspeculumbase_Ceil k n d = some (cdiv n d) := by
  unfold nspeculumbase_Ceil nspeculumbase_Floor
  have h3 := div_le hn hd
  have h0 := Int.emod_nonneg n (show d ≠ 0 by omega)
  rw [cdiv_eq hd, w64_id (n := 0 - n) (by omega) (by omega), if_pos (by omega), show (0 - n) = -n by omega, Int.neg_tmod, Int.neg_tdiv, tdiv_pos hn, Int.tmod_eq_emod_of_nonneg hn, w64_id (n := -(n / d)) (by omega) (by omega)]
  by_cases e : n % d = 0
  · rw [if_neg (by omega), if_pos e, Option.bind_some, w64_id (by omega) (by omega)]; congr 1; omega
  · rw [if_pos (by omega), if_neg e, w64_id (n := -(n / d) - 1) (by omega) (by omega), Option.bind_some, w64_id (by omega) (by omega)]; congr 1; omega
/-- a brightness some days later. -/
def agd (a : SAging) (r : SRange) (days : Int) : SRange := ⟨maxI 0 (r.Lo - cdiv (a.Loss.Hi * days) 1000), maxI 0 (r.Hi - a.Loss.Lo * days / 1000)⟩
structure Num (a : SAging) (r : SRange) (days : Int) : Prop where
  l0 : 0 ≤ a.Loss.Lo
  l1 : a.Loss.Lo ≤ a.Loss.Hi
  l2 : a.Loss.Hi ≤ 1000
  r0 : 0 ≤ r.Lo
  r1 : r.Lo ≤ r.Hi
  r2 : r.Hi ≤ 1000
  d0 : 0 ≤ days
  d1 : days ≤ 100000
theorem cdiv_in {n d : Int} (hn : 0 ≤ n) (hd : 0 < d) : n / d ≤ cdiv n d ∧ cdiv n d ≤ n + 1 ∧ 0 ≤ cdiv n d := by
  have h := div_le hn hd
  rw [cdiv_eq hd]
  split <;> omega
theorem Num.prod {a : SAging} {r : SRange} {days : Int} (N : Num a r days) : (0 ≤ a.Loss.Lo * days ∧ a.Loss.Lo * days ≤ 100000000) ∧ (0 ≤ a.Loss.Hi * days ∧ a.Loss.Hi * days ≤ 100000000) ∧ a.Loss.Lo * days ≤ a.Loss.Hi * days := by
  have l0 := N.l0; have l1 := N.l1; have l2 := N.l2
  have h1 := mb (A := 1000) (B := 100000) N.l0 (by omega) N.d0 N.d1
  have h2 := mb (A := 1000) (B := 100000) (a := a.Loss.Hi) (by omega) N.l2 N.d0 N.d1
  exact ⟨⟨h1.1, by omega⟩, ⟨h2.1, by omega⟩, Int.mul_le_mul_of_nonneg_right N.l1 N.d0⟩
theorem aged_any (k : Nat) {a : SAging} {r : SRange} {days : Int} (N : Num a r days) : nspeculumref08_aged k a r days = some (agd a r days) := by
  obtain ⟨h1, h2, h3⟩ := N.prod
  have r0 := N.r0; have r1 := N.r1; have r2 := N.r2
  have c := cdiv_in (d := 1000) h2.1 (by decide)
  have c2 := div_le (d := 1000) h1.1 (by decide)
  unfold nspeculumref08_aged agd
  rw [w64_id (n := a.Loss.Hi * days) (by omega) (by omega), w64_id (n := a.Loss.Lo * days) (by omega) (by omega), ceil_any k h2.1 (by omega) (by decide), Option.bind_some, floor_any k h1.1 (by omega) (by decide), Option.bind_some, w64_id (n := r.Lo - _) (by omega) (by omega), w64_id (n := r.Hi - _) (by omega) (by omega)]
theorem brightOn_any (k : Nat) {f : Sfilm} {D : Int} (N : Num f.Aging f.bright (D - f.since)) (hD : 0 ≤ D ∧ D ≤ 100000) (hs : 0 ≤ f.since) : n_coat_film_brightOn k f D = some (agd f.Aging f.bright (D - f.since)) := by
  obtain ⟨h1, h2, h3⟩ := N.prod
  have r0 := N.r0; have r1 := N.r1; have r2 := N.r2; have d0 := N.d0; have d1 := N.d1
  have c := cdiv_in (d := 1000) h2.1 (by decide)
  have c2 := div_le (d := 1000) h1.1 (by decide)
  unfold n_coat_film_brightOn agd
  rw [w64_id (n := D - f.since) (by omega) (by omega), w64_id (n := f.Aging.Loss.Lo * (D - f.since)) (by omega) (by omega), w64_id (n := f.Aging.Loss.Hi * (D - f.since)) (by omega) (by omega), outward_any k h1.1 (by omega) h2.1 (by omega) (by decide) (by decide), Option.bind_some]
  dsimp only
  rw [w64_id (n := f.bright.Lo - _) (by omega) (by omega), w64_id (n := f.bright.Hi - _) (by omega) (by omega)]
theorem maxI_cases (a b : Int) : (maxI a b = a ∧ b ≤ a) ∨ (maxI a b = b ∧ a ≤ b) := by unfold maxI; split <;> omega
theorem minI_cases (a b : Int) : (minI a b = a ∧ a ≤ b) ∨ (minI a b = b ∧ b ≤ a) := by unfold minI; split <;> omega
theorem agd_in {a : SAging} {r : SRange} {days : Int} (N : Num a r days) : 0 ≤ (agd a r days).Lo ∧ (agd a r days).Lo ≤ (agd a r days).Hi ∧ (agd a r days).Hi ≤ r.Hi ∧ (agd a r days).Lo ≤ r.Lo := by
  obtain ⟨h1, h2, h3⟩ := N.prod
  have r0 := N.r0; have r1 := N.r1
  have c := cdiv_in (d := 1000) h2.1 (by decide)
  have c2 := div_le (d := 1000) h1.1 (by decide)
  have c3 : a.Loss.Lo * days / 1000 ≤ a.Loss.Hi * days / 1000 := Int.ediv_le_ediv (by decide) h3
  unfold agd
  dsimp only
  rcases maxI_cases 0 (r.Lo - cdiv (a.Loss.Hi * days) 1000) with ⟨e1, _⟩ | ⟨e1, _⟩ <;> rcases maxI_cases 0 (r.Hi - a.Loss.Lo * days / 1000) with ⟨e2, _⟩ | ⟨e2, _⟩ <;> rw [e1, e2] <;> omega
/-- behind a wash. -/
def wsh (a : SAging) (r : SRange) (days : Int) : SRange := ⟨minI ((agd a r days).Lo + a.Back.Lo) a.Fresh.Lo, minI ((agd a r days).Hi + a.Back.Hi) a.Fresh.Hi⟩
/-- what a film says of the brightness. -/
structure BR (a : SAging) (f : Sfilm) (r : SRange) (last : Int) : Prop where
  s : f.since = last
  b : f.bright = r
  d0 : 0 ≤ last
  r0 : 0 ≤ r.Lo
  r1 : r.Lo ≤ r.Hi
  r2 : r.Hi ≤ 1000
structure AgOK (a : SAging) : Prop where
  f : 0 ≤ a.Fresh.Lo ∧ a.Fresh.Lo ≤ a.Fresh.Hi ∧ a.Fresh.Hi ≤ 1000
  l : 0 ≤ a.Loss.Lo ∧ a.Loss.Lo ≤ a.Loss.Hi ∧ a.Loss.Hi ≤ 1000
  b : 0 ≤ a.Back.Lo ∧ a.Back.Lo ≤ a.Back.Hi ∧ a.Back.Hi ≤ 1000
  w : 0 ≤ a.Washes ∧ a.Washes ≤ 100
theorem AgOK.of {a : SAging} (h : agE a = 0) : AgOK a := by
  obtain ⟨h1, h2, h3, h4⟩ := agE_W h
  exact ⟨rgB_t.1 h1, rgB_t.1 h2, rgB_t.1 h3, h4⟩
theorem AgOK.num {a : SAging} (A : AgOK a) {f : Sfilm} {r : SRange} {last D : Int} (B : BR a f r last) (h : last ≤ D) (hD : D ≤ 100000) : Num a r (D - last) :=
  ⟨A.l.1, A.l.2.1, A.l.2.2, B.r0, B.r1, B.r2, by omega, by have := B.d0; omega⟩
theorem wsh_in {a : SAging} (A : AgOK a) {r : SRange} {days : Int} (N : Num a r days) : 0 ≤ (wsh a r days).Lo ∧ (wsh a r days).Lo ≤ (wsh a r days).Hi ∧ (wsh a r days).Hi ≤ 1000 := by
  have h := agd_in N
  have f := A.f; have b := A.b
  unfold wsh
  dsimp only
  rcases minI_cases ((agd a r days).Lo + a.Back.Lo) a.Fresh.Lo with ⟨e1, _⟩ | ⟨e1, _⟩ <;> rcases minI_cases ((agd a r days).Hi + a.Back.Hi) a.Fresh.Hi with ⟨e2, _⟩ | ⟨e2, _⟩ <;> rw [e1, e2] <;> omega
theorem behind_put (k : Nat) {f : Sfilm} {x : SCoatEvent} (c : x.Kind = 0) : n_coat_film_behind k f x = some ⟨f.Aging, true, 0, x.Day, f.Aging.Fresh⟩ := by
  unfold n_coat_film_behind
  rw [if_pos c]; rfl
theorem behind_strip (k : Nat) {f : Sfilm} {x : SCoatEvent} (c : x.Kind = 2) : n_coat_film_behind k f x = some ⟨f.Aging, false, 0, 0, ⟨0, 0⟩⟩ := by
  unfold n_coat_film_behind
  rw [if_neg (by omega), if_neg (by omega)]; rfl
theorem behind_wash (k : Nat) {a : SAging} (A : AgOK a) {f : Sfilm} (hf : f.Aging = a) {r : SRange} {last : Int} (B : BR a f r last) {x : SCoatEvent} (c : x.Kind = 1) (h : last ≤ x.Day) (hD : x.Day ≤ 100000) :
    n_coat_film_behind k f x = some ⟨a, f.isOn, w64 (f.washed + 1), x.Day, wsh a r (x.Day - last)⟩ := by
  have N := A.num B h hD
  have d0 := B.d0
  unfold n_coat_film_behind n_coat_film_wash
  rw [if_neg (by omega), if_pos c]
  have hb : n_coat_film_brightOn k f x.Day = some (agd a r (x.Day - last)) := by
    have := brightOn_any k (f := f) (D := x.Day) (by rw [hf, B.b, B.s]; exact N) (by omega) (by rw [B.s]; omega)
    rw [hf, B.b, B.s] at this; exact this
  rw [show n_coat_film_brightOn k _ x.Day = _ from hb, Option.bind_some, Option.bind_some]
  have h1 := agd_in N
  have fr := A.f; have b := A.b; have r2 := N.r2
  try dsimp only
  rw [w64_id (n := (agd a r (x.Day - last)).Lo + f.Aging.Back.Lo) (by rw [hf]; omega) (by rw [hf]; omega), w64_id (n := (agd a r (x.Day - last)).Hi + f.Aging.Back.Hi) (by rw [hf]; omega) (by rw [hf]; omega)]
  unfold wsh
  rw [← hf]
theorem his_ok {W : Int} {l : List SCoatEvent} : ∀ (d i : Nat) (n : Int), hisL W l d i n = .inr () → ∀ j, i ≤ j → j < i + d → evE (ge l j) = 0 ∧ (0 < j → (ge l (j - 1)).Day ≤ (ge l j).Day)
  | 0, i, n, h, j, h1, h2 => by omega
  | d + 1, i, n, h, j, h1, h2 => by
    rw [hisL_succ] at h
    by_cases c : chk l i n = 0
    · rw [if_pos c] at h
      by_cases e : j = i
      · subst e; obtain ⟨g1, g2, g3, _⟩ := chk_zero c; exact ⟨g1, g3⟩
      · exact his_ok d (i + 1) _ h j (by omega) (by omega)
    · rw [if_neg c] at h; cases h
theorem his_mono {l : List SCoatEvent} (h : ∀ j, 0 < j → j < l.length → (ge l (j - 1)).Day ≤ (ge l j).Day) : ∀ (d i : Nat), i + d < l.length → (ge l i).Day ≤ (ge l (i + d)).Day
  | 0, i, _ => Int.le_refl _
  | d + 1, i, hd => by
    have h1 := his_mono h d i (by omega)
    have h2 := h (i + d + 1) (by omega) (by omega)
    rw [show i + d + 1 - 1 = i + d by omega] at h2
    show _ ≤ (ge l (i + d + 1)).Day
    omega
/-- behind the day nothing changes. -/
theorem day_coat (k : Nat) (hk : 1000 < k) (hk2 : k ≤ 1000000000) (D : Int) : ncoat_checkDay k D = some (if inR 0 100000 D = true then 0 else 2) := by
  unfold ncoat_checkDay
  rw [areWithin_1 k _ _ _ (by omega) hk2, Option.bind_some]
  split <;> rfl
/-- what both say on a day of a right history. -/
theorem past_ref (k : Nat) (hk : 1000 < k) (a : SAging) (l : List SCoatEvent) : nspeculumlaw08_past k a l = some (if agE a = 0 then (hiE a.Washes l).2 else agE a) := by
  unfold nspeculumlaw08_past
  rw [show nspeculumref08_CheckAging k _ = _ from aging_ref k (by omega) a, Option.bind_some]
  by_cases c : agE a = 0
  · rw [if_pos c, if_pos c, show nspeculumref08_CheckHistory k _ l = _ from history_ref k hk a (agE_W c).2.2.2 l]; rfl
  · rw [if_neg c, if_neg c]
theorem half {x y : Int} (h1 : 0 ≤ x) (h2 : x < y) (h3 : y ≤ 1000000) : w64 ((IntKind.u64.wrap (w64 (x + y))).fdiv (2 ^ (min (1 : Int).toNat 64))) = (x + y) / 2 := by
  have e : IntKind.u64.wrap (w64 (x + y)) = x + y := by
    rw [w64_id (by omega) (by omega)]
    unfold IntKind.wrap
    simp [IntKind.signed, IntKind.bits]
    omega
  rw [e, show (2 : Int) ^ (min (1 : Int).toNat 64) = 2 from rfl, Int.fdiv_eq_ediv_of_nonneg _ (by omega), w64_id (by omega) (by omega)]
/-- halving finds the first place from which on p holds. -/
theorem search1 (k : Nat) (q : Int × Int × Int × Int × Int × Int × Int × Int × Bool × Int × Int × Int × Int) (p : Int → Bool) (N : Int) (hN : N ≤ 200000) (hp : ∀ d, 0 ≤ d → d < N → n_coat_film_firstDay_1_k_coat_DueDays_1 k d q.1 q.2.1 q.2.2.1 q.2.2.2.1 q.2.2.2.2.1 q.2.2.2.2.2.1 q.2.2.2.2.2.2.1 q.2.2.2.2.2.2.2.1 q.2.2.2.2.2.2.2.2.1 q.2.2.2.2.2.2.2.2.2.1 q.2.2.2.2.2.2.2.2.2.2.1 q.2.2.2.2.2.2.2.2.2.2.2.1 q.2.2.2.2.2.2.2.2.2.2.2.2 = some (p d)) (hm : ∀ d e, 0 ≤ d → d ≤ e → e < N → p d = true → p e = true) :
    ∀ (n fuel : Nat) (x y : Int), 0 ≤ x → x ≤ y → y ≤ N → (y - x).toNat < n → n ≤ fuel → (∀ d, 0 ≤ d → d < x → p d = false) → (∀ d, y ≤ d → d < N → p d = true) →
      ∃ s, nsort_Search_c1_coat_film_firstDay_1_coat_DueDays_1_l0_0 k q fuel x y = some s ∧ x ≤ s ∧ s ≤ y ∧ (∀ d, 0 ≤ d → d < s → p d = false) ∧ (∀ d, s ≤ d → d < N → p d = true) := by
  intro n
  induction n with
  | zero => intro fuel x y h1 h2 h3 h; omega
  | succ n ih =>
    intro fuel x y h1 h2 h3 h hf hl hr
    obtain ⟨g, rfl⟩ : ∃ g, fuel = g + 1 := ⟨fuel - 1, by omega⟩
    rw [nsort_Search_c1_coat_film_firstDay_1_coat_DueDays_1_l0_0.eq_2]
    by_cases c : x < y
    · rw [if_pos c, half h1 c (by omega), hp _ (by omega) (by omega), Option.bind_some]
      cases hq : p ((x + y) / 2) with
      | true =>
        rw [if_pos rfl]
        obtain ⟨s, s1, s2, s3, s4, s5⟩ := ih g x ((x + y) / 2) h1 (by omega) (by omega) (by omega) (by omega) hl (fun d d1 d2 => hm _ d (by omega) d1 d2 hq)
        exact ⟨s, s1, s2, by omega, s4, s5⟩
      | false =>
        rw [if_neg (by simp), w64_id (by omega) (by omega)]
        obtain ⟨s, s1, s2, s3, s4, s5⟩ := ih g ((x + y) / 2 + 1) y (by omega) (by omega) h3 (by omega) (by omega) (fun d d1 d2 => by
          cases hd : p d with
          | false => rfl
          | true => have := hm d ((x + y) / 2) d1 (by omega) (by omega) hd; rw [hq] at this; cases this) hr
        exact ⟨s, s1, by omega, s3, s4, s5⟩
    · rw [if_neg c]
      exact ⟨x, rfl, Int.le_refl _, h2, hl, fun d d1 d2 => hr d (by omega) d2⟩
/-- halving finds the first place from which on p holds. -/
theorem search2 (k : Nat) (q : Int × Int × Int × Int × Int × Int × Int × Int × Bool × Int × Int × Int × Int) (p : Int → Bool) (N : Int) (hN : N ≤ 200000) (hp : ∀ d, 0 ≤ d → d < N → n_coat_film_firstDay_1_k_coat_DueDays_2 k d q.1 q.2.1 q.2.2.1 q.2.2.2.1 q.2.2.2.2.1 q.2.2.2.2.2.1 q.2.2.2.2.2.2.1 q.2.2.2.2.2.2.2.1 q.2.2.2.2.2.2.2.2.1 q.2.2.2.2.2.2.2.2.2.1 q.2.2.2.2.2.2.2.2.2.2.1 q.2.2.2.2.2.2.2.2.2.2.2.1 q.2.2.2.2.2.2.2.2.2.2.2.2 = some (p d)) (hm : ∀ d e, 0 ≤ d → d ≤ e → e < N → p d = true → p e = true) :
    ∀ (n fuel : Nat) (x y : Int), 0 ≤ x → x ≤ y → y ≤ N → (y - x).toNat < n → n ≤ fuel → (∀ d, 0 ≤ d → d < x → p d = false) → (∀ d, y ≤ d → d < N → p d = true) →
      ∃ s, nsort_Search_c1_coat_film_firstDay_1_coat_DueDays_2_l0_0 k q fuel x y = some s ∧ x ≤ s ∧ s ≤ y ∧ (∀ d, 0 ≤ d → d < s → p d = false) ∧ (∀ d, s ≤ d → d < N → p d = true) := by
  intro n
  induction n with
  | zero => intro fuel x y h1 h2 h3 h; omega
  | succ n ih =>
    intro fuel x y h1 h2 h3 h hf hl hr
    obtain ⟨g, rfl⟩ : ∃ g, fuel = g + 1 := ⟨fuel - 1, by omega⟩
    rw [nsort_Search_c1_coat_film_firstDay_1_coat_DueDays_2_l0_0.eq_2]
    by_cases c : x < y
    · rw [if_pos c, half h1 c (by omega), hp _ (by omega) (by omega), Option.bind_some]
      cases hq : p ((x + y) / 2) with
      | true =>
        rw [if_pos rfl]
        obtain ⟨s, s1, s2, s3, s4, s5⟩ := ih g x ((x + y) / 2) h1 (by omega) (by omega) (by omega) (by omega) hl (fun d d1 d2 => hm _ d (by omega) d1 d2 hq)
        exact ⟨s, s1, s2, by omega, s4, s5⟩
      | false =>
        rw [if_neg (by simp), w64_id (by omega) (by omega)]
        obtain ⟨s, s1, s2, s3, s4, s5⟩ := ih g ((x + y) / 2 + 1) y (by omega) (by omega) h3 (by omega) (by omega) (fun d d1 d2 => by
          cases hd : p d with
          | false => rfl
          | true => have := hm d ((x + y) / 2) d1 (by omega) (by omega) hd; rw [hq] at this; cases this) hr
        exact ⟨s, s1, by omega, s3, s4, s5⟩
    · rw [if_neg c]
      exact ⟨x, rfl, Int.le_refl _, h2, hl, fun d d1 d2 => hr d (by omega) d2⟩
theorem all_on2 (k : Nat) {a : SAging} (A : AgOK a) {l : List SCoatEvent} (hl : l.length < 100) (hm : ∀ i j, i ≤ j → j < l.length → (ge l i).Day ≤ (ge l j).Day) {D1 D2 : Int} (h1 : ∀ j, j < l.length → (ge l j).Day ≤ D1) (h2 : ∀ j, j < l.length → (ge l j).Day ≤ D2) : ∀ (d fuel i : Nat) (f : Sfilm) (n : Int) (r : SRange) (last : Int), l.length = i + d → d < fuel →
    hisL a.Washes l d i n = .inr () → FR a f n → stF a.Washes (-1) (l.take i) = n → (0 ≤ n → BR a f r last ∧ 0 < i ∧ last = (ge l (i - 1)).Day) →
    ∃ f' n' r' last', ncoat_filmOn_l0_0 k a l D1 fuel f.Aging.Fresh.Lo f.Aging.Fresh.Hi f.bright.Lo f.bright.Hi f.Aging.Loss.Lo f.Aging.Loss.Hi f.Aging.Back.Lo f.Aging.Back.Hi f.Aging.Washes f.isOn f.washed f.since (i : Int) = some (f'.Aging.Fresh.Lo, f'.Aging.Fresh.Hi, f'.Aging.Loss.Lo, f'.Aging.Loss.Hi, f'.Aging.Back.Lo, f'.Aging.Back.Hi, f'.Aging.Washes, f'.isOn, f'.washed, f'.since, f'.bright.Lo, f'.bright.Hi) ∧
      nspeculumref08_Bright_l0_0 k a l D2 fuel r.Lo r.Hi last (i : Int) = some (last', r'.Lo, r'.Hi) ∧ stF a.Washes (-1) l = n' ∧ FR a f' n' ∧ (0 ≤ n' → BR a f' r' last' ∧ 0 < l.length ∧ last' = (ge l (l.length - 1)).Day) := by
  intro d
  induction d with
  | zero =>
    intro fuel i f n r last h hf _ F hy hb
    obtain ⟨g, rfl⟩ : ∃ g, fuel = g + 1 := ⟨fuel - 1, by omega⟩
    obtain rfl : i = l.length := by omega
    rw [List.take_length] at hy
    exact ⟨f, n, r, last, by rw [ncoat_filmOn_l0_0.eq_2, if_neg (by omega)], by rw [nspeculumref08_Bright_l0_0.eq_2, if_neg (by omega)], hy, F, hb⟩
  | succ d ih =>
    intro fuel i f n r last h hf hh F hy hb
    obtain ⟨g, rfl⟩ : ∃ g, fuel = g + 1 := ⟨fuel - 1, by omega⟩
    rw [hisL_succ] at hh
    by_cases hc : chk l i n = 0
    case neg => rw [if_neg hc] at hh; cases hh
    case pos =>
      rw [if_pos hc] at hh
      obtain ⟨g1, g2, g3, g4, g5⟩ := chk_zero hc
      obtain ⟨hday, hk⟩ := evE_kind g1
      have key : ∃ f1 r1 last1, n_coat_film_behind k f (ge l i) = some f1 ∧ FR a f1 (stp a.Washes n (ge l i).Kind) ∧ (0 ≤ stp a.Washes n (ge l i).Kind → BR a f1 r1 last1 ∧ last1 = (ge l i).Day) ∧
          nspeculumref08_Bright_l0_0 k a l D2 (g + 1) r.Lo r.Hi last (i : Int) = nspeculumref08_Bright_l0_0 k a l D2 g r1.Lo r1.Hi last1 ((i + 1 : Nat) : Int) := by
        obtain ⟨f1, e1, F1⟩ := behind_some k A.w F hk g4 g5
        rw [nspeculumref08_Bright_l0_0.eq_2, if_pos (by omega), if_pos (by omega), w64_succ (by omega)]
        simp only [Int.toNat_natCast]
        rw [if_pos (h2 i (by omega))]
        rcases hk with hk | hk | hk
        · have e2 := behind_put k (f := f) hk
          rw [e2] at e1; injection e1 with e1; subst e1
          refine ⟨_, a.Fresh, (ge l i).Day, e2, F1, fun _ => ⟨⟨rfl, by dsimp only; rw [F.ag], hday.1, A.f.1, A.f.2.1, A.f.2.2⟩, rfl⟩, ?_⟩
          rw [if_pos hk, if_neg (show ¬ (ge l i).Kind = 1 by omega)]
        · have hn : 0 ≤ n := by
            rcases Int.lt_or_le n 0 with h | h
            · have := g4.2 h; omega
            · exact h
          obtain ⟨B, b1, b2⟩ := hb hn
          have hle : last ≤ (ge l i).Day := by rw [b2]; exact hm (i - 1) i (by omega) (by omega)
          have N := A.num B hle hday.2
          have hw := wsh_in A N
          have h1 := agd_in N
          have fr := A.f; have b := A.b; have r2 := N.r2; have d0 := B.d0
          have e2 := behind_wash k A F.ag B hk hle hday.2
          rw [e2] at e1; injection e1 with e1; subst e1
          refine ⟨_, wsh a r ((ge l i).Day - last), (ge l i).Day, e2, F1, fun _ => ⟨⟨rfl, rfl, hday.1, hw.1, hw.2.1, hw.2.2⟩, rfl⟩, ?_⟩
          rw [if_neg (show ¬ (ge l i).Kind = 0 by omega), if_pos hk, w64_id (n := (ge l i).Day - last) (by omega) (by omega), show nspeculumref08_aged k _ _ _ = _ from aged_any k N, Option.bind_some]
          rw [w64_id (n := (agd a r ((ge l i).Day - last)).Lo + a.Back.Lo) (by omega) (by omega), w64_id (n := (agd a r ((ge l i).Day - last)).Hi + a.Back.Hi) (by omega) (by omega)]
          rfl
        · refine ⟨f1, r, last, e1, F1, fun hn => ?_, ?_⟩
          · exfalso
            unfold stp at hn
            rw [if_neg (by omega), if_neg (by omega), if_pos hk] at hn
            exact absurd hn (by decide)
          · rw [if_neg (show ¬ (ge l i).Kind = 0 by omega), if_neg (show ¬ (ge l i).Kind = 1 by omega)]
      obtain ⟨f1, r1, last1, k1, k2, k3, k4⟩ := key
      have hy1 : stF a.Washes (-1) (l.take (i + 1)) = stp a.Washes n (ge l i).Kind := by rw [stF_next (by omega), hy]
      obtain ⟨f', n', r', last', e1, e2, e3, e4, e5⟩ := ih g (i + 1) f1 _ r1 last1 (by omega) (by omega) hh k2 hy1 (fun hn => ⟨(k3 hn).1, by omega, by rw [(k3 hn).2]; rfl⟩)
      refine ⟨f', n', r', last', ?_, by rw [k4]; exact e2, e3, e4, e5⟩
      rw [ncoat_filmOn_l0_0.eq_2, if_pos (by omega), if_pos (by omega), w64_succ (by omega)]
      simp only [Int.toNat_natCast]
      rw [if_pos (h1 i (by omega)), show n_coat_film_behind k _ _ = _ from k1, Option.bind_some]
      exact e1
end Go.Proofs.Ytjblkmdfjadboaa.Vg

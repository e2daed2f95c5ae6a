/- CoatDue, plain. -/
import Derived.Test.YtjblkmdfjadboaaZ3
import Derived.Test.YtjblkmdfjadboaaZc
set_option linter.unusedVariables false
set_option linter.unusedSimpArgs false
namespace Go.Proofs.Ytjblkmdfjadboaa.Vg
open Go Go.Proofs.Ytjblkmdfjadboaa.Ev Go.Proofs.Ytjblkmdfjadboaa.Vv
theorem cdiv_mono {n m d : Int} (hn : 0 ≤ n) (h : n ≤ m) (hd : 0 < d) : cdiv n d ≤ cdiv m d := by
  rw [cdiv_eq hd, cdiv_eq hd]
  have h1 := Int.ediv_le_ediv hd h
  have e1 := Int.mul_ediv_add_emod n d
  have e2 := Int.mul_ediv_add_emod m d
  have a1 := Int.emod_nonneg n (show d ≠ 0 by omega)
  have a2 := Int.emod_nonneg m (show d ≠ 0 by omega)
  by_cases c1 : n % d = 0
  · rw [if_pos c1]; split <;> omega
  · rw [if_neg c1]
    by_cases c2 : m % d = 0
    · rw [if_pos c2]
      rcases Int.lt_or_le (n / d) (m / d) with h3 | h3
      · omega
      · have : n / d = m / d := by omega
        rw [this] at e1; omega
    · rw [if_neg c2]; omega
theorem agd_mono {a : SAging} {r : SRange} {d e : Int} (hL : 0 ≤ a.Loss.Lo ∧ 0 ≤ a.Loss.Hi) (hd : 0 ≤ d) (h : d ≤ e) : (agd a r e).Lo ≤ (agd a r d).Lo ∧ (agd a r e).Hi ≤ (agd a r d).Hi := by
  have m1 := Int.mul_le_mul_of_nonneg_left h hL.2
  have m2 := Int.mul_le_mul_of_nonneg_left h hL.1
  have p1 := Int.mul_nonneg hL.2 hd
  have c1 := cdiv_mono (d := 1000) p1 m1 (by omega)
  have c2 := Int.ediv_le_ediv (show (0 : Int) < 1000 by omega) m2
  unfold agd
  dsimp only
  rcases maxI_cases 0 (r.Lo - cdiv (a.Loss.Hi * d) 1000) with ⟨x1, y1⟩ | ⟨x1, y1⟩ <;> rcases maxI_cases 0 (r.Lo - cdiv (a.Loss.Hi * e) 1000) with ⟨x2, y2⟩ | ⟨x2, y2⟩ <;> rcases maxI_cases 0 (r.Hi - a.Loss.Lo * d / 1000) with ⟨x3, y3⟩ | ⟨x3, y3⟩ <;> rcases maxI_cases 0 (r.Hi - a.Loss.Lo * e / 1000) with ⟨x4, y4⟩ | ⟨x4, y4⟩ <;> rw [x1, x2, x3, x4] <;> omega
theorem first1 (k : Nat) (hk : 200003 ≤ k) {a : SAging} (A : AgOK a) {f : Sfilm} {n last : Int} {r : SRange} (F : FR a f n) (B : BR a f r last) (hl : last ≤ 100000) (least : Int) :
    ∃ s, n_coat_film_firstDay_c1_coat_DueDays_1 k f least = some (last + s) ∧ 0 ≤ s ∧ s ≤ 100001 - last ∧ (∀ d, 0 ≤ d → d < s → ¬(agd a r d).Lo < least) ∧ (∀ d, s ≤ d → d < 100001 - last → (agd a r d).Lo < least) := by
  have d0 := B.d0
  have hb : ∀ d, 0 ≤ d → d < 100001 - last → n_coat_film_firstDay_1_k_coat_DueDays_1 k d least f.Aging.Fresh.Lo f.Aging.Fresh.Hi f.Aging.Loss.Lo f.Aging.Loss.Hi f.Aging.Back.Lo f.Aging.Back.Hi f.Aging.Washes f.isOn f.washed f.since f.bright.Lo f.bright.Hi = some (decide ((agd a r d).Lo < least)) := fun d h1 h2 => by
    have N := A.num B (D := last + d) (by omega) (by omega)
    rw [show last + d - last = d by omega] at N
    have hbr := brightOn_any k (f := f) (D := last + d) (by rw [F.ag, B.b, B.s, show last + d - last = d by omega]; exact N) (by omega) (by rw [B.s]; exact d0)
    rw [F.ag, B.b, B.s, show last + d - last = d by omega] at hbr
    unfold n_coat_film_firstDay_1_k_coat_DueDays_1 ncoat_DueDays_1
    rw [B.s, w64_id (n := last + d) (by omega) (by omega), show n_coat_film_brightOn k _ (last + d) = some (agd a r d) from (by rw [← B.s] at hbr ⊢; exact hbr), Option.bind_some, Option.bind_some]
  obtain ⟨s, e1, e2, e3, e4, e5⟩ := search1 k (least, f.Aging.Fresh.Lo, f.Aging.Fresh.Hi, f.Aging.Loss.Lo, f.Aging.Loss.Hi, f.Aging.Back.Lo, f.Aging.Back.Hi, f.Aging.Washes, f.isOn, f.washed, f.since, f.bright.Lo, f.bright.Hi) (fun d => decide ((agd a r d).Lo < least)) (100001 - last) (by omega) hb (fun d e h1 h2 h3 h4 => by
    have hm := (agd_mono (a := a) (r := r) ⟨A.l.1, by have := A.l; omega⟩ h1 h2).1
    have h4 := of_decide_eq_true h4
    exact decide_eq_true (by omega)) 200003 k 0 (100001 - last) (by omega) (by omega) (by omega) (by omega) hk (fun d h1 h2 => by omega) (fun d h1 h2 => by omega)
  refine ⟨s, ?_, e2, e3, fun d h1 h2 => of_decide_eq_false (e4 d h1 h2), fun d h1 h2 => of_decide_eq_true (e5 d h1 h2)⟩
  unfold n_coat_film_firstDay_c1_coat_DueDays_1 nsort_Search_c1_coat_film_firstDay_1_coat_DueDays_1
  rw [show w64 (100001 - f.since) = 100001 - last by rw [B.s, w64_id (by omega) (by omega)], e1, Option.bind_some, Option.bind_some, B.s, w64_id (by omega) (by omega)]
theorem first2 (k : Nat) (hk : 200003 ≤ k) {a : SAging} (A : AgOK a) {f : Sfilm} {n last : Int} {r : SRange} (F : FR a f n) (B : BR a f r last) (hl : last ≤ 100000) (least : Int) :
    ∃ s, n_coat_film_firstDay_c1_coat_DueDays_2 k f least = some (last + s) ∧ 0 ≤ s ∧ s ≤ 100001 - last ∧ (∀ d, 0 ≤ d → d < s → ¬(agd a r d).Hi < least) ∧ (∀ d, s ≤ d → d < 100001 - last → (agd a r d).Hi < least) := by
  have d0 := B.d0
  have hb : ∀ d, 0 ≤ d → d < 100001 - last → n_coat_film_firstDay_1_k_coat_DueDays_2 k d least f.Aging.Fresh.Lo f.Aging.Fresh.Hi f.Aging.Loss.Lo f.Aging.Loss.Hi f.Aging.Back.Lo f.Aging.Back.Hi f.Aging.Washes f.isOn f.washed f.since f.bright.Lo f.bright.Hi = some (decide ((agd a r d).Hi < least)) := fun d h1 h2 => by
    have N := A.num B (D := last + d) (by omega) (by omega)
    rw [show last + d - last = d by omega] at N
    have hbr := brightOn_any k (f := f) (D := last + d) (by rw [F.ag, B.b, B.s, show last + d - last = d by omega]; exact N) (by omega) (by rw [B.s]; exact d0)
    rw [F.ag, B.b, B.s, show last + d - last = d by omega] at hbr
    unfold n_coat_film_firstDay_1_k_coat_DueDays_2 ncoat_DueDays_2
    rw [B.s, w64_id (n := last + d) (by omega) (by omega), show n_coat_film_brightOn k _ (last + d) = some (agd a r d) from (by rw [← B.s] at hbr ⊢; exact hbr), Option.bind_some, Option.bind_some]
  obtain ⟨s, e1, e2, e3, e4, e5⟩ := search2 k (least, f.Aging.Fresh.Lo, f.Aging.Fresh.Hi, f.Aging.Loss.Lo, f.Aging.Loss.Hi, f.Aging.Back.Lo, f.Aging.Back.Hi, f.Aging.Washes, f.isOn, f.washed, f.since, f.bright.Lo, f.bright.Hi) (fun d => decide ((agd a r d).Hi < least)) (100001 - last) (by omega) hb (fun d e h1 h2 h3 h4 => by
    have hm := (agd_mono (a := a) (r := r) ⟨A.l.1, by have := A.l; omega⟩ h1 h2).2
    have h4 := of_decide_eq_true h4
    exact decide_eq_true (by omega)) 200003 k 0 (100001 - last) (by omega) (by omega) (by omega) (by omega) hk (fun d h1 h2 => by omega) (fun d h1 h2 => by omega)
  refine ⟨s, ?_, e2, e3, fun d h1 h2 => of_decide_eq_false (e4 d h1 h2), fun d h1 h2 => of_decide_eq_true (e5 d h1 h2)⟩
  unfold n_coat_film_firstDay_c1_coat_DueDays_2 nsort_Search_c1_coat_film_firstDay_1_coat_DueDays_2
  rw [show w64 (100001 - f.since) = 100001 - last by rw [B.s, w64_id (by omega) (by omega)], e1, Option.bind_some, Option.bind_some, B.s, w64_id (by omega) (by omega)]
theorem down (k : Nat) {a : SAging} (A : AgOK a) {l : List SCoatEvent} {r : SRange} {last : Int} (hlast : (l.getD (w64 ((l.length : Int) - 1)).toNat default).Day = last) (d0 : 0 ≤ last) (hl : last ≤ 100000) (hr : 0 ≤ r.Lo ∧ r.Lo ≤ r.Hi ∧ r.Hi ≤ 1000) (least s t : Int) (hs : 0 ≤ s) (ht : 0 ≤ t) (s1 : ∀ d, 0 ≤ d → d < s → ¬(agd a r d).Lo < least) (s2 : ∀ d, s ≤ d → d < 100001 - last → (agd a r d).Lo < least) (t1 : ∀ d, 0 ≤ d → d < t → ¬(agd a r d).Hi < least) (t2 : ∀ d, t ≤ d → d < 100001 - last → (agd a r d).Hi < least) : ∀ (m fuel : Nat) (b0 b1 x : Int), (m : Int) ≤ 100001 - last → m < fuel → x = last + m - 1 → b0 = last + (if s < m then (m : Int) else s) → b1 = last + (if t < m then (m : Int) else t) →
    nspeculumref08_DueDays_l0_0 k a l least r fuel b0 b1 x = some (last + s, last + t) := by
  intro m
  induction m with
  | zero =>
    intro fuel b0 b1 x h1 hf hx hb0 hb1
    obtain ⟨g, rfl⟩ : ∃ g, fuel = g + 1 := ⟨fuel - 1, by omega⟩
    rw [nspeculumref08_DueDays_l0_0.eq_2, hlast, if_neg (by omega), hb0, hb1, if_neg (by omega), if_neg (by omega)]
  | succ m ih =>
    intro fuel b0 b1 x h1 hf hx hb0 hb1
    obtain ⟨g, rfl⟩ : ∃ g, fuel = g + 1 := ⟨fuel - 1, by omega⟩
    have N : Num a r (m : Int) := ⟨A.l.1, A.l.2.1, A.l.2.2, hr.1, hr.2.1, hr.2.2, by omega, by omega⟩
    rw [nspeculumref08_DueDays_l0_0.eq_2, hlast, if_pos (by omega), w64_id (n := x - last) (by omega) (by omega), show x - last = (m : Int) by omega, aged_any k N, Option.bind_some, w64_id (n := x - 1) (by omega) (by omega)]
    have cs : (agd a r (m : Int)).Lo < least ↔ s ≤ m := ⟨fun h => by
      rcases Int.lt_or_le (m : Int) s with h2 | h2
      · exact absurd h (s1 _ (by omega) h2)
      · exact h2, fun h => s2 _ h (by omega)⟩
    have ct : (agd a r (m : Int)).Hi < least ↔ t ≤ m := ⟨fun h => by
      rcases Int.lt_or_le (m : Int) t with h2 | h2
      · exact absurd h (t1 _ (by omega) h2)
      · exact h2, fun h => t2 _ h (by omega)⟩
    by_cases c1 : s ≤ (m : Int)
    · rw [if_pos (cs.2 c1)]
      by_cases c2 : t ≤ (m : Int)
      · rw [if_pos (ct.2 c2)]; exact ih g _ _ _ (by omega) (by omega) (by omega) (by split <;> omega) (by split <;> omega)
      · rw [if_neg (fun h => c2 (ct.1 h))]; exact ih g _ _ _ (by omega) (by omega) (by omega) (by split <;> omega) (by rw [hb1, if_neg (by omega), if_neg (by omega)])
    · rw [if_neg (fun h => c1 (cs.1 h))]
      by_cases c2 : t ≤ (m : Int)
      · rw [if_pos (ct.2 c2)]; exact ih g _ _ _ (by omega) (by omega) (by omega) (by rw [hb0, if_neg (by omega), if_neg (by omega)]) (by split <;> omega)
      · rw [if_neg (fun h => c2 (ct.1 h))]; exact ih g _ _ _ (by omega) (by omega) (by omega) (by rw [hb0, if_neg (by omega), if_neg (by omega)]) (by rw [hb1, if_neg (by omega), if_neg (by omega)])
theorem agd_zero {a : SAging} {r : SRange} (h0 : 0 ≤ r.Lo) (h1 : 0 ≤ r.Hi) : agd a r 0 = r := by
  unfold agd
  rw [Int.mul_zero, Int.mul_zero, cdiv_eq (by omega)]
  have e1 : maxI 0 (r.Lo - (if (0 : Int) % 1000 = 0 then 0 / 1000 else 0 / 1000 + 1)) = r.Lo := by
    rw [show (if (0 : Int) % 1000 = 0 then (0 : Int) / 1000 else 0 / 1000 + 1) = 0 from rfl, Int.sub_zero]
    unfold maxI; split <;> omega
  have e2 : maxI 0 (r.Hi - 0 / 1000) = r.Hi := by
    rw [show (0 : Int) / 1000 = 0 from rfl, Int.sub_zero]
    unfold maxI; split <;> omega
  rw [e1, e2]
theorem film_on (k : Nat) (hk : 1000 < k) (hk2 : k ≤ 1000000000) {a : SAging} (ha : agE a = 0) {l : List SCoatEvent} (hl : (hiE a.Washes l).2 = 0) {D D2 : Int} (hD : inR 0 100000 D = true) (g1 : ∀ j, j < l.length → (ge l j).Day ≤ D) (g2 : ∀ j, j < l.length → (ge l j).Day ≤ D2) :
    ∃ f' r last, ncoat_rightFilmOn k a l D = some (f', 0) ∧ nspeculumref08_Bright_l0_0 k a l D2 k 0 0 0 0 = some (last, r.Lo, r.Hi) ∧ FR a f' (stF a.Washes (-1) l) ∧ (0 ≤ stF a.Washes (-1) l → BR a f' r last ∧ 0 < l.length ∧ last = (ge l (l.length - 1)).Day) := by
  have A := AgOK.of ha
  obtain ⟨h1, h2⟩ := hiE_zero hl
  have hok := his_ok _ _ _ h2
  have hm : ∀ i j, i ≤ j → j < l.length → (ge l i).Day ≤ (ge l j).Day := fun i j h1 h2 => by
    have := his_mono (l := l) (fun j j1 j2 => (hok j (by omega) (by omega)).2 j1) (j - i) i (by omega)
    rw [show i + (j - i) = j by omega] at this; exact this
  have F : FR a ⟨a, false, 0, 0, ⟨0, 0⟩⟩ (-1) := ⟨rfl, rfl, by decide, fun h => by omega⟩
  obtain ⟨f', n', r', last', e1, e2, e3, e4, e5⟩ := all_on2 k A (by omega) hm g1 g2 l.length k 0 ⟨a, false, 0, 0, ⟨0, 0⟩⟩ (-1) ⟨0, 0⟩ 0 (by omega) (by omega) h2 F rfl (fun h => absurd h (by decide))
  subst e3
  refine ⟨f', r', last', ?_, e2, e4, e5⟩
  unfold ncoat_rightFilmOn ncoat_filmOn
  rw [show ncoat_CheckHistory k _ l = _ from history_coat k hk hk2 a l, Option.bind_some, if_pos ha, if_pos hl, day_coat k hk hk2, if_pos hD, Option.bind_some, if_pos rfl]
  rw [show ncoat_filmOn_l0_0 k _ l D k a.Fresh.Lo a.Fresh.Hi 0 0 a.Loss.Lo a.Loss.Hi a.Back.Lo a.Back.Hi a.Washes false 0 0 0 = _ from e1, Option.bind_some]
  rfl
theorem bright_at (k : Nat) {a : SAging} (A : AgOK a) {l : List SCoatEvent} {D last n : Int} {f : Sfilm} {r : SRange} (hr : ncoat_rightFilmOn k a l D = some (f, 0)) (F : FR a f n) (hn : 0 ≤ n) (B : BR a f r last) (h1 : last ≤ D) (h2 : D ≤ 100000) : ncoat_Bright k a l D = some (agd a r (D - last), 0) := by
  have d0 := B.d0
  have N := A.num B h1 h2
  have hb := brightOn_any k (f := f) (D := D) (by rw [F.ag, B.b, B.s]; exact N) (by omega) (by rw [B.s]; exact d0)
  rw [F.ag, B.b, B.s] at hb
  unfold ncoat_Bright
  rw [hr, Option.bind_some, if_pos rfl]
  dsimp only
  rw [if_pos (show f.isOn = true by rw [F.on]; exact decide_eq_true hn), hb, Option.bind_some]
theorem law_due (k : Nat) (hk : 200003 ≤ k) (hk2 : k ≤ 1000000000) (a : SAging) (l : List SCoatEvent) (least : Int) : nspeculumlaw08_CoatDue k a l least = some true := by
  unfold nspeculumlaw08_CoatDue
  obtain ⟨b, hb, hlen⟩ := past_any k (by omega) l
  rw [show nawake k = some true from rfl, Option.bind_some, if_pos rfl, hb, Option.bind_some]
  cases b with
  | false => rfl
  | true =>
    have hl := hlen rfl
    rw [if_pos rfl, events_any k (by omega), Option.bind_some, past_ref k (by omega) a l]
    by_cases ha : agE a = 0
    · by_cases h1 : (hiE a.Washes l).2 = 0
      · have A := AgOK.of ha
        obtain ⟨q1, q2⟩ := hiE_zero h1
        have hok := his_ok _ _ _ q2
        have hday : ∀ j, j < l.length → 0 ≤ (ge l j).Day ∧ (ge l j).Day ≤ 100000 := fun j hj => (evE_kind (hok j (by omega) (by omega)).1).1
        have hm : ∀ i j, i ≤ j → j < l.length → (ge l i).Day ≤ (ge l j).Day := fun i j h1 h2 => by
          have := his_mono (l := l) (fun j j1 j2 => (hok j (by omega) (by omega)).2 j1) (j - i) i (by omega)
          rw [show i + (j - i) = j by omega] at this; exact this
        have hD2 : ∀ j, j < l.length → (ge l j).Day ≤ (ge l (l.length - 1)).Day := fun j hj => hm j _ (by omega) (by omega)
        obtain ⟨f, r, last, e1, e2, e3, e4⟩ := film_on k (by omega) hk2 ha h1 (D := 100000) (D2 := (ge l (l.length - 1)).Day) (by decide) (fun j hj => (hday j hj).2) hD2
        have hst := state_any k a A.w l (by omega) (by omega)
        unfold ncoat_DueDays nspeculumref08_DueDays
        rw [e1, Option.bind_some, if_pos rfl]
        dsimp only
        by_cases hn : 0 ≤ stF a.Washes (-1) l
        · obtain ⟨B, hl0, hlast⟩ := e4 hn
          have d0 := B.d0
          have dl : last ≤ 100000 := by rw [hlast]; exact (hday _ (by omega)).2
          have hw : w64 ((l.length : Int) - 1) = ((l.length - 1 : Nat) : Int) := by rw [w64_id (by omega) (by omega)]; omega
          have hge : (l.getD (w64 ((l.length : Int) - 1)).toNat default).Day = last := by rw [hw, Int.toNat_natCast]; exact hlast.symm
          have hif : 0 ≤ w64 ((l.length : Int) - 1) ∧ w64 ((l.length : Int) - 1) < (l.length : Int) := by rw [hw]; omega
          rw [if_pos (show f.isOn = true by rw [e3.on]; exact decide_eq_true hn), areWithin_1 k _ _ _ (by omega) hk2, Option.bind_some, hst]
          by_cases hi : inR 0 1000 least = true
          · obtain ⟨s, f1, f2, f3, f4, f5⟩ := first1 k hk A e3 B dl least
            obtain ⟨t, g1, g2, g3, g4, g5⟩ := first2 k hk A e3 B dl least
            have hbr : nspeculumref08_Bright k a l last = some r := by
              unfold nspeculumref08_Bright
              have N : Num a r 0 := ⟨A.l.1, A.l.2.1, A.l.2.2, B.r0, B.r1, B.r2, by omega, by omega⟩
              rw [show nspeculumref08_Bright_l0_0 k a l last k 0 0 0 0 = some (last, r.Lo, r.Hi) from (by rw [← hlast] at e2; exact e2), Option.bind_some]
              dsimp only
              rw [show w64 (last - last) = 0 by rw [w64_id (by omega) (by omega)]; omega, show nspeculumref08_aged k a _ 0 = some (agd a r 0) from aged_any k N, Option.bind_some, agd_zero B.r0 (by have := B.r0; have := B.r1; omega)]
            have hdn := down k A hge d0 dl ⟨B.r0, B.r1, B.r2⟩ least s t f2 g2 f4 f5 g4 g5 (100001 - last).toNat k 100001 100001 100000 (by omega) (by omega) (by omega) (by split <;> omega) (by split <;> omega)
            rw [if_pos hi, f1, Option.bind_some, g1, Option.bind_some, Option.bind_some, if_pos ha, Option.bind_some, if_pos h1, Option.bind_some, if_neg (by omega), within_base, Option.bind_some, if_pos hi, if_pos hif, hge, hbr, Option.bind_some, hdn, Option.bind_some, Option.bind_some]
            dsimp only
            rw [if_pos rfl, if_pos (by simp), if_pos rfl]
            by_cases c1 : 100000 < last + s
            · rw [if_pos c1]
            · rw [if_neg c1, if_pos hif]
              by_cases c2 : last + s ≤ last
              · rw [if_pos c2]
              · obtain ⟨fa, ra, la, a1, a2, a3, a4⟩ := film_on k (by omega) hk2 ha h1 (D := last + s) (D2 := (ge l (l.length - 1)).Day) (inR_t.2 ⟨by omega, by omega⟩) (fun j hj => by have := hD2 j hj; omega) hD2
                obtain ⟨fb, rb, lb, b1, b2, b3, b4⟩ := film_on k (by omega) hk2 ha h1 (D := last + s - 1) (D2 := (ge l (l.length - 1)).Day) (inR_t.2 ⟨by omega, by omega⟩) (fun j hj => by have := hD2 j hj; omega) hD2
                rw [e2] at a2 b2
                have x1 : la = last ∧ ra = r := by
                  injection a2 with a2; injection a2 with y1 y2; injection y2 with y2 y3
                  exact ⟨y1.symm, by cases ra; cases r; simp at y2 y3; rw [y2, y3]⟩
                have x2 : lb = last ∧ rb = r := by
                  injection b2 with b2; injection b2 with y1 y2; injection y2 with y2 y3
                  exact ⟨y1.symm, by cases rb; cases r; simp at y2 y3; rw [y2, y3]⟩
                obtain ⟨rfl, rfl⟩ := x1
                obtain ⟨rfl, rfl⟩ := x2
                have u1 := bright_at k A a1 a3 hn (a4 hn).1 (by omega) (by omega)
                have u2 := bright_at k A b1 b3 hn (b4 hn).1 (by omega) (by omega)
                have v1 := f5 s (by omega) (by omega)
                have v2 := f4 (s - 1) (by omega) (by omega)
                rw [if_neg c2, u1, Option.bind_some, w64_id (by omega) (by omega), u2, Option.bind_some, if_pos rfl, if_pos rfl]
                dsimp only
                rw [if_pos (by rw [show lb + s - lb = s by omega]; exact v1), show lb + s - 1 - lb = s - 1 by omega]
                congr 1
                exact decide_eq_true (by omega)
          · rw [if_neg hi, Option.bind_some, if_pos ha, Option.bind_some, if_pos h1, Option.bind_some, if_neg (by omega), within_base, Option.bind_some, if_neg hi, Option.bind_some]
            rfl
        · rw [if_neg (show ¬ f.isOn = true by rw [e3.on, decide_eq_false hn]; decide), hst, Option.bind_some, if_pos ha, Option.bind_some, if_pos h1, Option.bind_some, if_pos (by omega), Option.bind_some]
          rfl
      · have hd : ncoat_DueDays k a l least = some (⟨0, 0⟩, (hiE a.Washes l).2) := by
          unfold ncoat_DueDays ncoat_rightFilmOn
          rw [history_coat k (by omega) hk2 a l, Option.bind_some, if_pos ha, if_neg h1, Option.bind_some, if_neg h1]
        rw [hd, Option.bind_some, if_pos ha, Option.bind_some, if_neg h1, if_pos rfl]; rfl
    · have hd : ncoat_DueDays k a l least = some (⟨0, 0⟩, agE a) := by
        unfold ncoat_DueDays ncoat_rightFilmOn
        rw [history_coat k (by omega) hk2 a l, Option.bind_some, if_neg ha, if_neg ha, Option.bind_some, if_neg ha]
      rw [hd, Option.bind_some, if_neg ha, Option.bind_some, if_neg ha, if_pos rfl]; rfl
theorem vc_due (a : SAging) (l : List SCoatEvent) (least : Int) : VC Go.Proofs.Try.prog 3 [VV.ag (c_SAging a), VV.tr (l.flatMap c_SCoatEvent) l.length, vi least] (vb true) := nspeculumlaw08_CoatDue_ok _ _ _ _ _ (law_due 100000000 (by omega) (by omega) a l least)
end Go.Proofs.Ytjblkmdfjadboaa.Vg

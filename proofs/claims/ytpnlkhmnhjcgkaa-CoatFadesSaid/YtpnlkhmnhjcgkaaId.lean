/- Law of fading. -/
import Derived.Test.YtpnlkhmnhjcgkaaI3
import Derived.Test.YtpnlkhmnhjcgkaaIc
set_option linter.unusedVariables false
set_option linter.unusedSimpArgs false
namespace Go.Proofs.Ytpnlkhmnhjcgkaa.Vg
open Go Go.Proofs.Ytpnlkhmnhjcgkaa.Ev Go.Proofs.Ytpnlkhmnhjcgkaa.Vv
/-- brightness and its day behind all events. -/
def brF (a : SAging) (l : List SCoatEvent) : Nat → Nat → SRange → Int → SRange × Int
  | 0, _, r, last => (r, last)
  | d + 1, i, r, last => if (ge l i).Kind = 0 then brF a l d (i + 1) a.Fresh (ge l i).Day else if (ge l i).Kind = 1 then brF a l d (i + 1) (wsh a r ((ge l i).Day - last)) (ge l i).Day else brF a l d (i + 1) r last
theorem brF_succ (a : SAging) (l : List SCoatEvent) (d i : Nat) (r : SRange) (last : Int) : brF a l (d + 1) i r last = if (ge l i).Kind = 0 then brF a l d (i + 1) a.Fresh (ge l i).Day else if (ge l i).Kind = 1 then brF a l d (i + 1) (wsh a r ((ge l i).Day - last)) (ge l i).Day else brF a l d (i + 1) r last := rfl
structure BQ (l : List SCoatEvent) (i : Nat) (r : SRange) (last : Int) : Prop where
  d0 : 0 ≤ last
  d1 : last ≤ 100000
  r0 : 0 ≤ r.Lo
  r1 : r.Lo ≤ r.Hi
  r2 : r.Hi ≤ 1000
  le : ∀ j, i ≤ j → j < l.length → last ≤ (ge l j).Day
theorem BQ.num {a : SAging} (A : AgOK a) {l : List SCoatEvent} {i : Nat} {r : SRange} {last : Int} (B : BQ l i r last) {D : Int} (h : last ≤ D) (hD : D ≤ 100000) : Num a r (D - last) :=
  ⟨A.l.1, A.l.2.1, A.l.2.2, B.r0, B.r1, B.r2, by omega, by have := B.d0; omega⟩
theorem stF_drop {W n : Int} {l : List SCoatEvent} {i : Nat} (h : i < l.length) : stF W n (l.drop i) = stF W (stp W n (ge l i).Kind) (l.drop (i + 1)) := by
  rw [drop_get h default]; rfl
/-- the step of what is known. -/
theorem BQ.step {a : SAging} (A : AgOK a) {l : List SCoatEvent} (hm : ∀ i j, i ≤ j → j < l.length → (ge l i).Day ≤ (ge l j).Day) {i : Nat} (hi : i < l.length) {n : Int} (hc : chk l i n = 0) {r : SRange} {last : Int} (hb : 0 ≤ n → BQ l i r last) :
    ((ge l i).Kind = 0 → BQ l (i + 1) a.Fresh (ge l i).Day) ∧ ((ge l i).Kind = 1 → 0 ≤ n ∧ BQ l i r last ∧ Num a r ((ge l i).Day - last) ∧ BQ l (i + 1) (wsh a r ((ge l i).Day - last)) (ge l i).Day) ∧ ((ge l i).Kind = 2 → ¬ 0 ≤ stp a.Washes n (ge l i).Kind) := by
  obtain ⟨g1, g2, g3, g4, g5⟩ := chk_zero hc
  obtain ⟨hday, hk⟩ := evE_kind g1
  refine ⟨fun _ => ⟨hday.1, hday.2, A.f.1, A.f.2.1, A.f.2.2, fun j h1 h2 => hm i j (by omega) h2⟩, fun hk => ?_, fun hk => ?_⟩
  · have hn : 0 ≤ n := by
      rcases Int.lt_or_le n 0 with h | h
      · have := g4.2 h; omega
      · exact h
    have B := hb hn
    have N := B.num A (B.le i (Nat.le_refl _) hi) hday.2
    have hw := wsh_in A N
    exact ⟨hn, B, N, hday.1, hday.2, hw.1, hw.2.1, hw.2.2, fun j h1 h2 => hm i j (by omega) h2⟩
  · unfold stp
    rw [if_neg (by omega), if_neg (by omega), if_pos hk]; decide
theorem bri_pure (k : Nat) {a : SAging} (A : AgOK a) {l : List SCoatEvent} (hl : l.length < 100) (hm : ∀ i j, i ≤ j → j < l.length → (ge l i).Day ≤ (ge l j).Day) {D : Int} (hD : D ≤ 100000) (hall : ∀ j, j < l.length → (ge l j).Day ≤ D) : ∀ (d fuel i : Nat) (n : Int) (r : SRange) (last : Int), l.length = i + d → d < fuel →
    hisL a.Washes l d i n = .inr () → (0 ≤ n → BQ l i r last) →
    nspeculumref08_Bright_l0_0 k a l D fuel r.Lo r.Hi last (i : Int) = some ((brF a l d i r last).2, (brF a l d i r last).1.Lo, (brF a l d i r last).1.Hi) ∧ (0 ≤ stF a.Washes n (l.drop i) → BQ l l.length (brF a l d i r last).1 (brF a l d i r last).2 ∧ (0 < d ∨ last ≤ D → (brF a l d i r last).2 ≤ D)) := by
  intro d
  induction d with
  | zero =>
    intro fuel i n r last h hf _ hb
    obtain ⟨g, rfl⟩ : ∃ g, fuel = g + 1 := ⟨fuel - 1, by omega⟩
    rw [nspeculumref08_Bright_l0_0.eq_2, if_neg (by omega), List.drop_eq_nil_of_le (by omega)]
    refine ⟨rfl, fun hn => ?_⟩
    have B := hb hn
    exact ⟨⟨B.d0, B.d1, B.r0, B.r1, B.r2, fun j h1 h2 => by omega⟩, fun h => by rcases h with h | h; omega; exact h⟩
  | succ d ih =>
    intro fuel i n r last h hf hh hb
    obtain ⟨g, rfl⟩ : ∃ g, fuel = g + 1 := ⟨fuel - 1, by omega⟩
    rw [hisL_succ] at hh
    by_cases hc : chk l i n = 0
    case neg => rw [if_neg hc] at hh; cases hh
    rw [if_pos hc] at hh
    obtain ⟨s0, s1, s2⟩ := BQ.step A hm (show i < l.length by omega) hc hb
    obtain ⟨g1, g2, g3, g4, g5⟩ := chk_zero hc
    obtain ⟨hday, hk⟩ := evE_kind g1
    have hle := hall i (by omega)
    rw [stF_drop (show i < l.length by omega), brF_succ, nspeculumref08_Bright_l0_0.eq_2, if_pos (by omega), if_pos (by omega), w64_succ (by omega)]
    simp only [Int.toNat_natCast]
    rw [if_pos (show (ge l i).Day ≤ D from hle)]
    rcases hk with hk | hk | hk
    · have := ih g (i + 1) _ a.Fresh (ge l i).Day (by omega) (by omega) hh (fun _ => s0 hk)
      rw [if_pos hk, if_neg (show ¬ (ge l i).Kind = 1 by omega), if_pos hk]
      exact ⟨this.1, fun hn => ⟨(this.2 hn).1, fun _ => (this.2 hn).2 (.inr hle)⟩⟩
    · obtain ⟨hn, B, N, B2⟩ := s1 hk
      have h1 := agd_in N
      have fr := A.f; have b := A.b; have r2 := N.r2; have d0 := B.d0; have d1 := B.d1
      have := ih g (i + 1) _ (wsh a r ((ge l i).Day - last)) (ge l i).Day (by omega) (by omega) hh (fun _ => B2)
      rw [if_neg (show ¬ (ge l i).Kind = 0 by omega), if_pos hk, if_neg (show ¬ (ge l i).Kind = 0 by omega), if_pos hk, w64_id (n := (ge l i).Day - last) (by omega) (by omega), show nspeculumref08_aged k _ _ _ = _ from aged_any k N, Option.bind_some, w64_id (n := (agd a r ((ge l i).Day - last)).Lo + a.Back.Lo) (by omega) (by omega), w64_id (n := (agd a r ((ge l i).Day - last)).Hi + a.Back.Hi) (by omega) (by omega)]
      exact ⟨this.1, fun hn => ⟨(this.2 hn).1, fun _ => (this.2 hn).2 (.inr hle)⟩⟩
    · have := ih g (i + 1) _ r last (by omega) (by omega) hh (fun h => absurd h (s2 hk))
      rw [if_neg (show ¬ (ge l i).Kind = 0 by omega), if_neg (show ¬ (ge l i).Kind = 1 by omega), if_neg (show ¬ (ge l i).Kind = 0 by omega), if_neg (show ¬ (ge l i).Kind = 1 by omega)]
      refine ⟨this.1, fun hn => ⟨(this.2 hn).1, fun _ => ?_⟩⟩
      by_cases hd : 0 < d
      · exact (this.2 hn).2 (.inl hd)
      · exfalso
        have : l.drop (i + 1) = [] := List.drop_eq_nil_of_le (by omega)
        rw [this] at hn
        exact s2 hk hn
theorem until_all (k : Nat) (l : List SCoatEvent) (hl : l.length < 100) {D : Int} (hall : ∀ j, j < l.length → (ge l j).Day ≤ D) : ∀ (d fuel i : Nat), l.length = i + d → d < fuel →
    nspeculumref08_Until_l0_0 k l D fuel (l.take i) (i : Int) = some l := by
  intro d
  induction d with
  | zero =>
    intro fuel i h hf
    obtain ⟨g, rfl⟩ : ∃ g, fuel = g + 1 := ⟨fuel - 1, by omega⟩
    rw [nspeculumref08_Until_l0_0.eq_2, if_neg (by omega), List.take_of_length_le (by omega)]
  | succ d ih =>
    intro fuel i h hf
    obtain ⟨g, rfl⟩ : ∃ g, fuel = g + 1 := ⟨fuel - 1, by omega⟩
    rw [nspeculumref08_Until_l0_0.eq_2, if_pos (by omega), if_pos (by omega), w64_succ (by omega)]
    simp only [Int.toNat_natCast]
    rw [if_pos (show (ge l i).Day ≤ D from hall i (by omega)), if_pos (by simp; omega)]
    have := ih g (i + 1) (by omega) (by omega)
    rw [take_next (by omega) default] at this
    exact this
theorem stateOn_all (k : Nat) (hk : 1000 < k) {a : SAging} (hW : 0 ≤ a.Washes ∧ a.Washes ≤ 100) {l : List SCoatEvent} (hl : l.length < 100) {D : Int} (hall : ∀ j, j < l.length → (ge l j).Day ≤ D) : nspeculumref08_StateOn k a l D = some (stF a.Washes (-1) l) := by
  unfold nspeculumref08_StateOn nspeculumref08_Until
  rw [show nspeculumref08_Until_l0_0 k l D k [] 0 = _ from until_all k l hl hall l.length k 0 (by omega) (by omega), Option.bind_some, Option.bind_some, show nspeculumref08_state k _ l = _ from state_any k a hW l (by omega) (by omega), Option.bind_some]
abbrev pr (a : SAging) (l : List SCoatEvent) : SRange × Int := brF a l l.length 0 ⟨0, 0⟩ 0
/-- the brightness on a day behind all events. -/
theorem bright_all (k : Nat) (hk : 1000 < k) (hk2 : k ≤ 1000000000) {a : SAging} (ha : agE a = 0) {l : List SCoatEvent} (hl : (hiE a.Washes l).2 = 0) (hne : 0 < l.length) (hn : 0 ≤ stF a.Washes (-1) l) {D : Int} (hD : 0 ≤ D ∧ D ≤ 100000) (hall : ∀ j, j < l.length → (ge l j).Day ≤ D) :
    ncoat_Bright k a l D = some (agd a (pr a l).1 (D - (pr a l).2), 0) ∧ BQ l l.length (pr a l).1 (pr a l).2 ∧ (pr a l).2 ≤ D := by
  have A := AgOK.of ha
  obtain ⟨h1, h2⟩ := hiE_zero hl
  have hok := his_ok _ _ _ h2
  have hm : ∀ i j, i ≤ j → j < l.length → (ge l i).Day ≤ (ge l j).Day := fun i j h1 h2 => by
    have := his_mono (l := l) (fun j j1 j2 => (hok j (by omega) (by omega)).2 j1) (j - i) i (by omega)
    rw [show i + (j - i) = j by omega] at this; exact this
  obtain ⟨p1, p2⟩ := bri_pure k A (by omega) hm hD.2 hall l.length k 0 (-1) ⟨0, 0⟩ 0 (by omega) (by omega) h2 (fun h => absurd h (by decide))
  rw [List.drop_zero] at p2
  obtain ⟨B, b1⟩ := p2 hn
  have b1 := b1 (.inl hne)
  have N := B.num A b1 hD.2
  obtain ⟨n, r, last, s1, s2, s3⟩ := on_day k hk hk2 ha hl (D := D) (inR_t.2 hD)
  rw [stateOn_all k hk A.w (by omega) hall] at s1
  injection s1 with s1
  obtain ⟨t1, t2⟩ := s3 (by omega)
  have hr : nspeculumref08_Bright k a l D = some (agd a (pr a l).1 (D - (pr a l).2)) := by
    unfold nspeculumref08_Bright
    have d0 := B.d0
    rw [show nspeculumref08_Bright_l0_0 k a l D k 0 0 0 0 = _ from p1, Option.bind_some]
    dsimp only
    rw [w64_id (n := D - (brF a l l.length 0 ⟨0, 0⟩ 0).2) (by omega) (by omega), show nspeculumref08_aged k _ _ (D - (brF a l l.length 0 ⟨0, 0⟩ 0).2) = _ from aged_any k N, Option.bind_some]
  rw [hr] at t2
  injection t2 with t2
  rw [t2]
  exact ⟨t1, B, b1⟩
theorem maxI_mono {a b : Int} (h : a ≤ b) : maxI 0 a ≤ maxI 0 b := by
  rcases maxI_cases 0 a with ⟨e1, _⟩ | ⟨e1, _⟩ <;> rcases maxI_cases 0 b with ⟨e2, _⟩ | ⟨e2, _⟩ <;> rw [e1, e2] <;> omega
theorem minI_mono {a b c : Int} (h : a ≤ b) : minI a c ≤ minI b c := by
  rcases minI_cases a c with ⟨e1, _⟩ | ⟨e1, _⟩ <;> rcases minI_cases b c with ⟨e2, _⟩ | ⟨e2, _⟩ <;> rw [e1, e2] <;> omega
/-- later, with a greater loss, from less: less is left. -/
theorem agd_mono {a b : SAging} {r s : SRange} {x y : Int} (N : Num a r x) (M : Num b s y) (hL : a.Loss.Lo ≤ b.Loss.Lo ∧ a.Loss.Hi ≤ b.Loss.Hi) (hr : s.Lo ≤ r.Lo ∧ s.Hi ≤ r.Hi) (hxy : x ≤ y) : (agd b s y).Lo ≤ (agd a r x).Lo ∧ (agd b s y).Hi ≤ (agd a r x).Hi := by
  have e1 := Int.mul_le_mul hL.1 hxy N.d0 (by have := M.l0; omega)
  have e2 := Int.mul_le_mul hL.2 hxy N.d0 (by have := M.l0; have := M.l1; omega)
  have c1 : cdiv (a.Loss.Hi * x) 1000 ≤ cdiv (b.Loss.Hi * y) 1000 := Int.ediv_le_ediv (by decide) (by omega)
  have c2 : a.Loss.Lo * x / 1000 ≤ b.Loss.Lo * y / 1000 := Int.ediv_le_ediv (by decide) e1
  exact ⟨maxI_mono (by omega), maxI_mono (by omega)⟩
theorem brF_le {a b : SAging} (A : AgOK a) (B : AgOK b) (hF : b.Fresh = a.Fresh) (hB : b.Back = a.Back) (hW : b.Washes = a.Washes) (hL : a.Loss.Lo ≤ b.Loss.Lo ∧ a.Loss.Hi ≤ b.Loss.Hi) {l : List SCoatEvent} (hm : ∀ i j, i ≤ j → j < l.length → (ge l i).Day ≤ (ge l j).Day) : ∀ (d i : Nat) (n : Int) (r s : SRange) (last : Int), l.length = i + d →
    hisL a.Washes l d i n = .inr () → (0 ≤ n → BQ l i r last ∧ BQ l i s last ∧ s.Lo ≤ r.Lo ∧ s.Hi ≤ r.Hi) → 0 ≤ stF a.Washes n (l.drop i) →
    (brF b l d i s last).2 = (brF a l d i r last).2 ∧ (brF b l d i s last).1.Lo ≤ (brF a l d i r last).1.Lo ∧ (brF b l d i s last).1.Hi ≤ (brF a l d i r last).1.Hi := by
  intro d
  induction d with
  | zero =>
    intro i n r s last h _ hb hn
    rw [List.drop_eq_nil_of_le (by omega)] at hn
    have := hb hn
    exact ⟨rfl, this.2.2⟩
  | succ d ih =>
    intro i n r s last h hh hb hn
    rw [hisL_succ] at hh
    by_cases hc : chk l i n = 0
    case neg => rw [if_neg hc] at hh; cases hh
    rw [if_pos hc] at hh
    obtain ⟨s0, s1, s2⟩ := BQ.step A hm (show i < l.length by omega) hc (fun h => (hb h).1)
    obtain ⟨u0, u1, u2⟩ := BQ.step B hm (show i < l.length by omega) hc (fun h => (hb h).2.1)
    obtain ⟨g1, g2, g3, g4, g5⟩ := chk_zero hc
    obtain ⟨hday, hk⟩ := evE_kind g1
    rw [stF_drop (show i < l.length by omega)] at hn
    rw [brF_succ, brF_succ]
    rcases hk with hk | hk | hk
    · rw [if_pos hk, if_pos hk, hF]
      exact ih (i + 1) _ a.Fresh a.Fresh _ (by omega) hh (fun _ => ⟨s0 hk, s0 hk, Int.le_refl _, Int.le_refl _⟩) hn
    · obtain ⟨hn0, B1, N1, B2⟩ := s1 hk
      obtain ⟨_, C1, M1, C2⟩ := u1 hk
      have hrs := (hb hn0).2.2
      have hag := agd_mono N1 M1 hL hrs (Int.le_refl _)
      rw [if_neg (show ¬ (ge l i).Kind = 0 by omega), if_pos hk, if_neg (show ¬ (ge l i).Kind = 0 by omega), if_pos hk]
      refine ih (i + 1) _ _ _ _ (by omega) hh (fun _ => ⟨B2, C2, ?_, ?_⟩) hn
      · unfold wsh; rw [hF, hB]; exact minI_mono (by omega)
      · unfold wsh; rw [hF, hB]; exact minI_mono (by omega)
    · rw [if_neg (show ¬ (ge l i).Kind = 0 by omega), if_neg (show ¬ (ge l i).Kind = 1 by omega), if_neg (show ¬ (ge l i).Kind = 0 by omega), if_neg (show ¬ (ge l i).Kind = 1 by omega)]
      exact ih (i + 1) _ r s last (by omega) hh (fun h => absurd h (s2 hk)) hn
theorem law_fades (k : Nat) (hk : 1000 < k) (hk2 : k ≤ 1000000000) (a : SAging) (l : List SCoatEvent) (c : A44) : nspeculumlaw08_CoatFades k a l c = some true := by
  obtain ⟨x, y⟩ := c
  unfold nspeculumlaw08_CoatFades
  obtain ⟨b, hb, hlen⟩ := past_any k (by omega) l
  rw [show nawake k = some true from rfl, Option.bind_some, if_pos rfl, hb, Option.bind_some]
  cases b with
  | false => rfl
  | true =>
    have hlen := hlen rfl
    rw [if_pos rfl, show nspeculumlaw08_past k _ l = _ from past_ref k hk a l, Option.bind_some]
    by_cases e : (if agE a = 0 then (hiE a.Washes l).2 else agE a) = 0
    case neg => rw [if_neg e]
    have ha : agE a = 0 := by
      by_cases c : agE a = 0
      · exact c
      · rw [if_neg c] at e; exact absurd e c
    have hh : (hiE a.Washes l).2 = 0 := by rw [if_pos ha] at e; exact e
    have A := AgOK.of ha
    obtain ⟨h1, h2⟩ := hiE_zero hh
    have hok := his_ok _ _ _ h2
    have hm : ∀ i j, i ≤ j → j < l.length → (ge l i).Day ≤ (ge l j).Day := fun i j h1 h2 => by
      have := his_mono (l := l) (fun j j1 j2 => (hok j (by omega) (by omega)).2 j1) (j - i) i (by omega)
      rw [show i + (j - i) = j by omega] at this; exact this
    rw [if_pos e]
    by_cases c0 : (l.length : Int) = 0
    · rw [if_pos c0]
    rw [if_neg c0, show nspeculumref08_StateOn k _ l 100000 = _ from stateOn_all k hk A.w (by omega) (fun j hj => (evE_kind (hok j (by omega) (by omega)).1).1.2), Option.bind_some]
    by_cases c1 : stF a.Washes (-1) l < 0
    · rw [if_pos c1]
    rw [if_neg c1, w64_pred (by omega) (by omega), if_pos (by omega), within_base, Option.bind_some, within_base, Option.bind_some]
    simp only [Int.toNat_natCast]
    by_cases c2 : inR (l.getD (l.length - 1) default).Day 100000 x = true
    case neg => rw [if_neg c2]
    rw [if_pos c2]
    by_cases c3 : inR x 100000 y = true
    case neg => rw [if_neg c3]
    rw [if_pos c3, events_any k (by omega), Option.bind_some]
    have c2 := inR_t.1 c2
    have c3 := inR_t.1 c3
    have d0 := (evE_kind (hok (l.length - 1) (by omega) (by omega)).1).1.1
    have c2' : (ge l (l.length - 1)).Day ≤ x ∧ x ≤ 100000 := c2
    have hx : ∀ j, j < l.length → (ge l j).Day ≤ x := fun j hj => by have := hm j (l.length - 1) (by omega) (by omega); omega
    have hy : ∀ j, j < l.length → (ge l j).Day ≤ y := fun j hj => by have := hx j hj; omega
    have hl := A.l
    have m1 := minI_cases (a.Loss.Lo + 5) 1000
    have m2 := minI_cases (a.Loss.Hi + 5) 1000
    have hbg : agE ⟨a.Fresh, ⟨minI (a.Loss.Lo + 5) 1000, minI (a.Loss.Hi + 5) 1000⟩, a.Back, a.Washes⟩ = 0 := by
      unfold agE
      dsimp only
      rw [rgB_t.2 A.f, rgB_t.2 A.b, show rgB ⟨minI (a.Loss.Lo + 5) 1000, minI (a.Loss.Hi + 5) 1000⟩ = true from rgB_t.2 (by dsimp only; omega), inR_t.2 A.w]
      rfl
    have B := AgOK.of hbg
    obtain ⟨q1, q2, q3⟩ := bright_all k hk hk2 ha hh (by omega) (by omega) (D := x) (by omega) hx
    obtain ⟨q4, q5, q6⟩ := bright_all k hk hk2 ha hh (by omega) (by omega) (D := y) (by omega) hy
    obtain ⟨q7, q8, q9⟩ := bright_all k hk hk2 (a := ⟨a.Fresh, ⟨minI (a.Loss.Lo + 5) 1000, minI (a.Loss.Hi + 5) 1000⟩, a.Back, a.Washes⟩) hbg hh (by omega) (show 0 ≤ stF a.Washes (-1) l by omega) (D := y) (by omega) hy
    have hle := brF_le A B rfl rfl rfl (by dsimp only; omega) hm l.length 0 (-1) ⟨0, 0⟩ ⟨0, 0⟩ 0 (by omega) h2 (fun h => absurd h (by decide)) (by rw [List.drop_zero]; omega)
    have N1 := q2.num A q3 (D := x) (by omega)
    have N2 := q5.num A q6 (D := y) (by omega)
    have N3 := q8.num B q9 (D := y) (by omega)
    have r1 := agd_mono N1 N2 ⟨Int.le_refl _, Int.le_refl _⟩ ⟨Int.le_refl _, Int.le_refl _⟩ (by omega)
    have r2 := agd_mono N2 N3 (by dsimp only; omega) hle.2 (by have e : (pr _ l).2 = (pr a l).2 := hle.1; rw [e]; exact Int.le_refl _)
    have r3 := agd_in N1
    rw [w64_id (n := a.Loss.Lo + 5) (by omega) (by omega), w64_id (n := a.Loss.Hi + 5) (by omega) (by omega)]
    rw [show ncoat_Bright k _ l x = _ from q1, Option.bind_some, show ncoat_Bright k ⟨⟨a.Fresh.Lo, a.Fresh.Hi⟩, ⟨a.Loss.Lo, a.Loss.Hi⟩, ⟨a.Back.Lo, a.Back.Hi⟩, a.Washes⟩ l y = _ from q4, Option.bind_some, show ncoat_Bright k _ l y = _ from q7, Option.bind_some]
    dsimp only
    rw [if_pos rfl, if_pos rfl, if_pos rfl, if_pos r1.1, if_pos r1.2, if_pos r2.1, if_pos r2.2, decide_eq_true r3.2.1]
theorem vc_fades (a : SAging) (l : List SCoatEvent) (c : A44) : VC Go.Proofs.Try.prog 15 [VV.ag [vi a.Fresh.Lo, vi a.Fresh.Hi, vi a.Loss.Lo, vi a.Loss.Hi, vi a.Back.Lo, vi a.Back.Hi, vi a.Washes], VV.tr (l.flatMap c_SCoatEvent) l.length, VV.ag [vi c.e0, vi c.e1]] (vb true) :=
  nspeculumlaw08_CoatFades_ok 10000 a l c true (law_fades 10000 (by decide) (by decide) a l c)
end Go.Proofs.Ytpnlkhmnhjcgkaa.Vg

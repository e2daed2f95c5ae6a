/- TopCoatWithin, plain. -/
import Derived.Test.YtfdmpodpglppbaaTC3
import Derived.Test.YtfdmpodpglppbaaTCc
set_option linter.unusedVariables false
set_option linter.unusedSimpArgs false
namespace Go.Proofs.Ytfdmpodpglppbaa.Vg
open Go Go.Proofs.Ytfdmpodpglppbaa.Ev Go.Proofs.Ytfdmpodpglppbaa.Vv
theorem law_within (k : Nat) (hk : 200003 ≤ k) (hk2 : k ≤ 1000000000) (a : SAging) (l : List SCoatEvent) (x : SDoom) : nspeculumtop_TopCoatWithin k a l x = some true := by
  unfold nspeculumtop_TopCoatWithin
  obtain ⟨b, hb, hlen⟩ := past_any k (by omega) l
  rw [show nawake k = some true from rfl, Option.bind_some, if_pos rfl, hb, Option.bind_some]
  cases b with
  | false => rfl
  | true =>
    have hl := hlen rfl
    rw [if_pos rfl, show nspeculumref08_CheckAging k _ = _ from aging_ref k (by omega) a, Option.bind_some]
    by_cases ha : agE a = 0
    case neg => rw [if_neg ha]
    rw [if_pos ha, show nspeculumref08_CheckHistory k _ l = _ from history_ref k (by omega) a (agE_W ha).2.2.2 l, Option.bind_some]
    by_cases h1 : (hiE a.Washes l).2 = 0
    case neg => rw [if_neg h1]
    rw [if_pos h1, within_base, Option.bind_some]
    by_cases hD : inR 0 100000 x.Day = true
    case neg => rw [if_neg hD]
    have hd := inR_t.1 hD
    have A := AgOK.of ha
    obtain ⟨q1, q2⟩ := hiE_zero h1
    have hok := his_ok _ _ _ q2
    have hday : ∀ j, j < l.length → 0 ≤ (ge l j).Day ∧ (ge l j).Day ≤ 100000 := fun j hj => (evE_kind (hok j (by omega) (by omega)).1).1
    have hm : ∀ i j, i ≤ j → j < l.length → (ge l i).Day ≤ (ge l j).Day := fun i j h1 h2 => by
      have := his_mono (l := l) (fun j j1 j2 => (hok j (by omega) (by omega)).2 j1) (j - i) i (by omega)
      rw [show i + (j - i) = j by omega] at this; exact this
    obtain ⟨f, n, last, i, e1, e2, e3, e4, e5, e6⟩ := truly k (by omega) hk2 ha h1 x.Fate hD hd (fun j _ => Iff.rfl)
    rw [if_pos hD, if_pos (by omega)]
    by_cases hn : 0 ≤ n
    case neg =>
      have : ncoat_Bright k a l x.Day = some (⟨0, 0⟩, 24) := by
        unfold ncoat_Bright
        rw [e1, Option.bind_some, if_pos rfl]
        dsimp only
        rw [if_neg (show ¬ f.isOn = true by rw [e3.on, decide_eq_false (show ¬ 0 ≤ n by omega)]; decide)]
      rw [this, Option.bind_some, if_neg (by decide), if_pos (by decide), e2, Option.bind_some]
      congr 1
      exact decide_eq_true (by omega)
    obtain ⟨B, b1, b2, b3, b4, y, hy, ty⟩ := e6 hn
    have r0 := B.r0; have r1 := B.r1; have r2 := B.r2; have d0 := B.d0
    have N := A.num B b1 hd.2
    have hin := agd_in N
    rw [bright_at k A e1 e3 hn B b1 hd.2, Option.bind_some, if_pos rfl]
    dsimp only
    rw [show n_speculumtop_truth_on k _ l x.Day = _ from hy, Option.bind_some]
    have t1 := ty.lo; have t2 := ty.hi
    rw [w64_id (n := 1000000 * _) (by omega) (by omega), w64_id (n := 1000000 * _) (by omega) (by omega), if_neg (by omega), if_neg (by omega)]
    by_cases hl0 : (l.length : Int) = 0
    · rw [if_pos hl0]
    rw [if_neg hl0]
    have hD3 : inR 0 100000 100000 = true := by decide
    have hall : ∀ D : Int, (ge l (l.length - 1)).Day ≤ D → ∀ j, j < l.length → ((ge l j).Day ≤ 100000 ↔ (ge l j).Day ≤ D) := fun D h j hj => ⟨fun _ => by have := hm j (l.length - 1) (by omega) (by omega); omega, fun _ => (hday j hj).2⟩
    obtain ⟨f2, n2, last2, i2, g1, g2, g3, g4, g5, g6⟩ := truly k (by omega) hk2 ha h1 x.Fate hD3 (D2 := 100000) (by omega) (fun j _ => Iff.rfl)
    rw [g2, Option.bind_some]
    by_cases hn2 : n2 < 0
    · rw [if_pos hn2]
    rw [if_neg hn2, within_base, Option.bind_some]
    by_cases hi : inR 0 1000 x.Least = true
    case neg => rw [if_neg hi]
    have hi' := inR_t.1 hi
    obtain ⟨C, c1, c2, c3, c4, _⟩ := g6 (by omega)
    have hi2 : i2 = l.length := by
      rcases g5 with h | h
      · exact h
      · rcases Nat.lt_or_ge i2 l.length with h2 | h2
        · have := (hday i2 h2).2; omega
        · omega
    subst hi2
    obtain ⟨s, f1, s0, s1, s2, s3⟩ := first1 k hk A g3 C c1 x.Least
    obtain ⟨t, f3, t0, t3, t4, t5⟩ := first2 k hk A g3 C c1 x.Least
    have cr0 := C.r0; have cr1 := C.r1; have cr2 := C.r2; have cd0 := C.d0
    have num : ∀ d : Int, 0 ≤ d → d ≤ 100000 - last2 → Num a f2.bright d := fun d h1 h2 => ⟨A.l.1, A.l.2.1, A.l.2.2, C.r0, C.r1, C.r2, h1, by omega⟩
    have hst : s ≤ t := by
      rcases Int.lt_or_le t s with h | h
      · have u1 := s2 t t0 h
        have u2 := t5 t (Int.le_refl _) (by omega)
        have u3 := agd_in (num t t0 (by omega))
        omega
      · exact h
    have hdue : ncoat_DueDays k a l x.Least = some (⟨last2 + s, last2 + t⟩, 0) := by
      unfold ncoat_DueDays
      rw [g1, Option.bind_some, if_pos rfl]
      dsimp only
      rw [if_pos (show f2.isOn = true by rw [g3.on]; exact decide_eq_true (by omega)), areWithin_1 k _ _ _ (by omega) hk2, Option.bind_some, if_pos hi, f1, Option.bind_some, f3, Option.bind_some]
    have hw : w64 ((l.length : Int) - 1) = ((l.length - 1 : Nat) : Int) := by rw [w64_id (by omega) (by omega)]; omega
    have hge : (l.getD (w64 ((l.length : Int) - 1)).toNat default).Day = last2 := by rw [hw, Int.toNat_natCast]; exact c4.symm
    rw [if_pos hi, hdue, Option.bind_some, if_pos rfl, if_pos (by rw [hw]; omega), hge]
    dsimp only
    rw [within_base, Option.bind_some, if_pos (inR_t.2 ⟨by omega, by omega⟩), if_neg (by omega)]
    have on_at : ∀ D : Int, last2 ≤ D → D ≤ 100000 → ∃ x0, n_speculumtop_truth_on k ⟨a, x.Fate⟩ l D = some x0 ∧ TR (agd a f2.bright (D - last2)) x0 := fun D h1' h2' => by
      obtain ⟨f4, n4, last4, i4, m1, m2, m3, m4, m5, m6⟩ := truly k (by omega) hk2 ha h1 x.Fate hD3 (D2 := D) (by omega) (hall D (by rw [← c4]; exact h1'))
      rw [g1] at m1; injection m1 with m1; injection m1 with m1 _
      rw [g2] at m2; injection m2 with m2
      subst m1; subst m2
      obtain ⟨C4, _, _, _, _, x0, hx0, tx0⟩ := m6 (by omega)
      have : last4 = last2 := by have := C4.s; have := C.s; omega
      subst this
      exact ⟨x0, hx0, tx0⟩
    have second : (if 100000 < last2 + t then some true else (n_speculumtop_truth_on k ⟨a, x.Fate⟩ l (last2 + t)).bind fun r => some (decide (r < w64 (1000000 * x.Least)))) = some true := by
      by_cases c : 100000 < last2 + t
      · rw [if_pos c]
      · obtain ⟨x0, o1, o2⟩ := on_at (last2 + t) (by omega) (by omega)
        rw [if_neg c, o1, Option.bind_some, w64_id (by omega) (by omega)]
        have u := t5 t (Int.le_refl _) (by omega)
        have v := o2.hi
        rw [show last2 + t - last2 = t by omega] at v
        congr 1
        exact decide_eq_true (by omega)
    by_cases cs : last2 < last2 + s
    · obtain ⟨x0, o1, o2⟩ := on_at (last2 + s - 1) (by omega) (by omega)
      have u := s2 (s - 1) (by omega) (by omega)
      have v := o2.lo
      rw [show last2 + s - 1 - last2 = s - 1 by omega] at v
      rw [if_pos cs, w64_id (n := last2 + s - 1) (by omega) (by omega), show n_speculumtop_truth_on k _ l (last2 + s - 1) = _ from o1, Option.bind_some, if_neg (by rw [w64_id (by omega) (by omega)]; omega)]
      exact second
    · rw [if_neg cs]
      exact second
theorem vc_within (a : SAging) (l : List SCoatEvent) (x : SDoom) : VC Go.Proofs.Try.prog 3 [VV.ag (c_SAging a), VV.tr (l.flatMap c_SCoatEvent) l.length, VV.ag (c_SDoom x)] (vb true) := nspeculumtop_TopCoatWithin_ok _ _ _ _ _ (law_within 100000000 (by omega) (by omega) a l x)
end Go.Proofs.Ytfdmpodpglppbaa.Vg

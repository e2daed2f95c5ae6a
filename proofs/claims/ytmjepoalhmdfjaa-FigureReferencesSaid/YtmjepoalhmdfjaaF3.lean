import Derived.Test.YtmjepoalhmdfjaaF1
import Derived.Test.YtmjepoalhmdfjaaE3
set_option linter.unusedVariables false
set_option linter.unusedSimpArgs false
namespace Go.Proofs.Ytmjepoalhmdfjaa.Vg
open Go Go.Proofs.Ytmjepoalhmdfjaa.Ev Go.Proofs.Ytmjepoalhmdfjaa.Vv
section
variable {k : Nat} {m : SRemovalMap} {n : Nat}
theorem less2_p (a b : SFrac) (ha : 0 < a.Den /\ a.Den <= 40000000) (hb : 0 < b.Den /\ b.Den <= 40000000) (na : a.Num.natAbs <= 20000000000000) (nb : b.Num.natAbs <= 20000000000000) : nspeculumref06_less2 k a b = some (decide (a.Num * b.Den < b.Num * a.Den)) := by
 obtain ⟨f1, e1, c1, d1, n1⟩ := floor_p (k := k) a.Num a.Den ha.1 (by omega) (by omega)
 obtain ⟨f2, e2, c2, d2, n2⟩ := floor_p (k := k) b.Num b.Den hb.1 (by omega) (by omega)
 unfold nspeculumref06_less2
 rw [e1, Option.bind_some, e2, Option.bind_some]
 congr 1
 generalize a.Num = x1 at *
 generalize a.Den = y1 at *
 generalize b.Num = x2 at *
 generalize b.Den = y2 at *
 by_cases h : f1 = f2
 ·rw [if_pos h]
  have s1 := small_mul (x := x1 - f1 * y1) (y := y2) (by omega) (by omega)
  have s2 := small_mul (x := x2 - f2 * y2) (y := y1) (by omega) (by omega)
  rw [w64_id (n := f2 * y2) (by omega) (by omega), w64_id (n := f1 * y1) (by omega) (by omega), w64_id (n := x2 - f2 * y2) (by omega) (by omega), w64_id (n := x1 - f1 * y1) (by omega) (by omega), w64_id (n := (x2 - f2 * y2) * y1) (by omega) (by omega), w64_id (n := (x1 - f1 * y1) * y2) (by omega) (by omega)]
  have e3 : (x2 - f2 * y2) * y1 = x2 * y1 - f2 * y1 * y2 := by grind
  have e4 : (x1 - f1 * y1) * y2 = x1 * y2 - f2 * y1 * y2 := by rw [h]; grind
  congr 1
  rw [e3, e4]
  exact decide_eq_decide.2 ⟨fun g => by omega, fun g => by omega⟩
 ·rw [if_neg h]
  congr 1
  rcases Int.lt_or_le f1 f2 with c | c
  ·have := lt_mul ha.1 hb.1 c d1 c2
   exact decide_eq_decide.2 ⟨fun _ => this, fun _ => c⟩
  ·have := lt_mul hb.1 ha.1 (show f2 < f1 by omega) d2 c1
   exact decide_eq_decide.2 ⟨fun g => by omega, fun g => by omega⟩
theorem lw_congr {x y x' y' : Int} (hy : 0 < y) (hy' : 0 < y') (h : x * y' = x' * y) : lw x y = lw x' y' := by
 refine lw_eq hy (lw_low hy') ?_
 have h2 := lw_cross (x := x') hy'
 generalize (lw x' y').Num = a at *
 generalize (lw x' y').Den = b at *
 have : y' * (a * y) = y' * (x * b) := by grind
 exact Int.eq_of_mul_eq_mul_left (by omega) this
def vN (m : SRemovalMap) (n : Nat) (l : SLowerLine) : Int := l.Start.Num * l.Slope.Den * (mn m n).Den + l.Slope.Num * l.Start.Den * (mn m n).Num
def vD (m : SRemovalMap) (n : Nat) (l : SLowerLine) : Int := dD l * (mn m n).Den
def Cand (m : SRemovalMap) (n : Nat) (l : SLowerLine) (c : SFrac) (q : Prop) : Prop := Low c /\ c.Den <= 40000000 /\ c.Num.natAbs <= 20000000000000 /\ vN m n l * c.Den <= c.Num * vD m n l /\ (q -> c.Num * vD m n l = vN m n l * c.Den)
def St (m : SRemovalMap) (n : Nat) (l : SLowerLine) (b0 b1 : Int) (p : Prop) : Prop := (b0 = 0 /\ b1 = 0 /\ ¬ p) \/ Cand m n l ⟨b0, b1⟩ p
theorem vD_pos (M : OKM m n) {l : SLowerLine} (h : LO l) : 0 < vD m n l := Int.mul_pos (dD_bd h).1 (mn_low M).1.d
theorem upd {α : Type} (M : OKM m n) {l : SLowerLine} (hl : LO l) (X : Int -> Int -> Option α) {b0 b1 : Int} {c : SFrac} {p q : Prop} (hs : St m n l b0 b1 p) (hc : Cand m n l c q) :
 ∃ c0 c1, (if b1 = 0 then X c.Num c.Den else (nspeculumref06_less2 k c ⟨b0, b1⟩).bind fun r => if r = true then X c.Num c.Den else X b0 b1) = X c0 c1 /\ St m n l c0 c1 (p \/ q) := by
 obtain ⟨c1, c2, c3, c4, c5⟩ := hc
 rcases hs with ⟨h1, h2, h3⟩ | ⟨g1, g2, g3, g4, g5⟩
 ·rw [if_pos h2]
  exact ⟨_, _, rfl, .inr ⟨c1, c2, c3, c4, fun h => c5 (h.resolve_left h3)⟩⟩
 ·have g1d := g1.d
  have g1d' : 0 < b1 := g1d
  have hv := vD_pos M hl
  rw [if_neg (by omega), less2_p c ⟨b0, b1⟩ ⟨c1.d, c2⟩ ⟨g1d, g2⟩ c3 g3, Option.bind_some]
  dsimp only at g4 g5 ⊢
  have cd := c1.d
  by_cases hlt : c.Num * b1 < b0 * c.Den
  ·rw [if_pos (decide_eq_true hlt)]
   refine ⟨_, _, rfl, .inr ⟨c1, c2, c3, c4, fun h => ?_⟩⟩
   rcases h with h | h
   ·exfalso
    have e := g5 h
    have e1 := Int.mul_lt_mul_of_pos_right hlt hv
    have e2 := Int.mul_le_mul_of_nonneg_right c4 (Int.le_of_lt g1d')
    have e3 : b0 * c.Den * vD m n l = b0 * vD m n l * c.Den := by grind
    have e4 : c.Num * b1 * vD m n l = c.Num * vD m n l * b1 := by grind
    have e5 : vN m n l * c.Den * b1 = vN m n l * b1 * c.Den := by grind
    rw [e3, e, e4] at e1
    omega
   ·exact c5 h
  ·rw [if_neg (by simpa using hlt)]
   refine ⟨_, _, rfl, .inr ⟨g1, g2, g3, g4, fun h => ?_⟩⟩
   rcases h with h | h
   ·exact g5 h
   ·dsimp only
    have e := c5 h
    have e1 := Int.mul_le_mul_of_nonneg_right (show b0 * c.Den <= c.Num * b1 by omega) (Int.le_of_lt hv)
    have e3 : b0 * c.Den * vD m n l = b0 * vD m n l * c.Den := by grind
    have e4 : c.Num * b1 * vD m n l = c.Num * vD m n l * b1 := by grind
    have e5 : vN m n l * c.Den * b1 = vN m n l * b1 * c.Den := by grind
    rw [e3, e4, e, e5] at e1
    have := Int.le_of_mul_le_mul_right e1 cd
    omega
theorem St.mono {l : SLowerLine} {b0 b1 : Int} {p q : Prop} (h : St m n l b0 b1 p) (hpq : p ↔ q) : St m n l b0 b1 q := by
 rw [<- propext hpq]; exact h
theorem cand_one (M : OKM m n) {l : SLowerLine} {a b i j : Nat} (F : Found m n l a b) (hi : i < n) (hq : qq m i = qq m j) (h1 : qq m i * (mn m n).Den <= (mn m n).Num) (h2 : (mn m n).Num <= qq m j * (mn m n).Den) : Cand m n l ⟨hh m i, 1⟩ (a = i /\ b = j) := by
 have hb := M.h i hi
 have he : qq m i * (mn m n).Den = (mn m n).Num := by rw [<- hq] at h2; omega
 have key : hh m i * vD m n l = vN m n l * 1 + (mn m n).Den * rem m l i := by
  unfold vD vN rem
  rw [<- he]; grind
 have hd := (mn_low M).1.d
 have hr := Int.mul_nonneg (Int.le_of_lt hd) (F.all i hi)
 refine ⟨⟨(show (0 : Int) < 1 by decide), (show Nat.gcd _ 1 = 1 from Nat.gcd_one_right _)⟩, (show (1 : Int) <= 40000000 by decide), (show (hh m i).natAbs <= _ by omega), ?_, ?_⟩
 ·show vN m n l * 1 <= hh m i * vD m n l
  omega
 ·rintro ⟨rfl, rfl⟩
  show hh m a * vD m n l = vN m n l * 1
  rw [key, F.r0, Int.mul_zero, Int.add_zero]
def cN (m : SRemovalMap) (n i j : Nat) : Int := hh m i * (qq m j - qq m i) * (mn m n).Den + (hh m j - hh m i) * ((mn m n).Num - qq m i * (mn m n).Den)
def cD (m : SRemovalMap) (n i j : Nat) : Int := (qq m j - qq m i) * (mn m n).Den
theorem c_bd (M : OKM m n) {i j : Nat} (hi : i < n) (hj : j < n) (hq : qq m i < qq m j) : (hh m i * (qq m j - qq m i)).natAbs <= 100000000 /\ (hh m i * (qq m j - qq m i) * (mn m n).Den).natAbs <= 4000000000000 /\ (qq m i * (mn m n).Den).natAbs <= 40000000 /\ ((hh m j - hh m i) * ((mn m n).Num - qq m i * (mn m n).Den)).natAbs <= 16000000000000 /\ 0 < cD m n i j /\ cD m n i j <= 40000000 := by
 have h1 := M.h i hi
 have h2 := M.h j hj
 have h3 := M.q i hi
 have h4 := M.q j hj
 obtain ⟨l1, l2, l3, _⟩ := mn_low M
 have l4 := l1.d
 have e1 := (thr_bd M hi hj hq).1
 have e3 := qden_bd M hi
 exact ⟨e1, Nat.le_trans (abs_mul (a := 100000000) (b := 40000) e1 (by omega)) (by omega), e3, Nat.le_trans (abs_mul (a := 200000) (b := 80000000) (by omega) (by omega)) (by omega), Int.mul_pos (by omega) l4, Int.le_trans (Int.mul_le_mul (show qq m j - qq m i <= 1000 by omega) l2 (by omega) (by omega)) (by omega)⟩
theorem cand_two (M : OKM m n) {l : SLowerLine} {a b i j : Nat} (F : Found m n l a b) (hi : i < n) (hj : j < n) (hq : qq m i < qq m j) (h1 : qq m i * (mn m n).Den <= (mn m n).Num) (h2 : (mn m n).Num <= qq m j * (mn m n).Den) : Cand m n l (lw (cN m n i j) (cD m n i j)) (a = i /\ b = j) := by
 obtain ⟨b1, b2, b3, b4, b5, b6⟩ := c_bd M hi hj hq
 have hx : (cN m n i j).natAbs <= 20000000000000 := by unfold cN; omega
 have hle := lw_le (x := cN m n i j) b5
 have hc := lw_cross (x := cN m n i j) b5
 have hd := (mn_low M).1.d
 have key : cN m n i j * vD m n l = vN m n l * cD m n i j + (mn m n).Den * ((qq m j * (mn m n).Den - (mn m n).Num) * rem m l i + ((mn m n).Num - qq m i * (mn m n).Den) * rem m l j) := by
  unfold cN cD vD vN rem; grind
 have r1 := Int.mul_nonneg (show 0 <= qq m j * (mn m n).Den - (mn m n).Num by omega) (F.all i hi)
 have r2 := Int.mul_nonneg (show 0 <= (mn m n).Num - qq m i * (mn m n).Den by omega) (F.all j hj)
 have r3 := Int.mul_nonneg (Int.le_of_lt hd) (Int.add_nonneg r1 r2)
 have lowc := lw_low (x := cN m n i j) b5
 have lcd := lowc.d
 refine ⟨lowc, by omega, by omega, ?_, ?_⟩
 ·generalize (lw (cN m n i j) (cD m n i j)).Num = N at *
  generalize (lw (cN m n i j) (cD m n i j)).Den = D at *
  have e1 : vN m n l * cD m n i j <= cN m n i j * vD m n l := by omega
  have e2 := Int.mul_le_mul_of_nonneg_right e1 (Int.le_of_lt lcd)
  have e3 : cN m n i j * vD m n l * D = cD m n i j * (N * vD m n l) := by
   have : vD m n l * (N * cD m n i j) = vD m n l * (cN m n i j * D) := by rw [hc]
   grind
  have e4 : vN m n l * cD m n i j * D = cD m n i j * (vN m n l * D) := by grind
  rw [e3, e4] at e2
  exact Int.le_of_mul_le_mul_left e2 b5
 ·rintro ⟨rfl, rfl⟩
  rw [F.r0, F.r1, Int.mul_zero, Int.mul_zero, Int.add_zero, Int.mul_zero, Int.add_zero] at key
  generalize (lw (cN m n a b) (cD m n a b)).Num = N at *
  generalize (lw (cN m n a b) (cD m n a b)).Den = D at *
  have e3 : cD m n a b * (N * vD m n l) = cD m n a b * (vN m n l * D) := by
   have : vD m n l * (N * cD m n a b) = vD m n l * (cN m n a b * D) := by rw [hc]
   grind
  exact Int.eq_of_mul_eq_mul_left (by omega) e3
theorem l2_l (hk : 9223372036854775808 < k) (M : OKM m n) {l : SLowerLine} {a b : Nat} (F : Found m n l a b) (r : Int × Int) {i : Nat} (hi : i < n) : ∀ (d fuel j : Nat) (b0 b1 : Int), n = j + d -> d < fuel -> St m n l b0 b1 (a < i \/ (a = i /\ b < j)) ->
 ∃ c0 c1, nspeculumref06_Least_l2_0 k m (mn m n) r (i : Int) fuel b0 b1 (j : Int) = some (c0, c1) /\ St m n l c0 c1 (a < i \/ (a = i /\ b < n)) := by
 have hn := M.n2
 have hl := M.ln
 have hlq := M.lq
 intro d
 induction d with
 | zero =>
   intro fuel j b0 b1 he hf hs
   obtain ⟨f, rfl⟩ : ∃ f, fuel = f + 1 := ⟨fuel - 1, by omega⟩
   refine ⟨b0, b1, by rw [nspeculumref06_Least_l2_0.eq_2, if_neg (by omega)], hs.mono ?_⟩
   rw [show j = n by omega]
 | succ d ih =>
   intro fuel j b0 b1 he hf hs
   obtain ⟨f, rfl⟩ : ∃ f, fuel = f + 1 := ⟨fuel - 1, by omega⟩
   have hj : j < n := by omega
   have q1 := qden_bd M hi
   have q2 := qden_bd M hj
   have skip : ¬ (a = i /\ b = j) -> ∃ c0 c1, nspeculumref06_Least_l2_0 k m (mn m n) r (i : Int) f b0 b1 (w64 ((j : Int) + 1)) = some (c0, c1) /\ St m n l c0 c1 (a < i \/ (a = i /\ b < n)) := by
    intro hne
    rw [w64_succ (by omega)]
    exact ih f (j + 1) b0 b1 (by omega) (by omega) (hs.mono ⟨fun h => by omega, fun h => by omega⟩)
   have take : ∀ c, Cand m n l c (a = i /\ b = j) -> ∃ c0 c1, (if b1 = 0 then nspeculumref06_Least_l2_0 k m (mn m n) r (i : Int) f c.Num c.Den (w64 ((j : Int) + 1)) else (nspeculumref06_less2 k c ⟨b0, b1⟩).bind fun r' => if r' = true then nspeculumref06_Least_l2_0 k m (mn m n) r (i : Int) f c.Num c.Den (w64 ((j : Int) + 1)) else nspeculumref06_Least_l2_0 k m (mn m n) r (i : Int) f b0 b1 (w64 ((j : Int) + 1))) = some (c0, c1) /\ St m n l c0 c1 (a < i \/ (a = i /\ b < n)) := by
    intro c hc
    obtain ⟨c0, c1, e, hs'⟩ := upd (k := k) M F.lo (fun x y => nspeculumref06_Least_l2_0 k m (mn m n) r (i : Int) f x y (w64 ((j : Int) + 1))) hs hc
    rw [e, w64_succ (by omega)]
    exact ih f (j + 1) c0 c1 (by omega) (by omega) (hs'.mono ⟨fun h => by omega, fun h => by omega⟩)
   rw [nspeculumref06_Least_l2_0.eq_2, if_pos (show (j : Int) < (m.Q.length : Int) by omega), if_pos (show 0 <= (i : Int) /\ (i : Int) < (m.Q.length : Int) by omega), if_pos (show 0 <= (j : Int) /\ (j : Int) < (m.Q.length : Int) by omega), if_pos (show 0 <= (i : Int) /\ (i : Int) < (m.Heights.length : Int) by omega), if_pos (show 0 <= (j : Int) /\ (j : Int) < (m.Heights.length : Int) by omega), if_pos (show 0 <= (j : Int) /\ (j : Int) < (m.Heights.length : Int) by omega), Int.toNat_natCast, Int.toNat_natCast]
   rw [show m.Q.getD i 0 = qq m i from rfl, show m.Q.getD j 0 = qq m j from rfl, show m.Heights.getD i 0 = hh m i from rfl, show m.Heights.getD j 0 = hh m j from rfl, w64_id (n := qq m i * (mn m n).Den) (by omega) (by omega), w64_id (n := qq m j * (mn m n).Den) (by omega) (by omega)]
   by_cases c1 : (mn m n).Num < qq m i * (mn m n).Den
   ·rw [if_pos c1]
    refine skip fun ⟨h1, h2⟩ => ?_
    have := F.qa
    rw [h1] at this
    omega
   rw [if_neg c1]
   by_cases c2 : qq m j * (mn m n).Den < (mn m n).Num
   ·rw [if_pos c2]
    refine skip fun ⟨h1, h2⟩ => ?_
    have := F.qb
    rw [h2] at this
    omega
   rw [if_neg c2]
   by_cases c3 : qq m i = qq m j
   ·rw [if_pos c3]
    by_cases c4 : hh m j < hh m i
    ·rw [if_pos c4]
     refine skip fun ⟨h1, h2⟩ => ?_
     have ra := F.r0
     have rb := F.r1
     rw [h1] at ra
     rw [h2] at rb
     unfold rem at ra rb
     rw [c3] at ra
     have := Int.mul_lt_mul_of_pos_right c4 (dD_bd F.lo).1
     omega
    ·rw [if_neg c4]
     exact take ⟨hh m i, 1⟩ (cand_one M F hi c3 (by omega) (by omega))
   ·rw [if_neg c3]
    have hlt := goodP_lt M c3 (show _ <= _ by omega) (show _ <= _ by omega)
    obtain ⟨b1', b2', b3', b4', b5', b6'⟩ := c_bd M hi hj hlt
    have h1 := M.h i hi
    have h2 := M.h j hj
    have h3 := M.q i hi
    have h4 := M.q j hj
    have l3 := (mn_low M).2.2.1
    have hx : (cN m n i j).natAbs <= 20000000000000 := by unfold cN; omega
    have e1 : w64 ((w64 ((w64 (hh m i * (w64 (qq m j - qq m i)))) * (mn m n).Den)) + (w64 ((w64 (hh m j - hh m i)) * (w64 ((mn m n).Num - qq m i * (mn m n).Den))))) = cN m n i j := by
     rw [w64_id (n := qq m j - qq m i) (by omega) (by omega), w64_id (n := hh m j - hh m i) (by omega) (by omega), w64_id (n := hh m i * _) (by omega) (by omega), w64_id (n := hh m i * _ * _) (by omega) (by omega), w64_id (n := (mn m n).Num - _) (by omega) (by omega), w64_id (n := (hh m j - hh m i) * _) (by omega) (by omega)]
     exact w64_id (n := cN m n i j) (by omega) (by omega)
    have e2 : w64 ((w64 (qq m j - qq m i)) * (mn m n).Den) = cD m n i j := by
     rw [w64_id (n := qq m j - qq m i) (by omega) (by omega)]
     exact w64_id (n := cD m n i j) (by omega) (by omega)
    rw [e1, e2, (lowests k hk (x := cN m n i j) (y := cD m n i j) (by omega) b5' (by omega)).1, Option.bind_some]
    exact take _ (cand_two M F hi hj hlt (by omega) (by omega))
theorem l1_l (hk : 9223372036854775808 < k) (M : OKM m n) {l : SLowerLine} {a b : Nat} (F : Found m n l a b) (r : Int × Int) : ∀ (d fuel i : Nat) (b0 b1 : Int), n = i + d -> d < fuel -> St m n l b0 b1 (a < i) ->
 ∃ c0 c1, nspeculumref06_Least_l1_0 k m (mn m n) r fuel b0 b1 (i : Int) = some (c0, c1) /\ St m n l c0 c1 (a < n) := by
 have hn := M.n2
 have hlq := M.lq
 intro d
 induction d with
 | zero =>
   intro fuel i b0 b1 he hf hs
   obtain ⟨f, rfl⟩ : ∃ f, fuel = f + 1 := ⟨fuel - 1, by omega⟩
   refine ⟨b0, b1, by rw [nspeculumref06_Least_l1_0.eq_2, if_neg (by omega)], ?_⟩
   rw [show n = i by omega] at hs ⊢; exact hs
 | succ d ih =>
   intro fuel i b0 b1 he hf hs
   obtain ⟨f, rfl⟩ : ∃ f, fuel = f + 1 := ⟨fuel - 1, by omega⟩
   obtain ⟨c0, c1, e, hs'⟩ := l2_l hk M F r (i := i) (by omega) n k 0 b0 b1 (by omega) (by omega) (hs.mono ⟨fun h => .inl h, fun h => by omega⟩)
   rw [nspeculumref06_Least_l1_0.eq_2, if_pos (by omega), show nspeculumref06_Least_l2_0 k m (mn m n) r (i : Int) k b0 b1 0 = _ from e, Option.bind_some, w64_succ (by omega)]
   have hb := F.bn
   exact ih f (i + 1) c0 c1 (by omega) (by omega) (hs'.mono ⟨fun h => by omega, fun h => by omega⟩)
def wh (m : SRemovalMap) (i : Nat) : Int := ww m i * hh m i
theorem wh_bd (M : OKM m n) {i : Nat} (hi : i < n) : (wh m i).natAbs <= 100000000 := by
 have h1 := M.w i hi
 have h2 := M.h i hi
 exact Nat.le_trans (abs_mul (a := 1000) (b := 100000) (by omega) (by omega)) (by omega)
theorem wh_sum (M : OKM m n) {i : Nat} (hi : i <= n) : (sumF (wh m) i).natAbs <= 4000000000 := by
 have h1 := sumF_le (f := wh m) (a := 100000000) i (fun j hj => by have := wh_bd M (i := j) (by omega); omega)
 have h2 := sumF_ge (f := wh m) (a := -100000000) i (fun j hj => by have := wh_bd M (i := j) (by omega); omega)
 have := M.n2
 omega
theorem sums_l (M : OKM m n) (f0 : SFrac) : ∀ (d fuel i : Nat), n = i + d -> d < fuel -> nspeculumref06_Least_l0_0 k m f0 fuel (sumF (ww m) i) (sumF (wh m) i) (i : Int) = some (sumF (ww m) n, sumF (wh m) n) := by
 have hn := M.n2
 have hl := M.ln
 have hlq := M.lq
 have hlw := M.lw
 intro d
 induction d with
 | zero =>
   intro fuel i he hf
   obtain ⟨f, rfl⟩ : ∃ f, fuel = f + 1 := ⟨fuel - 1, by omega⟩
   rw [nspeculumref06_Least_l0_0.eq_2, if_neg (by omega), show i = n by omega]
 | succ d ih =>
   intro fuel i he hf
   obtain ⟨f, rfl⟩ : ∃ f, fuel = f + 1 := ⟨fuel - 1, by omega⟩
   have b1 := wh_bd M (i := i) (by omega)
   have b2 := wh_sum M (i := i) (by omega)
   have b3 := M.w i (by omega)
   have b4 := part_bd M.w (i := i) (by omega)
   rw [nspeculumref06_Least_l0_0.eq_2, if_pos (by omega), if_pos (by omega), if_pos (by omega), Int.toNat_natCast, w64_succ (by omega)]
   show nspeculumref06_Least_l0_0 k m f0 f (w64 (_ + ww m i)) (w64 (_ + w64 (wh m i))) _ = _
   rw [w64_id (n := wh m i) (by omega) (by omega), w64_id (n := _ + wh m i) (by omega) (by omega), w64_id (n := _ + ww m i) (by omega) (by omega)]
   exact ih f (i + 1) (by omega) (by omega)
theorem wr_parts (l : SLowerLine) (i : Nat) : sumF (wr m l) i = dD l * sumF (wh m) i - l.Start.Num * l.Slope.Den * sumF (ww m) i - l.Slope.Num * l.Start.Den * sumF (wq m) i := by
 induction i with
 | zero => simp [sumF]
 | succ i ih => simp only [sumF]; rw [ih]; unfold wr wh wq rem; grind
theorem refLeast_p (hk : 9223372036854775808 < k) (M : OKM m n) {l : SLowerLine} {a b : Nat} (F : Found m n l a b) : nspeculumref06_Least k m = some (leastV m n l) := by
 have hn := M.n2
 unfold nspeculumref06_Least
 have e1 : nspeculumref06_Least_l0_0 k m (mn m n) k 0 0 0 = _ := sums_l M (mn m n) n k 0 (by omega) (by omega)
 obtain ⟨c0, c1, e2, hs⟩ := l1_l hk M F (sumF (ww m) n, sumF (wh m) n) n k 0 0 0 (by omega) (by omega) (.inl ⟨rfl, rfl, by omega⟩)
 have e2' : nspeculumref06_Least_l1_0 k m (mn m n) (sumF (ww m) n, sumF (wh m) n) k 0 0 0 = some (c0, c1) := e2
 rw [(means hk M).2, Option.bind_some, e1, Option.bind_some, e2', Option.bind_some]
 rcases hs with ⟨_, _, h⟩ | ⟨h1, h2, h3, _, h5⟩
 ·exact absurd F.an h
 have h5 := h5 F.an
 have hc1 := h1.d
 dsimp only at h2 h3 h5 hc1 ⊢
 have hW := (mean_bd M).2
 have b1 := wh_sum M (i := n) (Nat.le_refl _)
 have p1 : (sumF (wh m) n * c1).natAbs <= 160000000000000000 := Nat.le_trans (abs_mul (a := 4000000000) (b := 40000000) b1 (by omega)) (by omega)
 have p2 : (sumF (ww m) n * c0).natAbs <= 800000000000000000 := Nat.le_trans (abs_mul (a := 40000) (b := 20000000000000) (by unfold meanW at hW; omega) h3) (by omega)
 rw [w64_id (n := sumF (wh m) n * c1) (by omega) (by omega), w64_id (n := sumF (ww m) n * c0) (by omega) (by omega), w64_id (n := sumF (wh m) n * c1 - _) (by omega) (by omega), (lowests k hk (x := sumF (wh m) n * c1 - sumF (ww m) n * c0) (y := c1) (by omega) hc1 (by omega)).1, Option.bind_some]
 congr 1
 unfold leastV
 refine lw_congr hc1 (dD_bd F.lo).1 ?_
 rw [wr_parts]
 have hd := (mn_low M).1.d
 have hc := (mn_low M).2.2.2
 unfold vD vN at h5
 unfold meanW meanS at hc
 generalize (mn m n).Den = D at *
 generalize (mn m n).Num = N at *
 generalize l.Start.Num * l.Slope.Den = A at *
 generalize l.Slope.Num * l.Start.Den = B at *
 generalize dD l = d at *
 generalize sumF (ww m) n = W at *
 generalize sumF (wh m) n = H at *
 generalize sumF (wq m) n = S at *
 have key : D * (W * c0 * d) = D * (c1 * (A * W + B * S)) := by
  have e3 : W * (c0 * (d * D)) = W * ((A * D + B * N) * c1) := by rw [h5]
  have e4 : B * c1 * (N * W) = B * c1 * (S * D) := by rw [hc]
  grind
 have key := Int.eq_of_mul_eq_mul_left (by omega) key
 grind
theorem refLine_p (hk : 9223372036854775808 < k) {l : SLowerLine} (h : LO l) : nspeculumref06_CheckLine (k + 3) l = some 0 := by
 have s1 := h.sd
 have s2 := h.td
 have s3 := h.sn
 have s4 := h.tn
 have f0 : nspeculumref06_CheckLine_l0_0 (k + 3) l (k + 3) 0 = some (.inr ()) := by
  rw [nspeculumref06_CheckLine_l0_0.eq_2, if_pos (by decide), if_pos rfl]
  change Option.bind (nspeculumbase_IsLowest (k + 3) l.Start) _ = _
  rw [(isLow_b (k + 3) (by omega) h.s (by omega)).1, Option.bind_some, if_pos rfl, nspeculumref06_CheckLine_l0_0.eq_2, if_pos (by decide), if_neg (by decide), if_pos (by decide)]
  change Option.bind (nspeculumbase_IsLowest (k + 3) l.Slope) _ = _
  rw [(isLow_b (k + 3) (by omega) h.t (by omega)).1, Option.bind_some, if_pos rfl, nspeculumref06_CheckLine_l0_0.eq_2, if_neg (by decide)]
 have e2 : nspeculumref06_CheckLine_l1_0 (k + 3) l (k + 3) 0 = some (.inr ()) := by
  rw [nspeculumref06_CheckLine_l1_0.eq_2, if_pos (by decide), if_pos rfl, if_neg (by omega), within_base, Option.bind_some, if_pos (decide_eq_true (by omega)), nspeculumref06_CheckLine_l1_0.eq_2, if_pos (by decide), if_neg (by decide), if_pos (by decide), if_neg (by omega), within_base, Option.bind_some, if_pos (decide_eq_true (by omega)), nspeculumref06_CheckLine_l1_0.eq_2, if_neg (by decide)]
 unfold nspeculumref06_CheckLine
 rw [f0, Option.bind_some]
 dsimp only
 rw [e2]; rfl
theorem dugR_l (hk : 9223372036854775808 < k) (M : OKM m n) {l : SLowerLine} (h : LO l) (ha : ∀ i, i < n -> 0 <= rem m l i) : ∀ (d fuel i : Nat), n = i + d -> d < fuel -> nspeculumref06_CheckReference_l0_0 k m l fuel (i : Int) = some (.inr ()) := by
 have hn := M.n2
 have hl := M.ln
 intro d
 induction d with
 | zero =>
   intro fuel i he hf
   obtain ⟨f, rfl⟩ : ∃ f, fuel = f + 1 := ⟨fuel - 1, by omega⟩
   rw [nspeculumref06_CheckReference_l0_0.eq_2, if_neg (by omega)]
 | succ d ih =>
   intro fuel i he hf
   obtain ⟨f, rfl⟩ : ∃ f, fuel = f + 1 := ⟨fuel - 1, by omega⟩
   rw [nspeculumref06_CheckReference_l0_0.eq_2, if_pos (by omega), refRem_p hk M h (by omega), Option.bind_some, if_neg (fun c => by have := (lwr (r := rem m l i) (dD_bd h).1).1.1 c; have := ha i (by omega); omega), w64_succ (by omega)]
   exact ih f (i + 1) (by omega) (by omega)
theorem inr_bd (M : OKM m n) {a : Nat} (ha : a < n) : (0 : Int) <= (a : Int) /\ (a : Int) <= w64 ((m.Heights.length : Int) - 1) := by
 have hn := M.n2
 have hl := M.ln
 rw [w64_id (by omega) (by omega)]
 omega
theorem checkRef_p (hk : 9223372036854775808 < k) (M : OKM m n) {l : SLowerLine} {a b : Nat} (F : Found m n l a b) : nspeculumref06_CheckReference (k + 3) m l = some (0, 0) := by
 have hn := M.n2
 have hl := M.ln
 have hlq := M.lq
 have q1 := qden_bd M F.an
 have q2 := qden_bd M F.bn
 have q3 := F.qa
 have q4 := F.qb
 have e0 : nspeculumref06_CheckReference_l0_0 (k + 3) m l (k + 3) 0 = _ := dugR_l (by omega) M F.lo F.all n (k + 3) 0 (by omega) (by omega)
 have e1 : nspeculumref06_CheckReference_l1_0 (k + 3) m l (k + 3) 0 = some (.inr ()) := by
  rw [nspeculumref06_CheckReference_l1_0.eq_2, if_pos (by decide), if_pos rfl, F.e0, within_base, Option.bind_some, if_pos (decide_eq_true (inr_bd M F.an)), nspeculumref06_CheckReference_l1_0.eq_2, if_pos (by decide), if_neg (by decide), if_pos (by decide), F.e1, within_base, Option.bind_some, if_pos (decide_eq_true (inr_bd M F.bn)), nspeculumref06_CheckReference_l1_0.eq_2, if_neg (by decide)]
 have z0 : (lw (rem m l a) (dD l)).Num = 0 := (lwr (dD_bd F.lo).1).2.1.2 F.r0
 have z1 : (lw (rem m l b) (dD l)).Num = 0 := (lwr (dD_bd F.lo).1).2.1.2 F.r1
 have e2 : nspeculumref06_CheckReference_l2_0 (k + 3) m l (mn m n) (k + 3) 0 = some (.inr ()) := by
  rw [nspeculumref06_CheckReference_l2_0.eq_2, if_pos (by decide), if_pos rfl, F.e0, refRem_p (by omega) M F.lo F.an, Option.bind_some, if_pos z0, nspeculumref06_CheckReference_l2_0.eq_2, if_pos (by decide), if_neg (by decide), if_pos (by decide), F.e1, refRem_p (by omega) M F.lo F.bn, Option.bind_some, if_pos z1, nspeculumref06_CheckReference_l2_0.eq_2, if_neg (by decide)]
 have ha := F.an
 have hb := F.bn
 unfold nspeculumref06_CheckReference
 rw [e0, Option.bind_some]
 dsimp only
 rw [e1, Option.bind_some]
 dsimp only
 rw [(means (by omega) M).2, Option.bind_some, e2, Option.bind_some]
 dsimp only
 rw [F.e0, F.e1, if_pos (show 0 <= (a : Int) /\ (a : Int) < (m.Q.length : Int) by omega), Int.toNat_natCast, Int.toNat_natCast, show m.Q.getD a 0 = qq m a from rfl, show m.Q.getD b 0 = qq m b from rfl, w64_id (n := qq m a * _) (by omega) (by omega), w64_id (n := qq m b * _) (by omega) (by omega), if_neg (by omega), if_pos (show 0 <= (b : Int) /\ (b : Int) < (m.Q.length : Int) by omega), if_neg (by omega)]
theorem checkFig_p (hk : 9223372036854775808 < k) (h0 : mapE m = 0) {l : SLowerLine} {a b : Nat} (F : Found m m.Heights.length l a b) : nfigure_CheckReference (k + 3) m l = some (0, 0) := by
 have M := mapE_ok h0
 have hn := M.n2
 have hlq := M.lq
 have e0 : nfigure_CheckReference_l0_0 (k + 3) m l (k + 3) 0 = some (.inr ()) := by
  rw [nfigure_CheckReference_l0_0.eq_2, if_pos (by decide), if_pos rfl, F.e0, within_fig, Option.bind_some, if_pos (decide_eq_true (inr_bd M F.an)), nfigure_CheckReference_l0_0.eq_2, if_pos (by decide), if_neg (by decide), if_pos (by decide), F.e1, within_fig, Option.bind_some, if_pos (decide_eq_true (inr_bd M F.bn)), nfigure_CheckReference_l0_0.eq_2, if_neg (by decide)]
 have e1 : nfigure_CheckReference_l1_0 (k + 3) m l (k + 3) 0 = some (.inr ()) := by
  rw [nfigure_CheckReference_l1_0.eq_2, if_pos (by decide), if_pos rfl, F.e0, (remTD_p M F.lo F.an).1, Option.bind_some, if_pos F.r0, nfigure_CheckReference_l1_0.eq_2, if_pos (by decide), if_neg (by decide), if_pos (by decide), F.e1, (remTD_p M F.lo F.bn).1, Option.bind_some, if_pos F.r1, nfigure_CheckReference_l1_0.eq_2, if_neg (by decide)]
 obtain ⟨r, d1, d2⟩ := dug_p (k := k + 3) (by omega) M F.lo
 have hc : nfigure_checkLine (k + 1 + 2) m l = some 0 := checkLine_p (by omega) h0 F.lo
 unfold nfigure_CheckReference
 change Option.bind (nfigure_checkLine (k + 1 + 2) m l) _ = _
 rw [hc, Option.bind_some, if_pos rfl, d1, Option.bind_some]
 rcases d2 with ⟨d2, _, _⟩ | ⟨_, p, hp, hneg⟩
 ·rw [if_neg (by rw [d2]; decide), e0, Option.bind_some]
  dsimp only
  rw [e1, Option.bind_some]
  dsimp only
  rw [F.e0, F.e1, areAround_p (by omega) M F.an F.bn, Option.bind_some, if_pos (show arnd m m.Heights.length a b = true from decide_eq_true ⟨F.qa, F.qb⟩)]
 ·have := F.all p hp; omega
theorem lawR_l (hk : 9223372036854775808 < k) (M : OKM m n) {l : SLowerLine} (h : LO l) (hb : RB m n l) (e : Int) (r : SFrac × Int) (r2 : Int × Int) : ∀ (d fuel i : Nat), n = i + d -> d < fuel ->
 nspeculumlaw06_FigureReferences_l0_0 k m (l, e) r r2 fuel (sumF (wr m l) i) (i : Int) = some (sumF (wr m l) n) := by
 have hn := M.n2
 have hl := M.ln
 have hw := M.lw
 have hd := dD_bd h
 intro d
 induction d with
 | zero =>
   intro fuel i he hf
   obtain ⟨f, rfl⟩ : ∃ f, fuel = f + 1 := ⟨fuel - 1, by omega⟩
   rw [nspeculumlaw06_FigureReferences_l0_0.eq_2, if_neg (by omega), show i = n by omega]
 | succ d ih =>
   intro fuel i he hf
   obtain ⟨f, rfl⟩ : ∃ f, fuel = f + 1 := ⟨fuel - 1, by omega⟩
   have b1 := wr_bd M hb (i := i) (by omega)
   have b2 := wr_sum M hb (i := i) (by omega)
   have b3 := hb i (by omega)
   have b4 := M.w i (by omega)
   obtain ⟨g1, g2, g3, g4⟩ := lwr (r := rem m l i) hd.1
   have g5 := lw_le (x := rem m l i) hd.1
   have g6 := (lw_low (x := rem m l i) hd.1).d
   have hwn : (ww m i * (lw (rem m l i) (dD l)).Num).natAbs <= 20000000000000000 := Nat.le_trans (abs_mul (a := 1000) (b := 20000000000000) (by omega) (by omega)) (by omega)
   have hpr : ww m i * (lw (rem m l i) (dD l)).Num * (dD l).tdiv (lw (rem m l i) (dD l)).Den = wr m l i := by
    rw [Int.mul_assoc, g3]; rfl
   rw [nspeculumlaw06_FigureReferences_l0_0.eq_2, if_pos (by omega)]
   dsimp only
   rw [refRem_p hk M h (by omega), Option.bind_some, if_pos (show 0 <= (i : Int) /\ (i : Int) < (m.Weights.length : Int) by omega), Int.toNat_natCast, if_pos (show (lw (rem m l i) (dD l)).Den ≠ 0 by omega), show l.Start.Den * l.Slope.Den = dD l from rfl, show m.Weights.getD i 0 = ww m i from rfl]
   rw [w64_id (n := dD l) (by omega) (by omega), w64_id (n := ww m i * _) (by omega) (by omega), w64_id (n := (dD l).tdiv _) (by omega) (by omega), hpr, w64_id (n := wr m l i) (by omega) (by omega), w64_id (n := sumF (wr m l) i + _) (by omega) (by omega), w64_succ (by omega)]
   exact ih f (i + 1) (by omega) (by omega)
theorem law_references (m : SRemovalMap) : ∃ K, nspeculumlaw06_FigureReferences K m = some true := by
 obtain ⟨k, hk⟩ : ∃ k : Nat, 9223372036854775808 < k := ⟨9223372036854775809, by decide⟩
 refine ⟨k + 4, ?_⟩
 unfold nspeculumlaw06_FigureReferences nawake
 obtain ⟨r, e1, e2⟩ := few_any k m
 rw [Option.bind_some, if_pos rfl]
 change Option.bind (nspeculumlaw06_Few (k + 4) m) _ = _
 rw [e1, Option.bind_some]
 cases r with
 | false => rfl
 | true =>
   rw [if_pos rfl]
   change Option.bind (nspeculumlaw06_mapped (k + 4) m) _ = _
   rw [mapped_any (k + 4) m (e2 rfl), Option.bind_some]
   change Option.bind (nfigure_Reference (k + 2 + 2) m) (fun r3189 => Option.bind (nfigure_Least (k + 2 + 2) m) (fun r3193 => Option.bind (nspeculumref06_CheckMap (k + 2 + 2) m) _)) = _
   have hC := (checkMap_any (k + 2) m (by omega)).2
   by_cases h0 : mapE m = 0
   ·obtain ⟨l, a, b, F, hR, hF⟩ := figure_p (k := k + 2) (by omega) h0
    have M := mapE_ok h0
    have hn := M.n2
    have hd := dD_bd F.lo
    have hs := wr_sum M (F.rb M) (i := m.Heights.length) (Nat.le_refl _)
    rw [hR, Option.bind_some, hF, Option.bind_some, hC, Option.bind_some, if_pos h0]
    dsimp only
    rw [if_pos rfl, if_pos rfl]
    have L1 : nspeculumref06_CheckLine (k + 4) l = some 0 := refLine_p (k := k + 1) (by omega) F.lo
    have L2 : nspeculumref06_CheckReference (k + 4) m l = some (0, 0) := checkRef_p (k := k + 1) (by omega) M F
    have L3 : nfigure_CheckReference (k + 4) m l = some (0, 0) := checkFig_p (k := k + 1) (by omega) h0 F
    have hq : nspeculumlaw06_FigureReferences_l0_0 (k + 4) m (l, 0) (leastV m m.Heights.length l, 0) (0, 0) (k + 4) 0 0 = _ := lawR_l (k := k + 4) (by omega) M F.lo (F.rb M) 0 (leastV m m.Heights.length l, 0) (0, 0) m.Heights.length (k + 4) 0 (by omega) (by omega)
    rw [L1, Option.bind_some, if_pos rfl, refLeast_p (by omega) M F, Option.bind_some, if_pos (by simp), L2, Option.bind_some, if_pos rfl, L3, Option.bind_some, hq, Option.bind_some]
    dsimp only
    rw [if_pos rfl, show l.Start.Den * l.Slope.Den = dD l from rfl, w64_id (n := dD l) (by omega) (by omega), (lowests (k + 4) (by omega) (x := sumF (wr m l) m.Heights.length) (y := dD l) (by omega) hd.1 (by omega)).1, Option.bind_some]
    unfold leastV
    simp
   ·obtain ⟨hR, hF⟩ := figure_err (k := k + 2) (by omega) h0
    rw [hR, Option.bind_some, hF, Option.bind_some, hC, Option.bind_some, if_neg h0]
    dsimp only
    rw [if_pos rfl, if_pos rfl]
    rfl
end
theorem vc_references (m : SRemovalMap) : VC Try.prog 4 [.ag [.tr (m.Heights.map vi) m.Heights.length, .tr (m.Q.map vi) m.Q.length, .tr (m.Weights.map vi) m.Weights.length]] (vb true) := by
 obtain ⟨K, h⟩ := law_references m
 exact nspeculumlaw06_FigureReferences_ok K m true h
end Go.Proofs.Ytmjepoalhmdfjaa.Vg

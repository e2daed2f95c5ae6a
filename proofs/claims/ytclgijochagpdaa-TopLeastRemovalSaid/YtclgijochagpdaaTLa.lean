import Derived.Test.YtclgijochagpdaaF1
set_option linter.unusedVariables false
set_option linter.unusedSimpArgs false
namespace Go.Proofs.Ytclgijochagpdaa.Vg.Fg
open Go Go.Proofs.Ytclgijochagpdaa.Ev Go.Proofs.Ytclgijochagpdaa.Vv Go.Proofs.Ytclgijochagpdaa.Vg
section
variable {k : Nat} {m u : SRemovalMap} {n : Nat}
theorem inr_bd (M : OKM m n) {a : Nat} (ha : a < n) : (0 : Int) <= (a : Int) /\ (a : Int) <= w64 ((m.Heights.length : Int) - 1) := by
 have hn := M.n2
 have hl := M.ln
 rw [w64_id (by omega) (by omega)]
 omega
theorem checkFig_p (hk : 9223372036854775808 < k) (h0 : mapE m = 0) {l : SLowerLine} {a b : Nat} (F : Found m m.Heights.length l a b) : nfigure_CheckReference (k + 3) m l = some (0, 0) := by
 have M := mapE_ok h0
 have hn := M.n2
 have hlq := M.lq
 have e0 : nfigure_CheckReference_l0_0 (k + 3) m l (k + 3) 0 = some (.inr ()) := by
  rw [nfigure_CheckReference_l0_0.eq_2, if_pos (by decide), if_pos rfl, F.e0, within_fig, Option.bind_some, if_pos (decide_eq_true (inr_bd M F.an)), nfigure_CheckReference_l0_0.eq_2, if_pos (by decide), if_neg (by decide), if_pos (by decide), F.e1, within_fig, Option.bind_some, if_pos (decide_eq_true (inr_bd M F.bn)), nfigure_CheckReference_l0_0.eq_2, if_neg (by decide)]
 have e1 : nfigure_CheckReference_l1_0 (k + 3) m l (k + 3) 0 = some (.inr ()) := by
  rw [nfigure_CheckReference_l1_0.eq_2, if_pos (by decide), if_pos rfl, F.e0, (remTD_p M F.lo F.an).1, Option.bind_some, if_pos F.r0, nfigure_CheckReference_l1_0.eq_2, if_pos (by decide), if_neg (by decide), if_pos (by decide), F.e1, (remTD_p M F.lo F.bn).1, Option.bind_some, if_pos F.r1, nfigure_CheckReference_l1_0.eq_2, if_neg (by decide)]
 obtain ⟨r, d1, d2⟩ := dug_p (k := k + 3) (by omega) M F.lo
 have hc : nfigure_checkLine (k + 1 + 2) m l = some 0 := checkLine_p (by omega) h0 F.lo
 unfold nfigure_CheckReference
 change Option.bind (nfigure_checkLine (k + 1 + 2) m l) _ = _
 rw [hc, Option.bind_some, if_pos rfl, d1, Option.bind_some]
 rcases d2 with ⟨d2, _, _⟩ | ⟨_, p, hp, hneg⟩
 ·rw [if_neg (by rw [d2]; decide), e0, Option.bind_some]
  dsimp only
  rw [e1, Option.bind_some]
  dsimp only
  rw [F.e0, F.e1, areAround_p (by omega) M F.an F.bn, Option.bind_some, if_pos (show arnd m m.Heights.length a b = true from decide_eq_true ⟨F.qa, F.qb⟩)]
 ·have := F.all p hp; omega
def upL (l : SLowerLine) (c : Int) : SLowerLine := ⟨⟨l.Start.Num + c * l.Start.Den, l.Start.Den⟩, l.Slope, l.Touch⟩
theorem gcd_up {x d c : Int} (h : Nat.gcd x.natAbs d.natAbs = 1) : Nat.gcd (x + c * d).natAbs d.natAbs = 1 := by
 have h1 : ((Nat.gcd (x + c * d).natAbs d.natAbs : Nat) : Int) ∣ x + c * d := Int.ofNat_dvd_left.2 (Nat.gcd_dvd_left _ _)
 have h2 : ((Nat.gcd (x + c * d).natAbs d.natAbs : Nat) : Int) ∣ d := Int.ofNat_dvd_left.2 (Nat.gcd_dvd_right _ _)
 generalize Nat.gcd (x + c * d).natAbs d.natAbs = g at *
 have h3 : (g : Int) ∣ x := by
  have := Int.dvd_sub h1 (Int.dvd_mul_of_dvd_right h2 (b := c))
  rwa [Int.add_sub_cancel] at this
 have h4 : g ∣ Nat.gcd x.natAbs d.natAbs := Nat.dvd_gcd (Int.ofNat_dvd_left.1 h3) (Int.ofNat_dvd_left.1 h2)
 rw [h] at h4
 exact Nat.dvd_one.1 h4
theorem up_lo {l : SLowerLine} (h : LO l) (hs : l.Start.Num.natAbs <= 300000000) {c : Int} (hc : c.natAbs <= 100) : LO (upL l c) := by
 have hb : (c * l.Start.Den).natAbs <= 100 * 1000 := abs_mul hc (by have := h.sd; have := h.s.d; omega)
 refine ⟨⟨h.s.d, gcd_up h.s.g⟩, h.t, h.sd, h.td, ?_, h.tn⟩
 show (l.Start.Num + c * l.Start.Den).natAbs <= _
 omega
theorem up_rem {l : SLowerLine} {c : Int} {i : Nat} (h1 : hh u i = hh m i + c) (h2 : qq u i = qq m i) : rem u (upL l c) i = rem m l i := by
 unfold rem
 rw [h1, h2]
 show (hh m i + c) * (l.Start.Den * l.Slope.Den) - (l.Start.Num + c * l.Start.Den) * l.Slope.Den - _ = hh m i * (l.Start.Den * l.Slope.Den) - l.Start.Num * l.Slope.Den - _
 have e : (hh m i + c) * (l.Start.Den * l.Slope.Den) - (l.Start.Num + c * l.Start.Den) * l.Slope.Den = hh m i * (l.Start.Den * l.Slope.Den) - l.Start.Num * l.Slope.Den := by grind
 rw [e]; rfl
theorem up_sum {l : SLowerLine} {c : Int} (h1 : ∀ i, i < n -> hh u i = hh m i + c) (h2 : ∀ i, i < n -> qq u i = qq m i) (h3 : ∀ i, i < n -> ww u i = ww m i) : sumF (wr u (upL l c)) n = sumF (wr m l) n :=
 sumF_congr n (fun i hi => by unfold wr; rw [h3 i hi, up_rem (h1 i hi) (h2 i hi)])
theorem half (M : OKM m n) {l l' : SLowerLine} {a b a' b' : Nat} (F : Found m n l a b) (G : Found u n l' a' b') {c : Int} (hc : c.natAbs <= 100) (h1 : ∀ i, i < n -> hh m i = hh u i + c) (h2 : ∀ i, i < n -> qq m i = qq u i) (h3 : ∀ i, i < n -> ww m i = ww u i) :
 dD l' * sumF (wr m l) n <= dD l * sumF (wr u l') n := by
 have := least_le M F (up_lo G.lo G.sn hc) (fun i hi => by rw [up_rem (h1 i hi) (h2 i hi)]; exact G.all i hi)
 rw [up_sum h1 h2 h3] at this
 exact this
theorem least_same (M : OKM m n) (U : OKM u n) {l l' : SLowerLine} {a b a' b' : Nat} (F : Found m n l a b) (G : Found u n l' a' b') {c : Int} (hc : c.natAbs <= 100) (h1 : ∀ i, i < n -> hh u i = hh m i + c) (h2 : ∀ i, i < n -> qq u i = qq m i) (h3 : ∀ i, i < n -> ww u i = ww m i) :
 leastV m n l = leastV u n l' := by
 have A := half M F G (c := -c) (by omega) (fun i hi => by rw [h1 i hi]; omega) (fun i hi => (h2 i hi).symm) (fun i hi => (h3 i hi).symm)
 have B := half U G F (c := c) hc h1 h2 h3
 have e : dD l' * sumF (wr m l) n = dD l * sumF (wr u l') n := by omega
 have d1 := (dD_bd F.lo).1
 have d2 := (dD_bd G.lo).1
 unfold leastV
 generalize sumF (wr m l) n = S at *
 generalize sumF (wr u l') n = T at *
 have hx := lw_cross (x := T) d2
 have hlow := lw_low (x := T) d2
 refine lw_eq d1 hlow ?_
 generalize (lw T (dD l')).Num = X at *
 generalize (lw T (dD l')).Den = Y at *
 refine Int.eq_of_mul_eq_mul_right (show dD l' ≠ 0 by omega) ?_
 have e1 : X * dD l * dD l' = X * dD l' * dD l := by grind
 rw [e1, hx]
 have e2 : T * Y * dD l = dD l * T * Y := by grind
 have e3 : S * Y * dD l' = dD l' * S * Y := by grind
 rw [e2, e3, e]
theorem least_nonneg (M : OKM m n) {l : SLowerLine} {a b : Nat} (F : Found m n l a b) : 0 <= (leastV m n l).Num := by
 have hs : 0 <= sumF (wr m l) n := by
  have := sumF_ge (f := wr m l) (a := 0) n (fun i hi => Int.mul_nonneg (M.w i hi).1 (F.all i hi))
  omega
 have d := dD_bd F.lo
 have := (lwr (r := sumF (wr m l) n) d.1).1
 unfold leastV
 omega
end
end Go.Proofs.Ytclgijochagpdaa.Vg.Fg

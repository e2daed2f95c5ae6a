/- The rate of a drive: divisors are taken out pairwise; the fraction in lowest terms. Plain. -/
import Derived.Test.YtcjdpgoojhkaiaaDA
import Derived.Test.YtcjdpgoojhkaiaaD2
set_option linter.unusedVariables false
set_option linter.unusedSimpArgs false
namespace Go.Proofs.Ytcjdpgoojhkaiaa.Vg
open Go Go.Proofs.Ytcjdpgoojhkaiaa.Ev Go.Proofs.Ytcjdpgoojhkaiaa.Vv
theorem natdiv (a b : Nat) : (a : Int).tdiv (b : Int) = ((a / b : Nat) : Int) := by
  rw [Int.tdiv_eq_ediv_of_nonneg (by omega)]; exact (Int.natCast_ediv a b).symm
/- one step: x and y are freed of their greatest common divisor. -/
theorem cop_step {x y : Nat} (hx : 1 ≤ x) (hy : 1 ≤ y) : ∃ g X Y, Nat.gcd x y = g ∧ 1 ≤ g ∧ x = X * g ∧ y = Y * g ∧ x / g = X ∧ y / g = Y ∧ 1 ≤ X ∧ 1 ≤ Y ∧ Nat.gcd X Y = 1 := by
  have hg : 0 < Nat.gcd x y := Nat.gcd_pos_of_pos_left _ hx
  obtain ⟨X, hX⟩ := Nat.gcd_dvd_left x y
  obtain ⟨Y, hY⟩ := Nat.gcd_dvd_right x y
  have c : Nat.gcd (x / Nat.gcd x y) (y / Nat.gcd x y) = 1 := Nat.gcd_div_gcd_div_gcd_of_pos_right hy
  generalize Nat.gcd x y = g at *
  have e1 : x / g = X := by rw [hX, Nat.mul_div_cancel_left _ hg]
  have e2 : y / g = Y := by rw [hY, Nat.mul_div_cancel_left _ hg]
  rw [e1, e2] at c
  refine ⟨g, X, Y, rfl, hg, by rw [hX, Nat.mul_comm], by rw [hY, Nat.mul_comm], e1, e2, ?_, ?_, c⟩
  · rcases Nat.eq_zero_or_pos X with h | h
    · subst h; omega
    · exact h
  · rcases Nat.eq_zero_or_pos Y with h | h
    · subst h; omega
    · exact h
theorem cop_l {x X g y : Nat} (h : Nat.gcd x y = 1) (e : x = X * g) : Nat.gcd X y = 1 := by
  have : Nat.Coprime x y := h
  exact Nat.Coprime.coprime_dvd_left ⟨g, e⟩ this
theorem cop_r {x y Y g : Nat} (h : Nat.gcd x y = 1) (e : y = Y * g) : Nat.gcd x Y = 1 := by
  have : Nat.Coprime x y := h
  exact Nat.Coprime.coprime_dvd_right ⟨g, e⟩ this
theorem cop_ml {a b c : Nat} (h : Nat.gcd a c = 1) (h' : Nat.gcd b c = 1) : Nat.gcd (a * b) c = 1 := Nat.Coprime.mul_left h h'
theorem cop_mr {a b c : Nat} (h : Nat.gcd a b = 1) (h' : Nat.gcd a c = 1) : Nat.gcd a (b * c) = 1 := Nat.Coprime.mul_right h h'
theorem low_of {n d N D G : Nat} (hG : 1 ≤ G) (e1 : n = N * G) (e2 : d = D * G) (c : Nat.gcd N D = 1) : N = n / Nat.gcd n d ∧ D = d / Nat.gcd n d := by
  have : Nat.gcd n d = G := by rw [e1, e2, Nat.gcd_mul_right, c, Nat.one_mul]
  rw [this, e1, e2, Nat.mul_div_cancel _ hG, Nat.mul_div_cancel _ hG]; exact ⟨rfl, rfl⟩
def rateS (n d : Nat) : SFrac × Int := if n / Nat.gcd n d ≤ 1000000000 ∧ d / Nat.gcd n d ≤ 1000000000 then (⟨((n / Nat.gcd n d : Nat) : Int), ((d / Nat.gcd n d : Nat) : Int)⟩, 0) else (⟨0, 0⟩, 8)
theorem rateS_of {n d N D G : Nat} (hG : 1 ≤ G) (e1 : n = N * G) (e2 : d = D * G) (c : Nat.gcd N D = 1) : rateS n d = if N ≤ 1000000000 ∧ D ≤ 1000000000 then (⟨(N : Int), (D : Int)⟩, 0) else (⟨0, 0⟩, 8) := by
  obtain ⟨h1, h2⟩ := low_of hG e1 e2 c
  unfold rateS
  rw [← h1, ← h2]
/- the product of numbers above 0. -/
def prodN : List Nat → Nat
  | [] => 1
  | x :: xs => x * prodN xs
theorem prodN_pos : ∀ (l : List Nat), (∀ x ∈ l, 1 ≤ x) → 1 ≤ prodN l
  | [], _ => Nat.le_refl _
  | x :: xs, h => Nat.mul_pos (h x (by simp)) (prodN_pos xs (fun y hy => h y (by simp [hy])))
theorem prod_l (k : Nat) (l : List Nat) (hl : l.length ≤ 1000) (hp : ∀ x ∈ l, 1 ≤ x) : ∀ (d fuel i p : Nat), l.length = i + d → d < fuel → 1 ≤ p → p ≤ 1000000000 →
    nsupport_product_l0_0 k (l.map (fun n : Nat => (n : Int))) fuel (p : Int) (i : Int) = some (if p * prodN (l.drop i) ≤ 1000000000 then .inr ((p * prodN (l.drop i) : Nat) : Int) else .inl ()) := by
  intro d
  induction d with
  | zero =>
    intro fuel i p h hf h1 h2
    obtain ⟨g, rfl⟩ : ∃ g, fuel = g + 1 := ⟨fuel - 1, by omega⟩
    rw [nsupport_product_l0_0.eq_2, if_neg (by rw [List.length_map]; omega), List.drop_eq_nil_of_le (by omega)]
    simp only [prodN, Nat.mul_one]; rw [if_pos h2]
  | succ d ih =>
    intro fuel i p h hf h1 h2
    obtain ⟨g, rfl⟩ : ∃ g, fuel = g + 1 := ⟨fuel - 1, by omega⟩
    have hi : i < l.length := by omega
    have hd : l.drop i = l[i] :: l.drop (i + 1) := List.drop_eq_getElem_cons hi
    have hx := hp l[i] (List.getElem_mem hi)
    have hr := prodN_pos (l.drop (i + 1)) (fun y hy => hp y (List.mem_of_mem_drop hy))
    have eg : (l.map (fun n : Nat => (n : Int))).getD (i : Int).toNat 0 = (l[i] : Int) := by
      rw [Int.toNat_natCast, List.getD_eq_getElem?_getD, List.getElem?_map, List.getElem?_eq_getElem hi]; rfl
    have eq1 : (1000000000 : Int).tdiv (p : Int) = ((1000000000 / p : Nat) : Int) := natdiv 1000000000 p
    have hq : 1000000000 / p ≤ 1000000000 := Nat.div_le_self _ _
    have key : 1000000000 / p < l[i] ↔ 1000000000 < p * l[i] := by rw [Nat.div_lt_iff_lt_mul (by omega), Nat.mul_comm]
    generalize hM : p * prodN (l.drop i) = M
    have eM : M = p * l[i] * prodN (l.drop (i + 1)) := by rw [← hM, hd]; simp only [prodN]; rw [Nat.mul_assoc]
    clear hM
    subst eM
    generalize 1000000000 / p = Q at *
    rw [nsupport_product_l0_0.eq_2, if_pos (by rw [List.length_map]; omega), if_pos (by rw [List.length_map]; omega), if_pos (by omega), eg, eq1, w64_id (by omega) (by omega)]
    by_cases c : Q < l[i]
    · rw [if_pos (by omega)]
      have h3 := key.1 c
      have h4 : p * l[i] * 1 ≤ p * l[i] * prodN (l.drop (i + 1)) := Nat.mul_le_mul_left _ hr
      rw [if_neg (by omega)]
    · rw [if_neg (by omega)]
      have h3 : ¬ 1000000000 < p * l[i] := fun h => c (key.2 h)
      have h4 : 1 ≤ p * l[i] := Nat.mul_pos h1 hx
      have e5 : (p : Int) * (l[i] : Int) = ((p * l[i] : Nat) : Int) := (Int.natCast_mul p l[i]).symm
      rw [e5, w64_id (by omega) (by omega), w64_succ (by omega)]
      exact ih g (i + 1) (p * l[i]) (by omega) (by omega) h4 (by omega)
theorem prod_any (k : Nat) (hk : 2000 ≤ k) (l : List Nat) (hl : l.length ≤ 1000) (hp : ∀ x ∈ l, 1 ≤ x) : nsupport_product k (l.map (fun n : Nat => (n : Int))) = some (if prodN l ≤ 1000000000 then ((prodN l : Int), true) else (0, false)) := by
  have h := prod_l k l hl hp l.length k 0 1 (by omega) (by omega) (by omega) (by omega)
  rw [List.drop_zero, Nat.one_mul] at h
  unfold nsupport_product
  rw [show nsupport_product_l0_0 k (l.map (fun n : Nat => (n : Int))) k 1 0 = _ from h, Option.bind_some]
  by_cases c : prodN l ≤ 1000000000
  · rw [if_pos c, if_pos c]
  · rw [if_neg c, if_neg c]
/- the pairs of the program. -/
theorem w_div {x g : Nat} (hx : x ≤ 1000000000000000) : w64 ((x : Int).tdiv (g : Int)) = ((x / g : Nat) : Int) := by
  have := Nat.div_le_self x g
  rw [natdiv]
  generalize x / g = q at *
  exact w64_id (by omega) (by omega)
section
variable (k : Nat) (l : List SGearPair) (s t : Int) (rr : SFrac × Int) (bb : Bool)
theorem inner (hk : 18446744073709551617 ≤ k) (y2 : List Int) (i : Nat) (y3 : List Int) (hy3 : y3.length = 2) (hi : i < y2.length) (a b0 b1 : Nat) (ha : y2.getD i 0 = (a : Int)) (h0 : 1 ≤ a) (h0' : a ≤ 1000000000000) (h1 : 1 ≤ b0) (h1' : b0 ≤ 1000000000000) (h2 : 1 ≤ b1) (h2' : b1 ≤ 1000000000000) :
    ∃ g0 g1 A B0 B1 : Nat, nsupport_Rate_i19_l1_0 k l s t rr bb y3 i k y2 [(b0 : Int), (b1 : Int)] 0 = some (y2.set i (A : Int), [(B0 : Int), (B1 : Int)]) ∧ 1 ≤ g0 ∧ 1 ≤ g1 ∧ a = A * (g0 * g1) ∧ b0 = B0 * g0 ∧ b1 = B1 * g1 ∧ 1 ≤ A ∧ 1 ≤ B0 ∧ 1 ≤ B1 ∧ Nat.gcd A B0 = 1 ∧ Nat.gcd A B1 = 1 := by
  obtain ⟨g0, A0, B0, p1, p2, p3, p4, p5, p6, p7, p8, p9⟩ := cop_step h0 h1
  obtain ⟨g1, A, B1, q1, q2, q3, q4, q5, q6, q7, q8, q9⟩ := cop_step p7 h2
  refine ⟨g0, g1, A, B0, B1, ?_, p2, q2, by rw [p3, q3, Nat.mul_assoc, Nat.mul_comm g1 g0], p4, q4, q7, p8, q8, cop_l p9 q3, q9⟩
  obtain ⟨j, hj⟩ : ∃ j, k = j + 1 + 1 + 1 := ⟨k - 3, by omega⟩
  have hA0 : A0 ≤ 1000000000000 := by rw [← p5]; exact Nat.le_trans (Nat.div_le_self _ _) h0'
  have go : nsupport_Rate_i19_l1_0 k l s t rr bb y3 i (j + 1 + 1 + 1) y2 [(b0 : Int), (b1 : Int)] 0 = some (y2.set i (A : Int), [(B0 : Int), (B1 : Int)]) := by
    rw [nsupport_Rate_i19_l1_0.eq_2, if_pos (by rw [hy3]; decide), if_pos (by omega), if_pos (by simp), Int.toNat_natCast, ha, show ([(b0 : Int), (b1 : Int)]).getD (0 : Int).toNat 0 = (b0 : Int) from rfl, div_sup k _ _ (by omega) (by omega) (by omega), Int.natAbs_natCast, Int.natAbs_natCast, p1, Option.bind_some, if_pos (by omega),
      w_div (by omega), w_div (by omega), p5, p6, show ([(b0 : Int), (b1 : Int)]).set (0 : Int).toNat (B0 : Int) = [(B0 : Int), (b1 : Int)] from rfl, show w64 (0 + 1) = 1 from rfl]
    rw [nsupport_Rate_i19_l1_0.eq_2, if_pos (by rw [hy3]; decide), if_pos (by rw [List.length_set]; omega), if_pos (by simp), Int.toNat_natCast, show (y2.set i (A0 : Int)).getD i 0 = (A0 : Int) by rw [List.getD_eq_getElem?_getD, List.getElem?_set_self hi]; rfl, show ([(B0 : Int), (b1 : Int)]).getD (1 : Int).toNat 0 = (b1 : Int) from rfl, div_sup k _ _ (by omega) (by omega) (by omega), Int.natAbs_natCast, Int.natAbs_natCast, q1, Option.bind_some, if_pos (by omega),
      w_div (by omega), w_div (by omega), q5, q6, List.set_set, show ([(B0 : Int), (b1 : Int)]).set (1 : Int).toNat (B1 : Int) = [(B0 : Int), (B1 : Int)] from rfl, show w64 (1 + 1) = 2 from rfl]
    rw [nsupport_Rate_i19_l1_0.eq_2, if_neg (by rw [hy3]; decide)]
  rw [← hj] at go
  exact go
theorem outer (hk : 18446744073709551617 ≤ k) (a0 a1 a2 b0 b1 : Nat) (h : 1 ≤ a0 ∧ a0 ≤ 1000000000000 ∧ 1 ≤ a1 ∧ a1 ≤ 1000000000000 ∧ 1 ≤ a2 ∧ a2 ≤ 1000000000000 ∧ 1 ≤ b0 ∧ b0 ≤ 1000000000000 ∧ 1 ≤ b1 ∧ b1 ≤ 1000000000000) :
    ∃ G A0 A1 A2 B0 B1 : Nat, nsupport_Rate_i19_l0_0 k l s t rr bb k [(a0 : Int), (a1 : Int), (a2 : Int)] [(b0 : Int), (b1 : Int)] 0 = some ([(A0 : Int), (A1 : Int), (A2 : Int)], [(B0 : Int), (B1 : Int)]) ∧ 1 ≤ G ∧ a0 * (a1 * a2) = A0 * (A1 * A2) * G ∧ b0 * b1 = B0 * B1 * G ∧ 1 ≤ A0 ∧ 1 ≤ A1 ∧ 1 ≤ A2 ∧ 1 ≤ B0 ∧ 1 ≤ B1 ∧ Nat.gcd (A0 * (A1 * A2)) (B0 * B1) = 1 := by
  obtain ⟨c1, c2, c3, c4, c5, c6, c7, c8, c9, c10⟩ := h
  have le_of : ∀ {x X g : Nat}, x = X * g → 1 ≤ g → x ≤ 1000000000000 → X ≤ 1000000000000 := fun {x X g} e hg hx => Nat.le_trans (by have := Nat.mul_le_mul_left X hg; omega) hx
  obtain ⟨g0, g1, A0, B0, B1, e1, p1, p2, p3, p4, p5, p6, p7, p8, p9, p10⟩ := inner k l s t rr bb hk [(a0 : Int), (a1 : Int), (a2 : Int)] 0 [(b0 : Int), (b1 : Int)] rfl (by simp) a0 b0 b1 rfl c1 c2 c7 c8 c9 c10
  have l1 := le_of p4 p1 c8
  have l2 := le_of p5 p2 c10
  obtain ⟨g2, g3, A1, C0, C1, e2, q1, q2, q3, q4, q5, q6, q7, q8, q9, q10⟩ := inner k l s t rr bb hk [(A0 : Int), (a1 : Int), (a2 : Int)] 1 [(B0 : Int), (B1 : Int)] rfl (by simp) a1 B0 B1 rfl c3 c4 p7 l1 p8 l2
  have l3 := le_of q4 q1 l1
  have l4 := le_of q5 q2 l2
  obtain ⟨g4, g5, A2, D0, D1, e3, r1, r2, r3, r4, r5, r6, r7, r8, r9, r10⟩ := inner k l s t rr bb hk [(A0 : Int), (A1 : Int), (a2 : Int)] 2 [(C0 : Int), (C1 : Int)] rfl (by simp) a2 C0 C1 rfl c5 c6 q7 l3 q8 l4
  obtain ⟨j, hj⟩ : ∃ j, k = j + 1 + 1 + 1 + 1 := ⟨k - 4, by omega⟩
  have go : nsupport_Rate_i19_l0_0 k l s t rr bb (j + 1 + 1 + 1 + 1) [(a0 : Int), (a1 : Int), (a2 : Int)] [(b0 : Int), (b1 : Int)] 0 = some ([(A0 : Int), (A1 : Int), (A2 : Int)], [(D0 : Int), (D1 : Int)]) := by
    rw [nsupport_Rate_i19_l0_0.eq_2, if_pos (by decide), show nsupport_Rate_i19_l1_0 k l s t rr bb [(b0 : Int), (b1 : Int)] 0 k [(a0 : Int), (a1 : Int), (a2 : Int)] [(b0 : Int), (b1 : Int)] 0 = _ from e1, Option.bind_some, show w64 (0 + 1) = 1 from rfl]
    dsimp only [List.set_cons_zero, List.set_cons_succ]
    rw [nsupport_Rate_i19_l0_0.eq_2, if_pos (by decide), show nsupport_Rate_i19_l1_0 k l s t rr bb [(B0 : Int), (B1 : Int)] 1 k [(A0 : Int), (a1 : Int), (a2 : Int)] [(B0 : Int), (B1 : Int)] 0 = _ from e2, Option.bind_some, show w64 (1 + 1) = 2 from rfl]
    dsimp only [List.set_cons_zero, List.set_cons_succ]
    rw [nsupport_Rate_i19_l0_0.eq_2, if_pos (by decide), show nsupport_Rate_i19_l1_0 k l s t rr bb [(C0 : Int), (C1 : Int)] 2 k [(A0 : Int), (A1 : Int), (a2 : Int)] [(C0 : Int), (C1 : Int)] 0 = _ from e3, Option.bind_some, show w64 (2 + 1) = 3 from rfl]
    dsimp only [List.set_cons_zero, List.set_cons_succ]
    rw [nsupport_Rate_i19_l0_0.eq_2, if_neg (by decide)]
  rw [← hj] at go
  have hG : 1 ≤ (g0 * g1) * ((g2 * g3) * (g4 * g5)) := Nat.mul_pos (Nat.mul_pos p1 p2) (Nat.mul_pos (Nat.mul_pos q1 q2) (Nat.mul_pos r1 r2))
  have x00 : Nat.gcd A0 D0 = 1 := cop_r (cop_r p9 q4) r4
  have x01 : Nat.gcd A0 D1 = 1 := cop_r (cop_r p10 q5) r5
  have x10 : Nat.gcd A1 D0 = 1 := cop_r q9 r4
  have x11 : Nat.gcd A1 D1 = 1 := cop_r q10 r5
  refine ⟨(g0 * g1) * ((g2 * g3) * (g4 * g5)), A0, A1, A2, D0, D1, go, hG, ?_, ?_, p6, q6, r6, r7, r8, cop_ml (cop_mr x00 x01) (cop_ml (cop_mr x10 x11) (cop_mr r9 r10))⟩
  · rw [p3, q3, r3]; ac_rfl
  · rw [p4, p5, q4, q5, r4, r5]; ac_rfl
end
theorem within_drive (k : Nat) (hk : 10 ≤ k) (a b : Int) : nsupport_areWithin k 1 1000000 [a, b] = some (decide (1 ≤ a ∧ a ≤ 1000000 ∧ 1 ≤ b ∧ b ≤ 1000000)) := by
  obtain ⟨j, hj⟩ : ∃ j, k = j + 1 + 1 + 1 := ⟨k - 3, by omega⟩
  unfold nsupport_areWithin
  have go : nsupport_areWithin_l0_0 k 1 1000000 [a, b] (j + 1 + 1 + 1) 0 = some (if 1 ≤ a ∧ a ≤ 1000000 ∧ 1 ≤ b ∧ b ≤ 1000000 then .inr () else .inl ()) := by
    rw [nsupport_areWithin_l0_0.eq_2, if_pos (by simp), if_pos (by simp), show ([a, b] : List Int).getD (0 : Int).toNat 0 = a from rfl]
    by_cases h1 : a < 1
    · rw [if_pos h1, if_neg (by omega)]
    · rw [if_neg h1]
      by_cases h2 : 1000000 < a
      · rw [if_pos h2, if_neg (by omega)]
      · rw [if_neg h2, show w64 (0 + 1) = 1 from rfl, nsupport_areWithin_l0_0.eq_2, if_pos (by simp), if_pos (by simp), show ([a, b] : List Int).getD (1 : Int).toNat 0 = b from rfl]
        by_cases h3 : b < 1
        · rw [if_pos h3, if_neg (by omega)]
        · rw [if_neg h3]
          by_cases h4 : 1000000 < b
          · rw [if_pos h4, if_neg (by omega)]
          · rw [if_neg h4, show w64 (1 + 1) = 2 from rfl, nsupport_areWithin_l0_0.eq_2, if_neg (by simp), if_pos (by omega)]
  rw [← hj] at go
  rw [go, Option.bind_some]
  by_cases h : 1 ≤ a ∧ a ≤ 1000000 ∧ 1 ≤ b ∧ b ≤ 1000000
  · rw [if_pos h, decide_eq_true h]
  · rw [if_neg h, decide_eq_false h]
theorem within_time (k : Nat) (hk : 10 ≤ k) (a : Int) : nsupport_areWithin k 0 1000000 [a] = some (decide (0 ≤ a ∧ a ≤ 1000000)) := by
  obtain ⟨j, hj⟩ : ∃ j, k = j + 1 + 1 := ⟨k - 2, by omega⟩
  unfold nsupport_areWithin
  have go : nsupport_areWithin_l0_0 k 0 1000000 [a] (j + 1 + 1) 0 = some (if 0 ≤ a ∧ a ≤ 1000000 then .inr () else .inl ()) := by
    rw [nsupport_areWithin_l0_0.eq_2, if_pos (by simp), if_pos (by simp), show ([a] : List Int).getD (0 : Int).toNat 0 = a from rfl]
    by_cases h1 : a < 0
    · rw [if_pos h1, if_neg (by omega)]
    · rw [if_neg h1]
      by_cases h2 : 1000000 < a
      · rw [if_pos h2, if_neg (by omega)]
      · rw [if_neg h2, show w64 (0 + 1) = 1 from rfl, nsupport_areWithin_l0_0.eq_2, if_neg (by simp), if_pos (by omega)]
  rw [← hj] at go
  rw [go, Option.bind_some]
  by_cases h : 0 ≤ a ∧ a ≤ 1000000
  · rw [if_pos h, decide_eq_true h]
  · rw [if_neg h, decide_eq_false h]
theorem within_b (k : Nat) (a x y : Int) : nspeculumbase_Within k a x y = some (decide (x ≤ a ∧ a ≤ y)) := by
  unfold nspeculumbase_Within
  by_cases c1 : x ≤ a
  · rw [if_pos c1]
    by_cases c2 : a ≤ y
    · rw [decide_eq_true c2, decide_eq_true ⟨c1, c2⟩]
    · rw [decide_eq_false c2, decide_eq_false (fun h => c2 h.2)]
  · rw [if_neg c1, decide_eq_false (fun h => c1 h.1)]
theorem rate_p (k : Nat) (hk : 18446744073709551617 ≤ k) (l : List SGearPair) (f : SFrac) (hr : nsupport_Ratio k l = some (f, 0)) (s t fn fd : Nat) (hs : 1 ≤ s ∧ s ≤ 1000000) (ht : 1 ≤ t ∧ t ≤ 1000000) (hfn : f.Num = (fn : Int)) (hfd : f.Den = (fd : Int)) (h1 : 1 ≤ fn ∧ fn ≤ 1000000000) (h2 : 1 ≤ fd ∧ fd ≤ 1000000000) :
    nsupport_Rate k l s t = some (rateS (1296000 * (s * fn)) (t * fd)) := by
  obtain ⟨G, A0, A1, A2, B0, B1, e, hG, n1, n2, i1, i2, i3, i4, i5, hc⟩ := outer k l s t (f, 0) true hk 1296000 s fn t fd (by omega)
  unfold nsupport_Rate
  rw [hr, Option.bind_some, if_pos rfl, within_drive k (by omega), Option.bind_some, decide_eq_true (by omega), if_pos rfl]
  dsimp only
  rw [hfn, hfd, show nsupport_Rate_i19_l0_0 k l s t (f, 0) true k [1296000, (s : Int), (fn : Int)] [(t : Int), (fd : Int)] 0 = _ from e, Option.bind_some]
  dsimp only
  have g1 := prod_any k (by omega) [A0, A1, A2] (by simp) (fun x hx => by simp at hx; rcases hx with rfl | rfl | rfl <;> assumption)
  have g2 := prod_any k (by omega) [B0, B1] (by simp) (fun x hx => by simp at hx; rcases hx with rfl | rfl <;> assumption)
  simp only [prodN, Nat.mul_one] at g1 g2
  rw [show nsupport_product k [(A0 : Int), (A1 : Int), (A2 : Int)] = _ from g1, show nsupport_product k [(B0 : Int), (B1 : Int)] = _ from g2, Option.bind_some, Option.bind_some, rateS_of hG n1 n2 hc]
  by_cases c1 : A0 * (A1 * A2) ≤ 1000000000
  · rw [if_pos c1, if_pos rfl]
    by_cases c2 : B0 * B1 ≤ 1000000000
    · rw [if_pos c2, if_pos rfl, if_pos (show [(A0 : Int), (A1 : Int), (A2 : Int)].length = 3 from rfl), if_pos (show [(B0 : Int), (B1 : Int)].length = 2 from rfl), if_pos ⟨c1, c2⟩]
    · rw [if_neg c2, if_neg (by simp), if_pos (show [(A0 : Int), (A1 : Int), (A2 : Int)].length = 3 from rfl), if_pos (show [(B0 : Int), (B1 : Int)].length = 2 from rfl), if_neg (fun h => c2 h.2)]
  · rw [if_neg c1, if_neg (by simp), if_pos (show [(A0 : Int), (A1 : Int), (A2 : Int)].length = 3 from rfl), if_pos (show [(B0 : Int), (B1 : Int)].length = 2 from rfl), if_neg (fun h => c1 h.1)]
theorem rate_r (k : Nat) (hk : 18446744073709551617 ≤ k) (l : List SGearPair) (f : SFrac) (hr : nspeculumref07_Ratio k l = some (f, 0)) (s t fn fd : Nat) (hs : 1 ≤ s ∧ s ≤ 1000000) (ht : 1 ≤ t ∧ t ≤ 1000000) (hfn : f.Num = (fn : Int)) (hfd : f.Den = (fd : Int)) (h1 : 1 ≤ fn ∧ fn ≤ 1000000000) (h2 : 1 ≤ fd ∧ fd ≤ 1000000000) (hlow : Nat.gcd fn fd = 1) :
    nspeculumref07_Rate k l s t = some (rateS (1296000 * (s * fn)) (t * fd)) := by
  obtain ⟨a, ha⟩ : ∃ a, s * 1296000 = a := ⟨_, rfl⟩
  have ea : w64 ((s : Int) * 1296000) = (a : Int) := by rw [w64_id (by omega) (by omega)]; omega
  obtain ⟨g1, A1, B1, p1, p2, p3, p4, p5, p6, p7, p8, p9⟩ := cop_step (x := a) (y := t) (by omega) (by omega)
  obtain ⟨g2, A2, F2, q1, q2, q3, q4, q5, q6, q7, q8, q9⟩ := cop_step (x := A1) (y := fd) p7 (by omega)
  obtain ⟨g3, N3, B3, r1, r2, r3, r4, r5, r6, r7, r8, r9⟩ := cop_step (x := fn) (y := B1) (by omega) p8
  have le_of : ∀ {x X g : Nat}, x = X * g → 1 ≤ g → X ≤ x := fun {x X g} e hg => by have := Nat.mul_le_mul_left X hg; omega
  have l1 := le_of p3 p2
  have l2 := le_of p4 p2
  have l3 := le_of q3 q2
  have l4 := le_of q4 q2
  have l5 := le_of r3 r2
  have l6 := le_of r4 r2
  have hG : 1 ≤ g1 * (g2 * g3) := Nat.mul_pos p2 (Nat.mul_pos q2 r2)
  have n1 : 1296000 * (s * fn) = A2 * N3 * (g1 * (g2 * g3)) := by
    have : 1296000 * (s * fn) = a * fn := by rw [← ha]; ac_rfl
    rw [this, p3, q3, r3]; ac_rfl
  have n2 : t * fd = F2 * B3 * (g1 * (g2 * g3)) := by rw [p4, q4, r4]; ac_rfl
  have hc : Nat.gcd (A2 * N3) (F2 * B3) = 1 := by
    refine cop_ml (cop_mr q9 ?_) (cop_mr ?_ r9)
    · exact cop_r (cop_l p9 q3) r4
    · exact cop_r (cop_l hlow r3) q4
  unfold nspeculumref07_Rate
  rw [hr, Option.bind_some, if_pos rfl, within_b, Option.bind_some, decide_eq_true (by omega), if_pos rfl, within_b, Option.bind_some, decide_eq_true (by omega), if_pos rfl, ea, gcd_any k _ _ (by omega) (by omega) (by omega), Option.bind_some]
  simp only [Int.natAbs_natCast]
  rw [p1, if_pos (by omega), w_div (by omega), w_div (by omega), p5, p6, hfd, gcd_any k _ _ (by omega) (by omega) (by omega), Option.bind_some]
  simp only [Int.natAbs_natCast]
  rw [q1, if_pos (by omega), w_div (by omega), w_div (by omega), q5, q6, hfn, gcd_any k _ _ (by omega) (by omega) (by omega), Option.bind_some]
  simp only [Int.natAbs_natCast]
  rw [r1, if_pos (by omega), w_div (by omega), w_div (by omega), r5, r6, if_pos (by omega), show (1000000000 : Int) = ((1000000000 : Nat) : Int) from rfl, w_div (by omega), w_div (by omega), rateS_of hG n1 n2 hc]
  have key1 : 1000000000 / N3 < A2 ↔ 1000000000 < A2 * N3 := by rw [Nat.div_lt_iff_lt_mul (by omega)]
  have key2 : 1000000000 / B3 < F2 ↔ 1000000000 < F2 * B3 := by rw [Nat.div_lt_iff_lt_mul (by omega)]
  by_cases c1 : 1000000000 / N3 < A2
  · rw [if_pos (by omega), if_neg (fun h => by have := key1.1 c1; omega)]
  · rw [if_neg (by omega), if_pos (by omega)]
    have d1 : ¬ 1000000000 < A2 * N3 := fun h => c1 (key1.2 h)
    by_cases c2 : 1000000000 / B3 < F2
    · rw [if_pos (by omega), if_neg (fun h => by have := key2.1 c2; omega)]
    · rw [if_neg (by omega)]
      have d2 : ¬ 1000000000 < F2 * B3 := fun h => c2 (key2.2 h)
      rw [if_pos (by omega), ← Int.natCast_mul, ← Int.natCast_mul, w64_id (by omega) (by omega), w64_id (by omega) (by omega)]
theorem rateS_ok {n d : Nat} (hd : 1 ≤ d) (h : (rateS n d).2 = 0) : Ok (rateS n d).1 := by
  unfold rateS at h ⊢
  have hg : 0 < Nat.gcd n d := Nat.gcd_pos_of_pos_right _ hd
  by_cases c : n / Nat.gcd n d ≤ 1000000000 ∧ d / Nat.gcd n d ≤ 1000000000
  · rw [if_pos c]
    obtain ⟨c1, c2⟩ := c
    have hq : 1 ≤ d / Nat.gcd n d := Nat.div_pos (Nat.gcd_le_right _ hd) hg
    have hl : Nat.gcd (n / Nat.gcd n d) (d / Nat.gcd n d) = 1 := Nat.gcd_div_gcd_div_gcd_of_pos_right hd
    generalize n / Nat.gcd n d = X at *
    generalize d / Nat.gcd n d = Y at *
    exact ⟨by dsimp only; omega, by dsimp only; omega, by dsimp only; omega, hl⟩
  · rw [if_neg c] at h; simp at h
theorem rateS_err (n d : Nat) : (rateS n d).2 = 0 ∨ rateS n d = (⟨0, 0⟩, 8) := by
  unfold rateS
  split
  · exact .inl rfl
  · exact .inr rfl
/-- the rate of both. -/
theorem rate_both (k : Nat) (hk : 18446744073709551617 ≤ k) (l : List SGearPair) (h : trE l = 0) (s t : Int) : ∃ f e, nsupport_Rate k l s t = some (f, e) ∧ nspeculumref07_Rate k l s t = some (f, e) ∧ (e = 0 → Ok f) ∧ (e ≠ 0 → f = ⟨0, 0⟩) := by
  obtain ⟨f, e, r1, r2, r3⟩ := ratio_both k hk l h
  rcases r3 with ⟨rfl, ok, pn⟩ | ⟨rfl, rfl⟩
  · by_cases c : 1 ≤ s ∧ s ≤ 1000000 ∧ 1 ≤ t ∧ t ≤ 1000000
    · obtain ⟨fn, hfn⟩ : ∃ n : Nat, f.Num = (n : Int) := ⟨f.Num.toNat, by omega⟩
      obtain ⟨fd, hfd⟩ : ∃ n : Nat, f.Den = (n : Int) := ⟨f.Den.toNat, by have := ok.den; omega⟩
      obtain ⟨a, rfl⟩ : ∃ n : Nat, s = (n : Int) := ⟨s.toNat, by omega⟩
      obtain ⟨b, rfl⟩ : ∃ n : Nat, t = (n : Int) := ⟨t.toNat, by omega⟩
      have o1 := ok.num
      have o2 := ok.den
      have o3 := ok.denB
      have o4 := ok.low
      rw [hfn, hfd, Int.natAbs_natCast, Int.natAbs_natCast] at o4
      refine ⟨(rateS (1296000 * (a * fn)) (b * fd)).1, (rateS (1296000 * (a * fn)) (b * fd)).2, rate_p k hk l f r1 a b fn fd (by omega) (by omega) hfn hfd (by omega) (by omega), rate_r k hk l f r2 a b fn fd (by omega) (by omega) hfn hfd (by omega) (by omega) o4, fun h0 => rateS_ok (Nat.mul_pos (by omega) (by omega)) h0, fun h0 => ?_⟩
      rcases rateS_err (1296000 * (a * fn)) (b * fd) with x | x
      · exact absurd x h0
      · rw [x]
    · refine ⟨⟨0, 0⟩, 2, ?_, ?_, fun h => by omega, fun _ => rfl⟩
      · unfold nsupport_Rate
        rw [r1, Option.bind_some, if_pos rfl, within_drive k (by omega), Option.bind_some, decide_eq_false c, if_neg (by simp)]
      · unfold nspeculumref07_Rate
        rw [r2, Option.bind_some, if_pos rfl, within_b, Option.bind_some]
        by_cases c1 : 1 ≤ s ∧ s ≤ 1000000
        · rw [decide_eq_true c1, if_pos rfl, within_b, Option.bind_some, decide_eq_false (by omega), if_neg (by simp)]
        · rw [decide_eq_false c1, if_neg (by simp)]
  · refine ⟨⟨0, 0⟩, 8, ?_, ?_, fun h => by omega, fun _ => rfl⟩
    · unfold nsupport_Rate
      rw [r1, Option.bind_some, if_neg (by simp)]
    · unfold nspeculumref07_Rate
      rw [r2, Option.bind_some, if_neg (by simp)]
end Go.Proofs.Ytcjdpgoojhkaiaa.Vg

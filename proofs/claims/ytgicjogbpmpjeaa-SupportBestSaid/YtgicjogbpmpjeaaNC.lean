/- Pairs of gears: what the program and the reference reckon. Plain. -/
import Derived.Test.YtgicjogbpmpjeaaNF2
import Derived.Test.YtgicjogbpmpjeaaNB
set_option linter.unusedVariables false
set_option linter.unusedSimpArgs false
namespace Go.Proofs.Ytgicjogbpmpjeaa.Vg
open Go Go.Proofs.Ytgicjogbpmpjeaa.Ev Go.Proofs.Ytgicjogbpmpjeaa.Vv
theorem gs (k : Nat) : ∀ (n fuel : Nat) (x y : Nat), y < n → n ≤ fuel →
    nsupport_divisor_l0_0 k fuel (x : Int) (y : Int) = some (Nat.gcd x y : Int) := by
  intro n
  induction n with
  | zero => intro fuel x y h; omega
  | succ n ih =>
    intro fuel x y h hf
    obtain ⟨g, rfl⟩ : ∃ g, fuel = g + 1 := ⟨fuel - 1, by omega⟩
    rw [nsupport_divisor_l0_0.eq_2]
    by_cases h0 : y = 0
    · subst h0
      rw [if_pos (show ((0 : Nat) : Int) = 0 from rfl), Nat.gcd_zero_right]
    · rw [if_neg (by omega), if_pos (by omega)]
      have e : ((x : Int).tmod (y : Int)) = ((x % y : Nat) : Int) := by
        rw [Int.tmod_eq_emod_of_nonneg (by omega)]; omega
      rw [e, ih g y (x % y) (by have := Nat.mod_lt x (show 0 < y by omega); omega) (by omega), Nat.gcd_comm x y, Nat.gcd_rec y x, Nat.gcd_comm]
theorem div_sup (k : Nat) (x y : Int) (hx : 0 ≤ x) (hy : 0 ≤ y) (hk : y.natAbs < k) : nsupport_divisor k x y = some (Nat.gcd x.natAbs y.natAbs : Int) := by
  have h := gs k (y.natAbs + 1) k x.natAbs y.natAbs (by omega) (by omega)
  unfold nsupport_divisor
  rw [show ((x.natAbs : Nat) : Int) = x by omega, show ((y.natAbs : Nat) : Int) = y by omega] at h
  rw [h]; rfl
theorem low_sup (k : Nat) (n d : Int) (hk : 9000000000000000000 < k) (hn : 0 ≤ n ∧ n ≤ 9000000000000000000) (hd : 0 < d ∧ d ≤ 9000000000000000000) : nsupport_lowest k n d = some (lowF n d) := by
  unfold nsupport_lowest lowF
  have hg := gcd_pos (x := n) (y := d) (by omega)
  have h1 := tdiv_le n (Nat.gcd n.natAbs d.natAbs : Int)
  have h2 := tdiv_le d (Nat.gcd n.natAbs d.natAbs : Int)
  rw [div_sup k _ _ hn.1 (by omega) (by omega), Option.bind_some, if_pos (by omega), w64_id (by omega) (by omega), w64_id (by omega) (by omega), if_neg (by omega)]
/-! the ratio, and what teeth are allowed -/
structure OKC (r : SFrac) (lo hi : Int) : Prop where
  num : 0 < r.Num ∧ r.Num ≤ 1000000000
  den : 0 < r.Den ∧ r.Den ≤ 1000000000
  loB : 1 ≤ lo ∧ lo ≤ 500
  hiB : 1 ≤ hi ∧ hi ≤ 500
  le : lo ≤ hi
def chE (r : SFrac) (lo hi : Int) : Int := if cf r = 0 then (if r.Num ≤ 0 then 2 else if (1 ≤ lo ∧ lo ≤ 500) ∧ (1 ≤ hi ∧ hi ≤ 500) then (if hi < lo then 9 else 0) else 2) else cf r
theorem chE_ok {r : SFrac} {lo hi : Int} (h : chE r lo hi = 0) : OKC r lo hi := by
  unfold chE at h
  by_cases c : cf r = 0
  · rw [if_pos c] at h
    have ok := ok_of c
    have o1 := ok.den
    have o2 := ok.denB
    have o3 := ok.num
    by_cases c1 : r.Num ≤ 0
    · rw [if_pos c1] at h; omega
    · rw [if_neg c1] at h
      by_cases c2 : (1 ≤ lo ∧ lo ≤ 500) ∧ (1 ≤ hi ∧ hi ≤ 500)
      · rw [if_pos c2] at h
        by_cases c3 : hi < lo
        · rw [if_pos c3] at h; omega
        · exact ⟨by omega, by omega, c2.1, c2.2, by omega⟩
      · rw [if_neg c2] at h; omega
  · rw [if_neg c] at h; exact absurd h c
theorem two_in (k : Nat) (hk : 10 ≤ k) (x y a b : Int) : nsupport_areWithin k x y [a, b] = some (decide ((x ≤ a ∧ a ≤ y) ∧ (x ≤ b ∧ b ≤ y))) := by
  obtain ⟨j, hj⟩ : ∃ j, k = j + 1 + 1 + 1 := ⟨k - 3, by omega⟩
  unfold nsupport_areWithin
  have go : nsupport_areWithin_l0_0 k x y [a, b] (j + 1 + 1 + 1) 0 = some (if (x ≤ a ∧ a ≤ y) ∧ (x ≤ b ∧ b ≤ y) then .inr () else .inl ()) := by
    rw [nsupport_areWithin_l0_0.eq_2, if_pos (by simp), if_pos (by simp), show ([a, b] : List Int).getD (0 : Int).toNat 0 = a from rfl]
    by_cases h1 : a < x
    · rw [if_pos h1, if_neg (by omega)]
    · rw [if_neg h1]
      by_cases h2 : y < a
      · rw [if_pos h2, if_neg (by omega)]
      · rw [if_neg h2, show w64 (0 + 1) = 1 from rfl, nsupport_areWithin_l0_0.eq_2, if_pos (by simp), if_pos (by simp), show ([a, b] : List Int).getD (1 : Int).toNat 0 = b from rfl]
        by_cases h3 : b < x
        · rw [if_pos h3, if_neg (by omega)]
        · rw [if_neg h3]
          by_cases h4 : y < b
          · rw [if_pos h4, if_neg (by omega)]
          · rw [if_neg h4, show w64 (1 + 1) = 2 from rfl, nsupport_areWithin_l0_0.eq_2, if_neg (by simp), if_pos (by omega)]
  rw [← hj] at go
  rw [go, Option.bind_some]
  by_cases h : (x ≤ a ∧ a ≤ y) ∧ (x ≤ b ∧ b ≤ y)
  · rw [if_pos h, decide_eq_true h]
  · rw [if_neg h, decide_eq_false h]
theorem within_b (k : Nat) (a x y : Int) : nspeculumbase_Within k a x y = some (decide (x ≤ a ∧ a ≤ y)) := by
  unfold nspeculumbase_Within
  by_cases c1 : x ≤ a
  · rw [if_pos c1]
    by_cases c2 : a ≤ y
    · rw [decide_eq_true c2, decide_eq_true ⟨c1, c2⟩]
    · rw [decide_eq_false c2, decide_eq_false (fun h => c2 h.2)]
  · rw [if_neg c1, decide_eq_false (fun h => c1 h.1)]
theorem choice_p (k : Nat) (hk : 18446744073709551617 ≤ k) (r : SFrac) (lo hi : Int) (h1 : In64 r.Num) (h2 : In64 r.Den) : nsupport_checkChoice k r lo hi = some (chE r lo hi) ∧ nspeculumref07_CheckSearch k r lo hi = some (chE r lo hi) := by
  unfold nsupport_checkChoice nspeculumref07_CheckSearch chE nspeculumref07_isTeeth
  rw [cf_prog k hk r h1 h2, cf_ref k hk r h1 h2, Option.bind_some, Option.bind_some]
  by_cases c : cf r = 0
  · rw [if_pos c, if_pos c, if_pos c]
    by_cases c1 : r.Num ≤ 0
    · rw [if_pos c1, if_pos c1, if_pos c1]; exact ⟨rfl, rfl⟩
    · rw [if_neg c1, if_neg c1, if_neg c1, two_in k (by omega), within_b, within_b]
      simp only [Option.bind_some]
      by_cases d1 : 1 ≤ lo ∧ lo ≤ 500
      · by_cases d2 : 1 ≤ hi ∧ hi ≤ 500
        · have d3 : (1 ≤ lo ∧ lo ≤ 500) ∧ (1 ≤ hi ∧ hi ≤ 500) := ⟨d1, d2⟩
          rw [if_pos (decide_eq_true d3), if_pos (decide_eq_true d1), if_pos (decide_eq_true d2), if_pos d3]
          by_cases d4 : hi < lo
          · rw [if_pos d4, if_pos d4]; exact ⟨rfl, rfl⟩
          · rw [if_neg d4, if_neg d4]; exact ⟨rfl, rfl⟩
        · have d3 : ¬ ((1 ≤ lo ∧ lo ≤ 500) ∧ (1 ≤ hi ∧ hi ≤ 500)) := fun h => d2 h.2
          rw [decide_eq_false d3, decide_eq_true d1, decide_eq_false d2, if_neg d3]; exact ⟨rfl, rfl⟩
      · have d3 : ¬ ((1 ≤ lo ∧ lo ≤ 500) ∧ (1 ≤ hi ∧ hi ≤ 500)) := fun h => d1 h.1
        rw [decide_eq_false d3, decide_eq_false d1, if_neg d3]; exact ⟨rfl, rfl⟩
  · rw [if_neg c, if_neg c, if_neg c]; exact ⟨rfl, rfl⟩
/-! by how much pairs miss the ratio -/
section
variable {k : Nat} {r : SFrac} {lo hi : Int}
def tth (g : SGearPair) : Prop := (1 ≤ g.Driver ∧ g.Driver ≤ 500) ∧ 1 ≤ g.Driven ∧ g.Driven ≤ 500
instance (g : SGearPair) : Decidable (okG lo hi g) := by unfold okG; exact inferInstance
theorem okG_tth (C : OKC r lo hi) {g : SGearPair} (h : okG lo hi g) : tth g := by
  obtain ⟨⟨h1, h2⟩, h3, h4⟩ := h
  have := C.loB; have := C.hiB
  unfold tth; omega
theorem mulb {x y a b : Int} (hx : 0 ≤ x ∧ x ≤ a) (hy : 0 ≤ y ∧ y ≤ b) : 0 ≤ x * y ∧ x * y ≤ a * b :=
  ⟨Int.mul_nonneg hx.1 hy.1, Int.mul_le_mul hx.2 hy.2 hy.1 (by omega)⟩
theorem of_bd (C : OKC r lo hi) {g : SGearPair} (h : tth g) : (0 ≤ g.Driver * r.Den ∧ g.Driver * r.Den ≤ 500000000000) ∧ (0 ≤ g.Driven * r.Num ∧ g.Driven * r.Num ≤ 500000000000) ∧ 0 ≤ ofI r.Num r.Den g ∧ ofI r.Num r.Den g ≤ 500000000000 := by
  have hn := C.num
  have hd := C.den
  obtain ⟨⟨h1, h2⟩, h3, h4⟩ := h
  have e1 := mulb (x := g.Driver) (y := r.Den) (a := 500) (b := 1000000000) (by omega) (by omega)
  have e2 := mulb (x := g.Driven) (y := r.Num) (a := 500) (b := 1000000000) (by omega) (by omega)
  refine ⟨by omega, by omega, ofI_nn _ _ _, ?_⟩
  unfold ofI
  omega
theorem off_p (C : OKC r lo hi) {g : SGearPair} (h : tth g) : nsupport_off k g r = some (ofI r.Num r.Den g) := by
  obtain ⟨b1, b2, _⟩ := of_bd C h
  unfold nsupport_off maxI
  rw [w64_id (n := g.Driver * r.Den) (by omega) (by omega), w64_id (n := g.Driven * r.Num) (by omega) (by omega), w64_id (n := g.Driver * r.Den - g.Driven * r.Num) (by omega) (by omega), w64_id (n := 0 - _) (by omega) (by omega)]
  unfold ofI
  congr 1
  split <;> omega
theorem off_r (C : OKC r lo hi) {g : SGearPair} (h : tth g) : nspeculumref07_off k r g = some (ofI r.Num r.Den g, g.Driven) := by
  obtain ⟨b1, b2, _⟩ := of_bd C h
  unfold nspeculumref07_off nspeculumbase_Abs
  rw [Int.mul_comm r.Num g.Driven, w64_id (n := g.Driver * r.Den) (by omega) (by omega), w64_id (n := g.Driven * r.Num) (by omega) (by omega), w64_id (n := g.Driver * r.Den - g.Driven * r.Num) (by omega) (by omega)]
  unfold ofI
  by_cases c : g.Driver * r.Den - g.Driven * r.Num < 0
  · rw [if_pos c, w64_id (by omega) (by omega), Option.bind_some]; congr 2; omega
  · rw [if_neg c, Option.bind_some]; congr 2; omega
theorem cross_bd (C : OKC r lo hi) {a b : SGearPair} (ha : tth a) (hb : tth b) : 0 ≤ ofI r.Num r.Den a * b.Driven ∧ ofI r.Num r.Den a * b.Driven ≤ 250000000000000 := by
  obtain ⟨_, _, b1⟩ := of_bd C ha
  have := mulb (x := ofI r.Num r.Den a) (y := b.Driven) (a := 500000000000) (b := 500) b1 (by have := hb.2; omega)
  omega
def cmpI (x y : Int) : Int := if x < y then -1 else if y < x then 1 else 0
theorem compare_p (k : Nat) (x y : Int) : ncmp_Compare_int_ k x y = some (cmpI x y) := by
  unfold ncmp_Compare_int_ ncmp_isNaN_int_ cmpI
  simp only [Option.bind_some]
  have h1 : (decide (x = x)) = true := decide_eq_true rfl
  have h2 : (decide (y = y)) = true := decide_eq_true rfl
  simp
  split
  · rfl
  · split <;> rfl
theorem compOff (C : OKC r lo hi) {a b : SGearPair} (ha : tth a) (hb : tth b) : nsupport_compareOff k a b r = some (cmpI (ofI r.Num r.Den a * b.Driven) (ofI r.Num r.Den b * a.Driven)) := by
  have e1 := cross_bd C ha hb
  have e2 := cross_bd C hb ha
  unfold nsupport_compareOff
  rw [off_p C ha, Option.bind_some, off_p C hb, Option.bind_some, w64_id (by omega) (by omega), w64_id (by omega) (by omega), compare_p]; rfl
theorem cmpI_lt {x y : Int} : cmpI x y < 0 ↔ x < y := by
  unfold cmpI; split
  · omega
  · split <;> omega
theorem cmpI_zero {x y : Int} : cmpI x y = 0 ↔ x = y := by
  unfold cmpI; split
  · omega
  · split <;> omega
theorem or_p (k : Nat) (hk : 10 ≤ k) (a b c : Int) : ncmp_Or_int_ k [a, b, c] = some (if a = 0 then (if b = 0 then c else b) else a) := by
  obtain ⟨j, hj⟩ : ∃ j, k = j + 1 + 1 + 1 + 1 := ⟨k - 4, by omega⟩
  unfold ncmp_Or_int_
  have go : ncmp_Or_int__l0_0 k [a, b, c] (j + 1 + 1 + 1 + 1) 0 = some (if a = 0 then (if b = 0 then (if c = 0 then .inr () else .inl c) else .inl b) else .inl a) := by
    rw [ncmp_Or_int__l0_0.eq_2, if_pos (by simp), if_pos (by simp), show ([a, b, c] : List Int).getD (0 : Int).toNat 0 = a from rfl]
    by_cases h1 : a = 0
    · rw [if_pos h1, if_pos h1, show w64 (0 + 1) = 1 from rfl, ncmp_Or_int__l0_0.eq_2, if_pos (by simp), if_pos (by simp), show ([a, b, c] : List Int).getD (1 : Int).toNat 0 = b from rfl]
      by_cases h2 : b = 0
      · rw [if_pos h2, if_pos h2, show w64 (1 + 1) = 2 from rfl, ncmp_Or_int__l0_0.eq_2, if_pos (by simp), if_pos (by simp), show ([a, b, c] : List Int).getD (2 : Int).toNat 0 = c from rfl]
        by_cases h3 : c = 0
        · rw [if_pos h3, if_pos h3, show w64 (2 + 1) = 3 from rfl, ncmp_Or_int__l0_0.eq_2, if_neg (by simp)]
        · rw [if_neg h3, if_neg h3]
      · rw [if_neg h2, if_neg h2]
    · rw [if_neg h1, if_neg h1]
  rw [← hj] at go
  rw [go, Option.bind_some]
  by_cases h1 : a = 0
  · rw [if_pos h1, if_pos h1]
    by_cases h2 : b = 0
    · rw [if_pos h2, if_pos h2]
      by_cases h3 : c = 0
      · rw [if_pos h3, h3]
      · rw [if_neg h3]
    · rw [if_neg h2, if_neg h2]
  · rw [if_neg h1, if_neg h1]
theorem better_p (hk : 10 ≤ k) (C : OKC r lo hi) {a b : SGearPair} (ha : tth a) (hb : tth b) : nsupport_isBetter k a b r = some (decide (bet r.Num r.Den a b)) := by
  obtain ⟨⟨a1, a2⟩, a3, a4⟩ := id ha
  obtain ⟨⟨b1, b2⟩, b3, b4⟩ := id hb
  unfold nsupport_isBetter
  rw [compOff C ha hb, Option.bind_some, compare_p, Option.bind_some, compare_p, Option.bind_some, or_p k hk, Option.bind_some, w64_id (n := a.Driver + a.Driven) (by omega) (by omega), w64_id (n := b.Driver + b.Driven) (by omega) (by omega)]
  congr 1
  rw [decide_eq_decide]
  unfold bet nea neaE ahead
  have l1 := @cmpI_lt (ofI r.Num r.Den a * b.Driven) (ofI r.Num r.Den b * a.Driven)
  have z1 := @cmpI_zero (ofI r.Num r.Den a * b.Driven) (ofI r.Num r.Den b * a.Driven)
  have l2 := @cmpI_lt (a.Driver + a.Driven) (b.Driver + b.Driven)
  have z2 := @cmpI_zero (a.Driver + a.Driven) (b.Driver + b.Driven)
  have l3 := @cmpI_lt a.Driver b.Driver
  generalize cmpI (ofI r.Num r.Den a * b.Driven) (ofI r.Num r.Den b * a.Driven) = x at *
  generalize cmpI (a.Driver + a.Driven) (b.Driver + b.Driven) = y at *
  generalize cmpI a.Driver b.Driver = z at *
  generalize ofI r.Num r.Den a * b.Driven = u at *
  generalize ofI r.Num r.Den b * a.Driven = v at *
  by_cases h1 : x = 0
  · rw [if_pos h1]
    by_cases h2 : y = 0
    · rw [if_pos h2]; omega
    · rw [if_neg h2]; omega
  · rw [if_neg h1]; omega
theorem nearer_r (C : OKC r lo hi) {a b : SGearPair} (ha : tth a) (hb : tth b) : nspeculumref07_Nearer k r a b = some (decide (nea r.Num r.Den a b)) := by
  have e1 := cross_bd C ha hb
  have e2 := cross_bd C hb ha
  unfold nspeculumref07_Nearer
  rw [off_r C ha, Option.bind_some, off_r C hb, Option.bind_some]
  dsimp only
  rw [w64_id (by omega) (by omega), w64_id (by omega) (by omega)]
  rfl
/-! the best pair of the program -/
def toG (x : Int × Int) : SGearPair := ⟨x.1, x.2⟩
theorem best_p (hk : 10 ≤ k) (C : OKC r lo hi) (rr : Int × Int × Int × Int) : ∀ (xs : List (Int × Int)) (b : SGearPair), (∀ x ∈ xs, okG lo hi (toG x)) → okG lo hi b → nsupport_BestPair_r0 k r lo hi rr xs b.Driver b.Driven = some ((bestL r.Num r.Den (xs.map toG) b).Driver, (bestL r.Num r.Den (xs.map toG) b).Driven)
  | [], b, _, _ => rfl
  | x :: xs, b, h, hb => by
    have hx := h x (by simp)
    have hxs := fun y (hy : y ∈ xs) => h y (by simp [hy])
    rw [nsupport_BestPair_r0.eq_2, show nsupport_isBetter k (⟨x.1, x.2⟩ : SGearPair) (⟨b.Driver, b.Driven⟩ : SGearPair) r = _ from better_p hk C (okG_tth C hx) (okG_tth C hb), Option.bind_some]
    simp only [List.map_cons, bestL]
    by_cases c : bet r.Num r.Den (toG x) b
    · rw [if_pos c, show (⟨x.1, x.2⟩ : SGearPair) = toG x from rfl, show (⟨b.Driver, b.Driven⟩ : SGearPair) = b from rfl, decide_eq_true c, if_pos rfl]
      exact best_p hk C rr xs (toG x) hxs hx
    · rw [if_neg c, show (⟨x.1, x.2⟩ : SGearPair) = toG x from rfl, show (⟨b.Driver, b.Driven⟩ : SGearPair) = b from rfl, decide_eq_false c, if_neg (by simp)]
      exact best_p hk C rr xs b hxs hb
theorem check_p (C : OKC r lo hi) {g : SGearPair} (hg : okG lo hi g) (rr : Int × Int × Int × Int) : ∀ (xs : List (Int × Int)), (∀ x ∈ xs, okG lo hi (toG x)) → nsupport_CheckBest_r0 k r lo hi g rr xs 0 = some (if ∃ c, c ∈ xs.map toG ∧ nea r.Num r.Den c g then .inr 22 else .inl 0)
  | [], _ => by rw [nsupport_CheckBest_r0.eq_1, if_neg (by rintro ⟨c, h, _⟩; cases h)]
  | x :: xs, h => by
    have hx := h x (by simp)
    have hxs := fun y (hy : y ∈ xs) => h y (by simp [hy])
    have hco : nsupport_compareOff k (⟨x.1, x.2⟩ : SGearPair) g r = some (cmpI (ofI r.Num r.Den (toG x) * g.Driven) (ofI r.Num r.Den g * (toG x).Driven)) := compOff C (okG_tth C hx) (okG_tth C hg)
    rw [nsupport_CheckBest_r0.eq_2, hco, Option.bind_some]
    have key := @cmpI_lt (ofI r.Num r.Den (toG x) * g.Driven) (ofI r.Num r.Den g * (toG x).Driven)
    by_cases c : nea r.Num r.Den (toG x) g
    · rw [if_pos (key.2 c), if_pos ⟨toG x, by simp, c⟩]
    · rw [if_neg (fun h => c (key.1 h)), check_p C hg rr xs hxs]
      by_cases e : ∃ c, c ∈ xs.map toG ∧ nea r.Num r.Den c g
      · rw [if_pos e, if_pos (by obtain ⟨y, y1, y2⟩ := e; exact ⟨y, by simp only [List.map_cons, List.mem_cons]; exact .inr y1, y2⟩)]
      · rw [if_neg e, if_neg (by
          rintro ⟨y, y1, y2⟩
          simp only [List.map_cons, List.mem_cons] at y1
          rcases y1 with rfl | y1
          · exact c y2
          · exact e ⟨y, y1, y2⟩)]
/-! the pairs next to the ratio -/
theorem clp_eq (lo hi n : Int) : minI (maxI n lo) hi = clp lo hi n := by
  unfold minI maxI clp
  split <;> split <;> (try split) <;> omega
theorem nearF_ok (C : OKC r lo hi) {y : Int} (h : 1 ≤ y ∧ y ≤ 500) : nearF r.Num r.Den y * r.Den ≤ y * r.Num ∧ y * r.Num < (nearF r.Num r.Den y + 1) * r.Den ∧ 0 ≤ nearF r.Num r.Den y ∧ nearF r.Num r.Den y ≤ 500000000000 := by
  have hn := C.num
  have hd := C.den
  have b := mulb (x := y) (y := r.Num) (a := 500) (b := 1000000000) (by omega) (by omega)
  unfold nearF
  rw [w64_id (n := y * r.Num) (by omega) (by omega)]
  have e := Int.mul_tdiv_add_tmod (y * r.Num) r.Den
  have m1 := Int.tmod_nonneg r.Den b.1
  have m2 := Int.tmod_lt_of_pos (y * r.Num) hd.1
  have q1 : (y * r.Num).tdiv r.Den ≤ y * r.Num := by rw [Int.tdiv_eq_ediv_of_nonneg b.1]; exact Int.ediv_le_self _ b.1
  have q2 : 0 ≤ (y * r.Num).tdiv r.Den := Int.tdiv_nonneg b.1 (by omega)
  rw [w64_id (n := (y * r.Num).tdiv r.Den) (by omega) (by omega)]
  have e2 : r.Den * (y * r.Num).tdiv r.Den = (y * r.Num).tdiv r.Den * r.Den := Int.mul_comm _ _
  have e3 : ((y * r.Num).tdiv r.Den + 1) * r.Den = (y * r.Num).tdiv r.Den * r.Den + r.Den := by grind
  refine ⟨by omega, by omega, q2, by omega⟩
theorem near2_in (C : OKC r lo hi) {y : Int} (h : lo ≤ y ∧ y ≤ hi) : ∀ x ∈ near2 lo hi r.Num r.Den y, okG lo hi (toG x) := by
  intro x hx
  have key : ∀ n, okG lo hi (toG (nearD lo hi r.Num r.Den y n)) := fun n => by
    unfold toG nearD
    dsimp only
    rw [clp_eq]
    exact ⟨clp_in C.le, h⟩
  unfold near2 at hx
  rcases List.mem_cons.1 hx with rfl | hx
  · exact key _
  · rcases List.mem_cons.1 hx with rfl | hx
    · exact key _
    · cases hx
theorem nearL_in (C : OKC r lo hi) : ∀ (d : Nat) (y : Int), lo ≤ y → y + d = hi + 1 → (∀ x ∈ nearL lo hi r.Num r.Den y d, okG lo hi (toG x)) ∧ ∀ z, y ≤ z → z ≤ hi → ∀ x ∈ near2 lo hi r.Num r.Den z, x ∈ nearL lo hi r.Num r.Den y d
  | 0, y, _, h2 => ⟨fun x hx => (by cases hx), fun z h3 h4 => (by omega)⟩
  | d + 1, y, h1, h2 => by
    obtain ⟨i1, i2⟩ := nearL_in C d (y + 1) (by omega) (by omega)
    rw [nearL_eq]
    refine ⟨fun x hx => ?_, fun z h3 h4 x hx => ?_⟩
    · rcases List.mem_append.1 hx with hx | hx
      · exact near2_in C ⟨h1, by omega⟩ x hx
      · exact i1 x hx
    · by_cases e : z = y
      · subst e; exact List.mem_append.2 (.inl hx)
      · exact List.mem_append.2 (.inr (i2 z (by omega) h4 x hx))
theorem near_all (C : OKC r lo hi) : (∀ x ∈ nearAll (lo, hi, r.Num, r.Den), okG lo hi (toG x)) ∧ ∀ y, lo ≤ y → y ≤ hi → ∃ f, f * r.Den ≤ y * r.Num ∧ y * r.Num < (f + 1) * r.Den ∧ ⟨clp lo hi f, y⟩ ∈ (nearAll (lo, hi, r.Num, r.Den)).map toG ∧ ⟨clp lo hi (f + 1), y⟩ ∈ (nearAll (lo, hi, r.Num, r.Den)).map toG := by
  have hle := C.le
  obtain ⟨i1, i2⟩ := nearL_in C (hi + 1 - lo).toNat lo (Int.le_refl _) (by omega)
  refine ⟨i1, fun y h1 h2 => ?_⟩
  obtain ⟨f1, f2, f3, f4⟩ := nearF_ok C (y := y) (by have := C.loB; have := C.hiB; omega)
  refine ⟨nearF r.Num r.Den y, f1, f2, ?_, ?_⟩
  · refine List.mem_map.2 ⟨_, i2 y h1 h2 (nearD lo hi r.Num r.Den y (nearF r.Num r.Den y)) (by unfold near2; simp), ?_⟩
    unfold toG nearD; dsimp only; rw [clp_eq]
  · refine List.mem_map.2 ⟨_, i2 y h1 h2 (nearD lo hi r.Num r.Den y (w64 (nearF r.Num r.Den y + 1))) (by unfold near2; simp), ?_⟩
    unfold toG nearD; dsimp only; rw [clp_eq, w64_id (by omega) (by omega)]
/-! the best pair of the reference -/
theorem ref_l1 (C : OKC r lo hi) (s : Int) (hs : 2 * lo ≤ s ∧ s ≤ 2 * hi) : ∀ (n fuel : Nat) (d : Int) (b : SGearPair), hi + 1 = d + n → n < fuel → lo ≤ d → InvB r.Num r.Den lo hi s d b → ∃ b' : SGearPair, nspeculumref07_BestPair_l1_0 k r lo hi s fuel b.Driver b.Driven d = some (b'.Driver, b'.Driven) ∧ InvB r.Num r.Den lo hi s (hi + 1) b' := by
  have hlo := C.loB
  have hhi := C.hiB
  intro n
  induction n with
  | zero =>
    intro fuel d b he hf hd hI
    obtain ⟨g, rfl⟩ : ∃ g, fuel = g + 1 := ⟨fuel - 1, by omega⟩
    obtain rfl : d = hi + 1 := by omega
    exact ⟨b, by rw [nspeculumref07_BestPair_l1_0.eq_2, if_neg (by omega)], hI⟩
  | succ n ih =>
    intro fuel d b he hf hd hI
    obtain ⟨g, rfl⟩ : ∃ g, fuel = g + 1 := ⟨fuel - 1, by omega⟩
    have hstep := inv_step hlo.1 hs.1 hd (by omega) hI
    have hb := okG_tth C hI.1
    rw [nspeculumref07_BestPair_l1_0.eq_2, if_pos (by omega), w64_id (n := s - d) (by omega) (by omega), within_b, Option.bind_some, w64_id (n := d + 1) (by omega) (by omega)]
    by_cases c1 : lo ≤ s - d ∧ s - d ≤ hi
    · have hd2 : d ≤ hi := by omega
      have hg : tth ⟨d, s - d⟩ := okG_tth C ⟨⟨hd, hd2⟩, c1⟩
      rw [if_pos (decide_eq_true c1), show nspeculumref07_Nearer k r (⟨d, s - d⟩ : SGearPair) (⟨b.Driver, b.Driven⟩ : SGearPair) = _ from nearer_r C hg hb, Option.bind_some]
      by_cases c2 : nea r.Num r.Den ⟨d, s - d⟩ b
      · rw [if_pos (decide_eq_true c2)]
        rw [if_pos ⟨c1, c2⟩] at hstep
        exact ih g (d + 1) ⟨d, s - d⟩ (by omega) (by omega) (by omega) hstep
      · rw [if_neg (by rw [decide_eq_true_eq]; exact c2)]
        rw [if_neg (fun h => c2 h.2)] at hstep
        exact ih g (d + 1) b (by omega) (by omega) (by omega) hstep
    · rw [if_neg (by rw [decide_eq_true_eq]; exact c1)]
      rw [if_neg (fun h => c1 h.1)] at hstep
      exact ih g (d + 1) b (by omega) (by omega) (by omega) hstep
theorem ref_l0 (hk : 2000 ≤ k) (C : OKC r lo hi) : ∀ (n fuel : Nat) (s : Int) (b : SGearPair), 2 * hi + 1 = s + n → n < fuel → 2 * lo ≤ s → InvB r.Num r.Den lo hi s lo b → ∃ b' : SGearPair, nspeculumref07_BestPair_l0_0 k r lo hi fuel b.Driver b.Driven s = some (b'.Driver, b'.Driven) ∧ InvB r.Num r.Den lo hi (2 * hi + 1) lo b' := by
  have hlo := C.loB
  have hhi := C.hiB
  have hle := C.le
  intro n
  induction n with
  | zero =>
    intro fuel s b he hf hd hI
    obtain ⟨g, rfl⟩ : ∃ g, fuel = g + 1 := ⟨fuel - 1, by omega⟩
    obtain rfl : s = 2 * hi + 1 := by omega
    exact ⟨b, by rw [nspeculumref07_BestPair_l0_0.eq_2, w64_id (n := 2 * hi) (by omega) (by omega), if_neg (by omega)], hI⟩
  | succ n ih =>
    intro fuel s b he hf hd hI
    obtain ⟨g, rfl⟩ : ∃ g, fuel = g + 1 := ⟨fuel - 1, by omega⟩
    obtain ⟨b1, e1, i1⟩ := ref_l1 (k := k) C s ⟨hd, by omega⟩ (hi + 1 - lo).toNat k lo b (by omega) (by omega) (Int.le_refl _) hI
    rw [nspeculumref07_BestPair_l0_0.eq_2, w64_id (n := 2 * hi) (by omega) (by omega), if_pos (by omega), e1, Option.bind_some, w64_id (n := s + 1) (by omega) (by omega)]
    exact ih g (s + 1) b1 (by omega) (by omega) (by omega) (inv_next i1)
theorem best_r (hk : 2000 ≤ k) (C : OKC r lo hi) : ∃ b : SGearPair, nspeculumref07_BestPair k r lo hi = some b ∧ InvB r.Num r.Den lo hi (2 * hi + 1) lo b := by
  have hlo := C.loB
  have hhi := C.hiB
  have hle := C.le
  obtain ⟨b, e, i⟩ := ref_l0 hk C (2 * hi + 1 - 2 * lo).toNat k (2 * lo) ⟨lo, lo⟩ (by omega) (by omega) (Int.le_refl _) (inv_start hle)
  refine ⟨b, ?_, i⟩
  unfold nspeculumref07_BestPair
  rw [w64_id (n := 2 * lo) (by omega) (by omega), e]; rfl
/-- the pairs, both. -/
theorem both (hk : 2000 ≤ k) (C : OKC r lo hi) : ∃ b : SGearPair, nspeculumref07_BestPair k r lo hi = some b ∧ nsupport_BestPair_r0 k r lo hi (lo, hi, r.Num, r.Den) (nearAll (lo, hi, r.Num, r.Den)) lo lo = some (b.Driver, b.Driven) ∧ okG lo hi b ∧ (∀ g, okG lo hi g → ¬ nea r.Num r.Den g b) ∧
    ∀ g, okG lo hi g → ((∃ c, c ∈ (nearAll (lo, hi, r.Num, r.Den)).map toG ∧ nea r.Num r.Den c g) ↔ nea r.Num r.Den b g) := by
  obtain ⟨b, e, i⟩ := best_r hk C
  obtain ⟨n1, n2⟩ := near_all C
  have hcs : ∀ g ∈ (nearAll (lo, hi, r.Num, r.Den)).map toG, okG lo hi g := fun g hg => by
    obtain ⟨x, x1, rfl⟩ := List.mem_map.1 hg
    exact n1 x x1
  obtain ⟨s1, s2, s3, s4⟩ := best_same C.num.1 C.den.1 C.loB.1 C.le _ hcs n2 i
  have hp := best_p (k := k) (by omega) C (lo, hi, r.Num, r.Den) (nearAll (lo, hi, r.Num, r.Den)) ⟨lo, lo⟩ n1 ⟨⟨Int.le_refl _, C.le⟩, Int.le_refl _, C.le⟩
  rw [s1] at hp
  have pos : ∀ g, okG lo hi g → 0 < g.Driven := fun g hg => by have := hg.2.1; have := C.loB; omega
  refine ⟨b, e, hp, s2, s3, fun g hg => ⟨?_, fun h => s4 g (pos g hg) h⟩⟩
  rintro ⟨c, c1, c2⟩
  have hc := hcs c c1
  exact le_nea_trans (pos b s2) (pos c hc) (pos g hg) (s3 c hc) c2
theorem okN (C : OKC r lo hi) : NearOK (lo, hi, r.Num, r.Den) := by
  have := C.loB; have := C.hiB; have := C.den
  exact ⟨by dsimp only; omega, by dsimp only; omega, by dsimp only; omega⟩
theorem bestPair_p (hk : 18446744073709551617 ≤ k) (h1 : In64 r.Num) (h2 : In64 r.Den) (h0 : chE r lo hi = 0) {b : SGearPair} (hb : nsupport_BestPair_r0 k r lo hi (lo, hi, r.Num, r.Den) (nearAll (lo, hi, r.Num, r.Den)) lo lo = some (b.Driver, b.Driven)) : nsupport_BestPair k r lo hi = some (b, 0) := by
  unfold nsupport_BestPair nsupport_nearest
  rw [(choice_p k hk r lo hi h1 h2).1, Option.bind_some, if_pos h0, Option.bind_some, if_pos (okN (chE_ok h0)), hb]; rfl
def resB (r : SFrac) (g : SGearPair) (x : Bool) : SFrac × Int := if x = true then (⟨0, 0⟩, 22) else lowS (ofI r.Num r.Den g) (g.Driven * r.Den)
theorem checkBest_p (hk : 18446744073709551617 ≤ k) (h1 : In64 r.Num) (h2 : In64 r.Den) (h0 : chE r lo hi = 0) (g : SGearPair) : ∃ b : SGearPair, nspeculumref07_BestPair k r lo hi = some b ∧ nsupport_CheckBest k r lo hi g = some (if okG lo hi g then resB r g (decide (nea r.Num r.Den b g)) else (⟨0, 0⟩, 2)) ∧ nspeculumref07_CheckBest k r lo hi g = some (if okG lo hi g then resB r g (decide (nea r.Num r.Den b g)) else (⟨0, 0⟩, 2)) := by
  have C := chE_ok h0
  obtain ⟨b, e, _, hbo, _, hiff⟩ := both (k := k) (by omega) C
  refine ⟨b, e, ?_, ?_⟩
  · unfold nsupport_CheckBest nsupport_nearest
    rw [(choice_p k hk r lo hi h1 h2).1, Option.bind_some, if_pos h0, two_in k (by omega), Option.bind_some]
    by_cases hg : okG lo hi g
    · have ht := okG_tth C hg
      rw [if_pos (decide_eq_true (show (lo ≤ g.Driver ∧ g.Driver ≤ hi) ∧ lo ≤ g.Driven ∧ g.Driven ≤ hi from hg)), Option.bind_some, if_pos (okN C), check_p C hg _ _ (near_all C).1, Option.bind_some, if_pos hg]
      unfold resB
      by_cases c : nea r.Num r.Den b g
      · rw [if_pos ((hiff g hg).2 c), if_pos (decide_eq_true c)]
      · rw [if_neg (fun h => c ((hiff g hg).1 h)), if_neg (by rw [decide_eq_true_eq]; exact c)]
        dsimp only
        obtain ⟨_, _, b1⟩ := of_bd C ht
        have hd := C.den
        have b2 := mulb (x := g.Driven) (y := r.Den) (a := 500) (b := 1000000000) (by have := ht.2; omega) (by omega)
        have b3 : 0 < g.Driven * r.Den := Int.mul_pos (by have := ht.2; omega) hd.1
        rw [off_p C ht, Option.bind_some, w64_id (n := g.Driven * r.Den) (by omega) (by omega)]
        unfold nsupport_small
        obtain ⟨i1, i2⟩ := lowF_in (ofI r.Num r.Den g) (g.Driven * r.Den) (by omega) (by omega)
        rw [low_sup k _ _ (by omega) (by omega) (by omega), Option.bind_some, cf_prog k hk _ i1 i2, Option.bind_some]
        unfold lowS
        by_cases z : cf (lowF (ofI r.Num r.Den g) (g.Driven * r.Den)) = 0
        · rw [if_pos z, if_pos z]; rfl
        · rw [if_neg z, if_neg z]; rfl
    · rw [decide_eq_false (show ¬ ((lo ≤ g.Driver ∧ g.Driver ≤ hi) ∧ lo ≤ g.Driven ∧ g.Driven ≤ hi) from hg), if_neg (by simp), if_neg hg]
  · unfold nspeculumref07_CheckBest
    rw [within_b, Option.bind_some]
    by_cases c1 : lo ≤ g.Driver ∧ g.Driver ≤ hi
    · rw [if_pos (decide_eq_true c1), within_b, Option.bind_some]
      by_cases c2 : lo ≤ g.Driven ∧ g.Driven ≤ hi
      · have hg : okG lo hi g := ⟨c1, c2⟩
        have ht := okG_tth C hg
        rw [if_pos (decide_eq_true c2), e, Option.bind_some, nearer_r C (okG_tth C hbo) ht, Option.bind_some, if_pos hg]
        unfold resB
        by_cases c : nea r.Num r.Den b g
        · rw [if_pos (decide_eq_true c), if_pos (decide_eq_true c)]
        · rw [if_neg (by rw [decide_eq_true_eq]; exact c), if_neg (by rw [decide_eq_true_eq]; exact c)]
          obtain ⟨_, _, b1⟩ := of_bd C ht
          have hd := C.den
          have b2 := mulb (x := g.Driven) (y := r.Den) (a := 500) (b := 1000000000) (by have := ht.2; omega) (by omega)
          have b3 : 0 < g.Driven * r.Den := Int.mul_pos (by have := ht.2; omega) hd.1
          rw [off_r C ht, Option.bind_some]
          dsimp only
          rw [w64_id (n := g.Driven * r.Den) (by omega) (by omega)]
          obtain ⟨i1, i2⟩ := lowF_in (ofI r.Num r.Den g) (g.Driven * r.Den) (by omega) (by omega)
          rw [low_base k _ _ (by omega) (by omega) (by omega) (by omega), Option.bind_some, cf_ref k hk _ i1 i2, Option.bind_some]
          unfold lowS
          by_cases z : cf (lowF (ofI r.Num r.Den g) (g.Driven * r.Den)) = 0
          · rw [if_pos z, if_pos z]
          · rw [if_neg z, if_neg z]
      · rw [if_neg (by rw [decide_eq_true_eq]; exact c2), if_neg (fun h => c2 h.2)]
    · rw [if_neg (by rw [decide_eq_true_eq]; exact c1), if_neg (fun h => c1 h.1)]
end
end Go.Proofs.Ytgicjogbpmpjeaa.Vg

/- Sines by whole numbers, two ways: what a check of all angles of an eighth tells. No Go in sight. -/
import Derived.Test.YtfnmnnbmhfbkbaaBb
set_option linter.unusedVariables false
set_option linter.unusedSimpArgs false
namespace Go.Proofs.Ytfnmnnbmhfbkbaa

/-! The terms of both series. -/
def eT : Nat → Nat → Nat
  | 0, _ => 1000000000
  | j + 1, q => eT j q * q / (1000000000 * (2 * j + 1) * (2 * j + 2))
def oT : Nat → Nat → Nat → Nat
  | 0, x, _ => x
  | j + 1, x, q => oT j x q * q / (1000000000 * (2 * j + 2) * (2 * j + 3))
def sgn (j : Nat) : Int := if j % 2 = 0 then 1 else -1
theorem sgn_succ (j : Nat) : sgn (j + 1) = -sgn j := by unfold sgn; split <;> split <;> omega
theorem sgn_cases (j : Nat) : sgn j = 1 ∨ sgn j = -1 := by unfold sgn; split <;> simp
/-- The sums of f terms from the j-th one on. -/
def aE : Nat → Nat → Nat → Int
  | 0, _, _ => 0
  | f + 1, j, q => sgn j * (eT j q : Nat) + aE f (j + 1) q
def aO : Nat → Nat → Nat → Nat → Int
  | 0, _, _, _ => 0
  | f + 1, j, x, q => sgn j * (oT j x q : Nat) + aO f (j + 1) x q

theorem tdiv_nat (m n : Nat) : (m : Int).tdiv (n : Int) = ((m / n : Nat) : Int) := rfl
theorem ndiv (a b : Nat) : Nat.div a b = a / b := rfl
theorem tdiv_sgn (j : Nat) (e q D : Nat) : (-(sgn j * (e : Int)) * (q : Int)).tdiv (D : Int) = sgn (j + 1) * ((e * q / D : Nat) : Int) := by
  rw [sgn_succ]
  rcases sgn_cases j with h | h <;> rw [h]
  · rw [Int.one_mul, Int.neg_mul, Int.neg_tdiv, ← Int.natCast_mul, tdiv_nat, Int.neg_mul, Int.one_mul]
  · rw [show -(-1 * (e : Int)) = e by omega, ← Int.natCast_mul, tdiv_nat, Int.neg_neg, Int.one_mul]

theorem stE_sgn (j : Nat) (q : Nat) : stE (2 * (j : Int) + 2) (sgn j * (eT j q : Nat)) q = sgn (j + 1) * (eT (j + 1) q : Nat) := by
  unfold stE
  have : (1000000000 * (2 * (j : Int) + 2 - 1) * (2 * (j : Int) + 2)) = ((1000000000 * (2 * j + 1) * (2 * j + 2) : Nat) : Int) := by
    rw [show 2 * (j : Int) + 2 - 1 = 2 * (j : Int) + 1 by omega]; simp only [Int.natCast_mul, Int.natCast_add, Int.cast_ofNat_Int]
  rw [this]
  exact tdiv_sgn j _ _ _
theorem stO_sgn (j : Nat) (x q : Nat) : stO (2 * (j : Int) + 2) (sgn j * (oT j x q : Nat)) q = sgn (j + 1) * (oT (j + 1) x q : Nat) := by
  unfold stO
  have : (1000000000 * (2 * (j : Int) + 2) * (2 * (j : Int) + 2 + 1)) = ((1000000000 * (2 * j + 2) * (2 * j + 3) : Nat) : Int) := by
    rw [show 2 * (j : Int) + 2 + 1 = 2 * (j : Int) + 3 by omega]; simp only [Int.natCast_mul, Int.natCast_add, Int.cast_ofNat_Int]
  rw [this]
  exact tdiv_sgn j _ _ _

theorem oT_le (x q : Nat) (hx : x ≤ 1000000000) : ∀ j, oT j x q ≤ eT j q := by
  intro j
  induction j with
  | zero => exact hx
  | succ j ih =>
    show oT j x q * q / (1000000000 * (2 * j + 2) * (2 * j + 3)) ≤ eT j q * q / (1000000000 * (2 * j + 1) * (2 * j + 2))
    refine Nat.le_trans (Nat.div_le_div_left (?_ : 1000000000 * (2 * j + 1) * (2 * j + 2) ≤ _) ?_) (Nat.div_le_div_right (Nat.mul_le_mul_right _ ih))
    · exact Nat.mul_le_mul (Nat.mul_le_mul_left _ (by omega)) (by omega)
    · exact Nat.mul_pos (by omega) (by omega)

/-- The program's series: sums of all terms. -/
theorem serGo_sum (x q : Nat) (hx : x ≤ 1000000000) : ∀ (f j : Nat) (c s : Int),
    serGo f (2 * (j : Int) + 2) (sgn j * (eT j q : Nat)) (sgn j * (oT j x q : Nat)) c s q = (s + aO f (j + 1) x q, c + aE f (j + 1) q) := by
  intro f
  induction f with
  | zero => intro j c s; simp [serGo, aO, aE]
  | succ f ih =>
    intro j c s
    unfold serGo
    split
    · rename_i h
      have he : eT j q = 0 := by rcases sgn_cases j with h' | h' <;> rw [h'] at h <;> omega
      have ho : oT j x q = 0 := by have := oT_le x q hx j; omega
      have hz : ∀ f i, eT i q = 0 → aE f i q = 0 := by
        intro f; induction f with
        | zero => intro i _; rfl
        | succ f ih => intro i h; have h1 : eT (i + 1) q = 0 := by show eT i q * q / _ = 0; rw [h, Nat.zero_mul, Nat.zero_div]
                       simp [aE, h, ih (i + 1) h1]
      have hz' : ∀ f i, oT i x q = 0 → aO f i x q = 0 := by
        intro f; induction f with
        | zero => intro i _; rfl
        | succ f ih => intro i h; have h1 : oT (i + 1) x q = 0 := by show oT i x q * q / _ = 0; rw [h, Nat.zero_mul, Nat.zero_div]
                       simp [aO, h, ih (i + 1) h1]
      have h1 : eT (j + 1) q = 0 := by show eT j q * q / _ = 0; rw [he, Nat.zero_mul, Nat.zero_div]
      have h2 : oT (j + 1) x q = 0 := by show oT j x q * q / _ = 0; rw [ho, Nat.zero_mul, Nat.zero_div]
      rw [hz _ _ h1, hz' _ _ h2]; simp
    · rw [stE_sgn, stO_sgn, show 2 * (j : Int) + 2 + 2 = 2 * ((j + 1 : Nat) : Int) + 2 by push_cast; omega, ih (j + 1)]
      simp only [aE, aO, Int.add_assoc]

theorem eT6 {q : Nat} (h : q ≤ 616850276) : eT 6 q = 0 := by
  have st : ∀ (e D B C : Nat), e ≤ B → B * 616850276 / D ≤ C → e * q / D ≤ C := fun e D B C h1 h2 => Nat.le_trans (Nat.div_le_div_right (Nat.mul_le_mul h1 h)) h2
  have h1 : eT 1 q ≤ 308425138 := st 1000000000 _ _ _ (Nat.le_refl _) (by decide)
  have h2 : eT 2 q ≤ 15854345 := st (eT 1 q) _ _ _ h1 (by decide)
  have h3 : eT 3 q ≤ 325992 := st (eT 2 q) _ _ _ h2 (by decide)
  have h4 : eT 4 q ≤ 3591 := st (eT 3 q) _ _ _ h3 (by decide)
  have h5 : eT 5 q ≤ 25 := st (eT 4 q) _ _ _ h4 (by decide)
  have h6 : eT 6 q ≤ 0 := st (eT 5 q) _ _ _ h5 (by decide)
  omega
theorem eT_zero {q i : Nat} (h : eT i q = 0) : eT (i + 1) q = 0 := by show eT i q * q / _ = 0; rw [h, Nat.zero_mul, Nat.zero_div]
theorem oT_zero {x q i : Nat} (h : oT i x q = 0) : oT (i + 1) x q = 0 := by show oT i x q * q / _ = 0; rw [h, Nat.zero_mul, Nat.zero_div]
theorem aE_zero {q : Nat} : ∀ (f i : Nat), eT i q = 0 → aE f i q = 0 := by
  intro f; induction f with
  | zero => intro i _; rfl
  | succ f ih => intro i h; simp [aE, h, ih (i + 1) (eT_zero h)]
theorem aO_zero {x q : Nat} : ∀ (f i : Nat), oT i x q = 0 → aO f i x q = 0 := by
  intro f; induction f with
  | zero => intro i _; rfl
  | succ f ih => intro i h; simp [aO, h, ih (i + 1) (oT_zero h)]

/-- The series at an arc: six terms. -/
def nS (x : Nat) : Int := (x : Int) - oT 1 x (x * x / 1000000000) + oT 2 x (x * x / 1000000000) - oT 3 x (x * x / 1000000000) + oT 4 x (x * x / 1000000000) - oT 5 x (x * x / 1000000000)
def nC (x : Nat) : Int := 1000000000 - eT 1 (x * x / 1000000000) + eT 2 (x * x / 1000000000) - eT 3 (x * x / 1000000000) + eT 4 (x * x / 1000000000) - eT 5 (x * x / 1000000000)
theorem sq_le8 {x : Nat} (h : x ≤ 785398164) : x * x / 1000000000 ≤ 616850276 :=
  Nat.le_trans (Nat.div_le_div_right (Nat.mul_le_mul h h)) (by decide)
theorem aE_six {x f : Nat} (h : x ≤ 785398164) (c : Int) : c + aE (f + 5) 1 (x * x / 1000000000) = c - eT 1 (x * x / 1000000000) + eT 2 (x * x / 1000000000) - eT 3 (x * x / 1000000000) + eT 4 (x * x / 1000000000) - eT 5 (x * x / 1000000000) := by
  have := aE_zero f 6 (eT6 (sq_le8 h))
  simp only [aE, sgn, Nat.reduceAdd, this]
  simp
  omega
theorem aO_six {x f : Nat} (h : x ≤ 785398164) (c : Int) : c + aO (f + 5) 1 x (x * x / 1000000000) = c - oT 1 x (x * x / 1000000000) + oT 2 x (x * x / 1000000000) - oT 3 x (x * x / 1000000000) + oT 4 x (x * x / 1000000000) - oT 5 x (x * x / 1000000000) := by
  have h6 : oT 6 x (x * x / 1000000000) = 0 := by have := oT_le x (x * x / 1000000000) (by omega) 6; rw [eT6 (sq_le8 h)] at this; omega
  have := aO_zero f 6 h6
  simp only [aO, sgn, Nat.reduceAdd, this]
  simp
  omega

/-- The arcs. -/
def xN (a : Nat) : Nat := a * 3141592654 / 648000
def xR (a : Nat) : Nat := a * 3141592653590 / 648000 / 1000
theorem xN_le {a : Nat} (h : a ≤ 162000) : xN a ≤ 785398164 := by unfold xN; omega
theorem xR_le {a : Nat} (h : a ≤ 162000) : xR a ≤ 785398164 := by unfold xR; omega

theorem serN_eq {a : Nat} (h : a ≤ 162000) : serN a = (nS (xN a), nC (xN a)) := by
  have e1 : arcN a = (xN a : Nat) := by unfold arcN xN; omega
  have e2 : sqrN a = (xN a * xN a / 1000000000 : Nat) := by unfold sqrN; rw [e1, ← Int.natCast_mul]; rfl
  unfold serN
  rw [e1, e2]
  have := serGo_sum (xN a) (xN a * xN a / 1000000000) (by have := xN_le h; omega) 40 0 1000000000 (xN a)
  rw [show sgn 0 = 1 from rfl, show eT 0 (xN a * xN a / 1000000000) = 1000000000 from rfl, show oT 0 (xN a) (xN a * xN a / 1000000000) = xN a from rfl, Int.one_mul, Int.one_mul] at this
  have e3 : serGo 40 2 1000000000 (xN a) 1000000000 (xN a) (xN a * xN a / 1000000000 : Nat) = _ := this
  rw [e3, show 40 = 35 + 5 from rfl, Nat.zero_add, aE_six (f := 35) (xN_le h), aO_six (f := 35) (xN_le h)]
  rfl

/-- The reference's series. -/
def serR : Nat → Int → Int → Int → Int → Int → Int → Int × Int
  | 0, _, _, _, cs, sn, _ => (sn, cs)
  | f + 1, k, c, s, cs, sn, q => serR f (k + 2) (((-c * q).tdiv 1000000000).tdiv (k * (k + 1))) (((-s * q).tdiv 1000000000).tdiv ((k + 1) * (k + 2))) (cs + c) (sn + s) q
theorem tdiv_sgn2 (j : Nat) (e q D : Nat) : ((-(sgn j * (e : Int)) * (q : Int)).tdiv 1000000000).tdiv (D : Int) = sgn (j + 1) * ((e * q / (1000000000 * D) : Nat) : Int) := by
  have h := tdiv_sgn j e q 1000000000
  rw [show ((1000000000 : Nat) : Int) = 1000000000 from rfl] at h
  rw [h]
  rw [← Nat.div_div_eq_div_mul]
  rcases sgn_cases (j + 1) with h | h <;> rw [h]
  · rw [Int.one_mul, Int.one_mul, tdiv_nat]
  · rw [Int.neg_mul, Int.one_mul, Int.neg_tdiv, tdiv_nat, Int.neg_mul, Int.one_mul]
theorem serR_sum (x q : Nat) : ∀ (f j : Nat) (c s : Int),
    serR f (2 * (j : Int) + 1) (sgn j * (eT j q : Nat)) (sgn j * (oT j x q : Nat)) c s q = (s + aO f j x q, c + aE f j q) := by
  intro f
  induction f with
  | zero => intro j c s; simp [serR, aO, aE]
  | succ f ih =>
    intro j c s
    have h1 : ((-(sgn j * (eT j q : Nat)) * (q : Int)).tdiv 1000000000).tdiv ((2 * (j : Int) + 1) * (2 * (j : Int) + 1 + 1)) = sgn (j + 1) * (eT (j + 1) q : Nat) := by
      have : ((2 * (j : Int) + 1) * (2 * (j : Int) + 1 + 1)) = (((2 * j + 1) * (2 * j + 2) : Nat) : Int) := by simp only [Int.natCast_mul, Int.natCast_add, Int.cast_ofNat_Int]; rfl
      rw [this, tdiv_sgn2, ← Nat.mul_assoc]; rfl
    have h2 : ((-(sgn j * (oT j x q : Nat)) * (q : Int)).tdiv 1000000000).tdiv ((2 * (j : Int) + 1 + 1) * (2 * (j : Int) + 1 + 2)) = sgn (j + 1) * (oT (j + 1) x q : Nat) := by
      have : ((2 * (j : Int) + 1 + 1) * (2 * (j : Int) + 1 + 2)) = (((2 * j + 2) * (2 * j + 3) : Nat) : Int) := by simp only [Int.natCast_mul, Int.natCast_add, Int.cast_ofNat_Int]; rfl
      rw [this, tdiv_sgn2, ← Nat.mul_assoc]; rfl
    unfold serR
    rw [h1, h2, show 2 * (j : Int) + 1 + 2 = 2 * ((j + 1 : Nat) : Int) + 1 by push_cast; omega, ih (j + 1)]
    simp only [aE, aO, Int.add_assoc]
/-- The reference's series at an angle: (sine, cosine). -/
def serQ (a : Int) : Int × Int := serR 8 1 1000000000 (a * 3141592653590 / 648000 / 1000) 0 0 ((a * 3141592653590 / 648000 / 1000) * (a * 3141592653590 / 648000 / 1000) / 1000000000)
theorem serQ_eq {a : Nat} (h : a ≤ 162000) : serQ a = (nS (xR a), nC (xR a)) := by
  have e1 : (a : Int) * 3141592653590 / 648000 / 1000 = (xR a : Nat) := by unfold xR; omega
  have e2 : (xR a : Int) * (xR a : Int) / 1000000000 = (xR a * xR a / 1000000000 : Nat) := by rw [← Int.natCast_mul]; rfl
  unfold serQ
  rw [e1, e2]
  have := serR_sum (xR a) (xR a * xR a / 1000000000) 8 0 0 0
  rw [show sgn 0 = 1 from rfl, show eT 0 (xR a * xR a / 1000000000) = 1000000000 from rfl, show oT 0 (xR a) (xR a * xR a / 1000000000) = xR a from rfl, Int.one_mul, Int.one_mul, Int.zero_add, Int.zero_add] at this
  have e3 : serR 8 1 1000000000 (xR a) 0 0 (xR a * xR a / 1000000000 : Nat) = _ := this
  have s1 : aE 8 0 (xR a * xR a / 1000000000) = 1000000000 + aE (2 + 5) 1 (xR a * xR a / 1000000000) := by show 1 * ((1000000000 : Nat) : Int) + aE 7 1 _ = _; rw [Int.one_mul]; rfl
  have s2 : aO 8 0 (xR a) (xR a * xR a / 1000000000) = (xR a : Nat) + aO (2 + 5) 1 (xR a) (xR a * xR a / 1000000000) := by show 1 * ((xR a : Nat) : Int) + aO 7 1 _ _ = _; rw [Int.one_mul]
  rw [e3, s1, s2, aE_six (f := 2) (xR_le h), aO_six (f := 2) (xR_le h)]
  rfl

/-! The check. -/
/-- The value of a term with a number that is at hand, so that the number is told once. -/
def force (n : Nat) (k : Nat → Bool) : Bool := Nat.rec (k 0) (fun m _ => k (Nat.succ m)) n
theorem force_eq (n : Nat) (k : Nat → Bool) : force n k = k n := by cases n <;> rfl
/-- The series at an arc, told to what goes on with it: the sine and the cosine. -/
def withSer (x : Nat) (k : Nat → Nat → Bool) : Bool :=
  force x fun x =>
  force (Nat.div (Nat.mul x x) 1000000000) fun q =>
  force (Nat.div (Nat.mul 1000000000 q) 2000000000) fun e1 =>
  force (Nat.div (Nat.mul e1 q) 12000000000) fun e2 =>
  force (Nat.div (Nat.mul e2 q) 30000000000) fun e3 =>
  force (Nat.div (Nat.mul e3 q) 56000000000) fun e4 =>
  force (Nat.div (Nat.mul e4 q) 90000000000) fun e5 =>
  force (Nat.div (Nat.mul x q) 6000000000) fun o1 =>
  force (Nat.div (Nat.mul o1 q) 20000000000) fun o2 =>
  force (Nat.div (Nat.mul o2 q) 42000000000) fun o3 =>
  force (Nat.div (Nat.mul o3 q) 72000000000) fun o4 =>
  force (Nat.div (Nat.mul o4 q) 110000000000) fun o5 =>
  force (Nat.sub (Nat.add 1000000000 (Nat.add e2 e4)) (Nat.add e1 (Nat.add e3 e5))) fun c =>
  force (Nat.sub (Nat.add x (Nat.add o2 o4)) (Nat.add o1 (Nat.add o3 o5))) fun s =>
  and (Nat.ble (Nat.add e1 (Nat.add e3 e5)) (Nat.add 1000000000 (Nat.add e2 e4))) (and (Nat.ble (Nat.add o1 (Nat.add o3 o5)) (Nat.add x (Nat.add o2 o4))) (k s c))
theorem withSer_out {x : Nat} {k : Nat → Nat → Bool} (h : withSer x k = true) : ∃ s c : Nat, nS x = s ∧ nC x = c ∧ k s c = true := by
  simp only [withSer, force_eq, Bool.and_eq_true] at h
  obtain ⟨h1, h2, h3⟩ := h
  refine ⟨_, _, ?_, ?_, h3⟩
  · have h2 := Nat.le_of_ble_eq_true h2
    simp only [Nat.mul_eq, ndiv, Nat.add_eq, Nat.sub_eq] at h2 ⊢
    unfold nS
    simp only [oT, Nat.reduceMul, Nat.reduceAdd]
    omega
  · have h1 := Nat.le_of_ble_eq_true h1
    simp only [Nat.mul_eq, ndiv, Nat.add_eq, Nat.sub_eq] at h1 ⊢
    unfold nC
    simp only [eT, Nat.reduceMul, Nat.reduceAdd]
    omega

/-- The series at an arc Y, if that of an arc y is at hand. -/
def also (y Y s c : Nat) (k : Nat → Nat → Bool) : Bool := cond (Nat.beq y Y) (k s c) (withSer Y k)
theorem also_out {y Y s c : Nat} {k : Nat → Nat → Bool} (h : also y Y s c k = true) (h1 : nS y = s) (h2 : nC y = c) : ∃ s c : Nat, nS Y = s ∧ nC Y = c ∧ k s c = true := by
  unfold also at h
  cases e : Nat.beq y Y with
  | true => rw [e] at h; have := Nat.eq_of_beq_eq_true e; subst this; exact ⟨s, c, h1, h2, h⟩
  | false => rw [e] at h; exact withSer_out h
/-- What is asked of an angle: both series are near; the next sine is not less, the next cosine not greater, but for little; the squares add up. -/
def chk (a : Nat) : Bool :=
  withSer (Nat.div (Nat.mul a 3141592654) 648000) fun s c =>
  also (Nat.div (Nat.mul a 3141592654) 648000) (Nat.div (Nat.div (Nat.mul a 3141592653590) 648000) 1000) s c fun S C =>
  withSer (Nat.div (Nat.mul (Nat.succ a) 3141592654) 648000) fun s' c' =>
  and (Nat.ble s (Nat.add S 5)) (and (Nat.ble S (Nat.add s 5)) (and (Nat.ble c (Nat.add C 5)) (and (Nat.ble C (Nat.add c 5))
    (and (Nat.ble s (Nat.add s' 5)) (and (Nat.ble c' (Nat.add c 5))
    (and (Nat.ble (Nat.add (Nat.mul (Nat.sub s 20) (Nat.sub s 20)) (Nat.mul (Nat.sub c 20) (Nat.sub c 20))) 1000000000000000000)
    (and (Nat.ble 1000000000000000000 (Nat.add (Nat.mul (Nat.add s 20) (Nat.add s 20)) (Nat.mul (Nat.add c 20) (Nat.add c 20))))
    (and (Nat.ble s (Nat.add c 5)) (and (Nat.ble c 1000000000) (and (Nat.ble (Nat.mul a 1000) s) (Nat.ble 700000000 c)))))))))))
structure Near (a : Nat) (s c S C s' c' : Nat) : Prop where
  ns : nS (xN a) = s
  nc : nC (xN a) = c
  rs : nS (xR a) = S
  rc : nC (xR a) = C
  ns' : nS (xN (a + 1)) = s'
  nc' : nC (xN (a + 1)) = c'
  a1 : s ≤ S + 5
  a2 : S ≤ s + 5
  a3 : c ≤ C + 5
  a4 : C ≤ c + 5
  m1 : s ≤ s' + 5
  m2 : c' ≤ c + 5
  q1 : (s - 20) * (s - 20) + (c - 20) * (c - 20) ≤ 1000000000000000000
  q2 : 1000000000000000000 ≤ (s + 20) * (s + 20) + (c + 20) * (c + 20)
  z1 : s ≤ c + 5
  z2 : c ≤ 1000000000
  z3 : a * 1000 ≤ s
  z4 : 700000000 ≤ c
theorem chk_out {a : Nat} (h : chk a = true) : ∃ s c S C s' c', Near a s c S C s' c' := by
  unfold chk at h
  obtain ⟨s, c, h1, h2, h⟩ := withSer_out h
  obtain ⟨S, C, h3, h4, h⟩ := also_out h h1 h2
  obtain ⟨s', c', h5, h6, h⟩ := withSer_out h
  simp only [Bool.and_eq_true] at h
  obtain ⟨a1, a2, a3, a4, m1, m2, q1, q2, z1, z2, z3, z4⟩ := h
  exact ⟨s, c, S, C, s', c', h1, h2, h3, h4, h5, h6, Nat.le_of_ble_eq_true a1, Nat.le_of_ble_eq_true a2, Nat.le_of_ble_eq_true a3, Nat.le_of_ble_eq_true a4, Nat.le_of_ble_eq_true m1, Nat.le_of_ble_eq_true m2,
    Nat.le_of_ble_eq_true q1, Nat.le_of_ble_eq_true q2, Nat.le_of_ble_eq_true z1, Nat.le_of_ble_eq_true z2, Nat.le_of_ble_eq_true z3, Nat.le_of_ble_eq_true z4⟩
def allB (start n : Nat) : Bool := Nat.rec true (fun i ih => and (chk (Nat.add start i)) ih) n
theorem allB_out (start : Nat) : ∀ n, allB start n = true → ∀ i, i < n → chk (start + i) = true := by
  intro n
  induction n with
  | zero => intro _ i hi; omega
  | succ n ih =>
    intro h i hi
    have h' : and (chk (Nat.add start n)) (allB start n) = true := h
    rw [Bool.and_eq_true] at h'
    by_cases e : i = n
    · subst e; exact h'.1
    · exact ih h'.2 i (by omega)

theorem chunk0 : allB 0 9000 = true := by decide +kernel
theorem chunk1 : allB 9000 9000 = true := by decide +kernel
theorem chunk2 : allB 18000 9000 = true := by decide +kernel
theorem chunk3 : allB 27000 9000 = true := by decide +kernel
theorem chunk4 : allB 36000 9000 = true := by decide +kernel
theorem chunk5 : allB 45000 9000 = true := by decide +kernel
theorem chunk6 : allB 54000 9000 = true := by decide +kernel
theorem chunk7 : allB 63000 9000 = true := by decide +kernel
theorem chunk8 : allB 72000 9000 = true := by decide +kernel
theorem chunk9 : allB 81000 9000 = true := by decide +kernel
theorem chunk10 : allB 90000 9000 = true := by decide +kernel
theorem chunk11 : allB 99000 9000 = true := by decide +kernel
theorem chunk12 : allB 108000 9000 = true := by decide +kernel
theorem chunk13 : allB 117000 9000 = true := by decide +kernel
theorem chunk14 : allB 126000 9000 = true := by decide +kernel
theorem chunk15 : allB 135000 9000 = true := by decide +kernel
theorem chunk16 : allB 144000 9000 = true := by decide +kernel
theorem chunk17 : allB 153000 9001 = true := by decide +kernel
theorem near_all {a : Nat} (h : a ≤ 162000) : ∃ s c S C s' c', Near a s c S C s' c' := by
  refine chk_out ?_
  rcases Nat.lt_or_ge a 9000 with g0 | g0
  · have := allB_out 0 9000 chunk0 (a - 0) (by omega); rwa [show 0 + (a - 0) = a by omega] at this
  rcases Nat.lt_or_ge a 18000 with g1 | g1
  · have := allB_out 9000 9000 chunk1 (a - 9000) (by omega); rwa [show 9000 + (a - 9000) = a by omega] at this
  rcases Nat.lt_or_ge a 27000 with g2 | g2
  · have := allB_out 18000 9000 chunk2 (a - 18000) (by omega); rwa [show 18000 + (a - 18000) = a by omega] at this
  rcases Nat.lt_or_ge a 36000 with g3 | g3
  · have := allB_out 27000 9000 chunk3 (a - 27000) (by omega); rwa [show 27000 + (a - 27000) = a by omega] at this
  rcases Nat.lt_or_ge a 45000 with g4 | g4
  · have := allB_out 36000 9000 chunk4 (a - 36000) (by omega); rwa [show 36000 + (a - 36000) = a by omega] at this
  rcases Nat.lt_or_ge a 54000 with g5 | g5
  · have := allB_out 45000 9000 chunk5 (a - 45000) (by omega); rwa [show 45000 + (a - 45000) = a by omega] at this
  rcases Nat.lt_or_ge a 63000 with g6 | g6
  · have := allB_out 54000 9000 chunk6 (a - 54000) (by omega); rwa [show 54000 + (a - 54000) = a by omega] at this
  rcases Nat.lt_or_ge a 72000 with g7 | g7
  · have := allB_out 63000 9000 chunk7 (a - 63000) (by omega); rwa [show 63000 + (a - 63000) = a by omega] at this
  rcases Nat.lt_or_ge a 81000 with g8 | g8
  · have := allB_out 72000 9000 chunk8 (a - 72000) (by omega); rwa [show 72000 + (a - 72000) = a by omega] at this
  rcases Nat.lt_or_ge a 90000 with g9 | g9
  · have := allB_out 81000 9000 chunk9 (a - 81000) (by omega); rwa [show 81000 + (a - 81000) = a by omega] at this
  rcases Nat.lt_or_ge a 99000 with g10 | g10
  · have := allB_out 90000 9000 chunk10 (a - 90000) (by omega); rwa [show 90000 + (a - 90000) = a by omega] at this
  rcases Nat.lt_or_ge a 108000 with g11 | g11
  · have := allB_out 99000 9000 chunk11 (a - 99000) (by omega); rwa [show 99000 + (a - 99000) = a by omega] at this
  rcases Nat.lt_or_ge a 117000 with g12 | g12
  · have := allB_out 108000 9000 chunk12 (a - 108000) (by omega); rwa [show 108000 + (a - 108000) = a by omega] at this
  rcases Nat.lt_or_ge a 126000 with g13 | g13
  · have := allB_out 117000 9000 chunk13 (a - 117000) (by omega); rwa [show 117000 + (a - 117000) = a by omega] at this
  rcases Nat.lt_or_ge a 135000 with g14 | g14
  · have := allB_out 126000 9000 chunk14 (a - 126000) (by omega); rwa [show 126000 + (a - 126000) = a by omega] at this
  rcases Nat.lt_or_ge a 144000 with g15 | g15
  · have := allB_out 135000 9000 chunk15 (a - 135000) (by omega); rwa [show 135000 + (a - 135000) = a by omega] at this
  rcases Nat.lt_or_ge a 153000 with g16 | g16
  · have := allB_out 144000 9000 chunk16 (a - 144000) (by omega); rwa [show 144000 + (a - 144000) = a by omega] at this
  have := allB_out 153000 9001 chunk17 (a - 153000) (by omega); rwa [show 153000 + (a - 153000) = a by omega] at this

end Go.Proofs.Ytfnmnnbmhfbkbaa

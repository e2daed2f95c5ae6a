/- Chapter 2, plain: numbers on the way, of both. -/
import Derived.Test.YtojmekclegbndaaO3
import Derived.Test.YtojmekclegbndaaOPa
set_option linter.unusedVariables false
set_option linter.unusedSimpArgs false
namespace Go.Proofs.Ytojmekclegbndaa.Vg
open Go Go.Proofs.Ytojmekclegbndaa.Ev Go.Proofs.Ytojmekclegbndaa.Vv
/-- a small fraction. -/
def smB (f : SFrac) : Bool := lowB f && (inR (-1000000000) 1000000000 f.Num && decide (f.Den ≤ 1000000000))
structure Sm (f : SFrac) : Prop where
  d0 : 0 < f.Den
  d1 : f.Den ≤ 1000000000
  n0 : -1000000000 ≤ f.Num
  n1 : f.Num ≤ 1000000000
  g : gcF f = 1
theorem Sm.of {f : SFrac} (h : smB f = true) : Sm f := by
  unfold smB lowB at h
  simp only [Bool.and_eq_true, decide_eq_true_eq] at h
  have := inR_t.1 h.2.1
  exact ⟨h.1.1, h.2.2, this.1, this.2, h.1.2⟩
theorem Sm.b {f : SFrac} (h : Sm f) : smB f = true := by
  unfold smB lowB
  rw [decide_eq_true h.d0, decide_eq_true h.g, decide_eq_true h.d1, inR_t.2 ⟨h.n0, h.n1⟩]; rfl
theorem Sm.f {f : SFrac} (h : Sm f) : IF f := ⟨by have := h.n0; have := h.n1; unfold Vv.In64; omega, by have := h.d0; have := h.d1; unfold Vv.In64; omega⟩
theorem Sm.ck {f : SFrac} (h : Sm f) : ckE f = 0 := by
  have := h.n0; have := h.n1; have := h.d1
  unfold ckE lowB
  rw [decide_eq_true h.d0, decide_eq_true h.g, show (true && true) = true from rfl, if_pos rfl, if_neg (by omega), if_neg (by omega)]
theorem ckE_sm (f : SFrac) : ckE f = 0 ↔ smB f = true := by
  constructor
  · intro h
    unfold ckE at h
    split at h
    · rename_i h1
      split at h
      · cases h
      · split at h
        · cases h
        · unfold smB
          rw [h1, inR_t.2 ⟨by omega, by omega⟩, decide_eq_true (by omega)]; rfl
    · cases h
  · intro h; exact (Sm.of h).ck
theorem isSmall_any (k : Nat) (hk : 100000000000000000000 ≤ k) {f : SFrac} (h : IF f) : nspeculumbase_IsSmall k f = some (smB f) := by
  unfold nspeculumbase_IsSmall smB
  rw [isLowest_any k hk h, Option.bind_some]
  cases lowB f with
  | false => rfl
  | true =>
    rw [if_pos rfl, within_base, Option.bind_some]
    cases inR (-1000000000) 1000000000 f.Num with
    | false => rfl
    | true => rfl
theorem whole_opt (k : Nat) (n : Int) : noptics_whole k n = some ⟨n, 1⟩ := rfl
theorem sm_whole {n : Int} (h : -1000000000 ≤ n ∧ n ≤ 1000000000) : Sm ⟨n, 1⟩ := ⟨Int.zero_lt_one, by show (1 : Int) ≤ 1000000000; decide, h.1, h.2, by unfold gcF; simp⟩
theorem gcd_of_div {n d g : Int} {x y : Int} (hg : g = ((Nat.gcd n.natAbs d.natAbs : Nat) : Int)) (h0 : 1 ≤ g) (hx : n = g * x) (hy : d = g * y) : Nat.gcd x.natAbs y.natAbs = 1 := by
  have hx' : n.natAbs = g.natAbs * x.natAbs := by rw [hx, Int.natAbs_mul]
  have hy' : d.natAbs = g.natAbs * y.natAbs := by rw [hy, Int.natAbs_mul]
  have e : g.natAbs = Nat.gcd n.natAbs d.natAbs := by rw [hg]; simp
  rw [hx', hy', Nat.gcd_mul_left] at e
  have : g.natAbs * 1 = g.natAbs * Nat.gcd x.natAbs y.natAbs := by omega
  exact (Nat.eq_of_mul_eq_mul_left (by omega) this).symm
theorem mul_le_of {g x B : Int} (h : 1 ≤ g) (h1 : -B ≤ g * x) (h2 : g * x ≤ B) : -B ≤ x ∧ x ≤ B := by
  rcases Int.lt_or_le x 0 with h3 | h3
  · have := Int.mul_le_mul_of_nonneg_right h (show 0 ≤ -x by omega)
    rw [Int.mul_neg, Int.mul_neg] at this; omega
  · have := Int.mul_le_mul_of_nonneg_right h h3; omega
/-- what both say of a quotient. -/
theorem low_any (k : Nat) (hk : 100000000000000000000 ≤ k) {n d : Int} (hn : -4000000000000000000 ≤ n ∧ n ≤ 4000000000000000000) (hd : -4000000000000000000 ≤ d ∧ d ≤ 4000000000000000000) (h0 : d ≠ 0) :
    ∃ f, nnumber_lowest k n d = some (if smB f = true then (f, 0) else (⟨0, 0⟩, 8)) ∧ nspeculumbase_Lowest k n d = some f ∧ IF f ∧ 0 < f.Den ∧ f.Num * d = n * f.Den ∧ lowB f = true ∧ f.Num.natAbs ≤ n.natAbs ∧ f.Den.natAbs ≤ d.natAbs := by
  have hgp : 0 < Nat.gcd n.natAbs d.natAbs := Nat.gcd_pos_of_pos_right _ (by omega)
  have hgl : Nat.gcd n.natAbs d.natAbs ≤ d.natAbs := Nat.gcd_le_right _ (by omega)
  have d1 : ((Nat.gcd n.natAbs d.natAbs : Nat) : Int) ∣ n := Int.ofNat_dvd_left.2 (Nat.gcd_dvd_left _ _)
  have d2 : ((Nat.gcd n.natAbs d.natAbs : Nat) : Int) ∣ d := Int.ofNat_dvd_left.2 (Nat.gcd_dvd_right _ _)
  have key : ∀ {x y : Int}, n = ((Nat.gcd n.natAbs d.natAbs : Nat) : Int) * x → d = ((Nat.gcd n.natAbs d.natAbs : Nat) : Int) * y → Nat.gcd x.natAbs y.natAbs = 1 := fun hx hy => gcd_of_div rfl (by omega) hx hy
  have hbase : nspeculumbase_Gcd_l0_0 k k n d = nspeculumbase_Gcd_l0_0 k k n d := rfl
  have hG : nspeculumbase_Gcd k n d = some ((Nat.gcd n.natAbs d.natAbs : Nat) : Int) := by
    unfold nspeculumbase_Gcd nspeculumbase_Abs
    obtain ⟨r, e1, e2⟩ := base_gcd k (d.natAbs + 1) k n d (by omega) (by omega)
    rw [e1, Option.bind_some]
    by_cases c : r < 0
    · rw [if_pos c, Option.bind_some, w64_id (by omega) (by omega)]; congr 1; omega
    · rw [if_neg c, Option.bind_some]; congr 1; omega
  obtain ⟨x, hx⟩ := d1
  obtain ⟨y, hy⟩ := d2
  have hxy := key hx hy
  have bx := mul_le_of (B := 4000000000000000000) (show (1 : Int) ≤ ((Nat.gcd n.natAbs d.natAbs : Nat) : Int) by omega) (by rw [← hx]; omega) (by rw [← hx]; omega)
  have bY := mul_le_of (B := 4000000000000000000) (show (1 : Int) ≤ ((Nat.gcd n.natAbs d.natAbs : Nat) : Int) by omega) (by rw [← hy]; omega) (by rw [← hy]; omega)
  have hy0 : y ≠ 0 := fun e => h0 (by rw [hy, e, Int.mul_zero])
  have tn : n.tdiv ((Nat.gcd n.natAbs d.natAbs : Nat) : Int) = x := by
    have := Int.mul_tdiv_cancel_left (a := ((Nat.gcd n.natAbs d.natAbs : Nat) : Int)) x (by omega)
    rwa [← hx] at this
  have td : d.tdiv ((Nat.gcd n.natAbs d.natAbs : Nat) : Int) = y := by
    have := Int.mul_tdiv_cancel_left (a := ((Nat.gcd n.natAbs d.natAbs : Nat) : Int)) y (by omega)
    rwa [← hy] at this
  have nx : x.natAbs ≤ n.natAbs := by
    have e : n.natAbs = ((Nat.gcd n.natAbs d.natAbs : Nat) : Int).natAbs * x.natAbs := (congrArg Int.natAbs hx).trans (Int.natAbs_mul _ _)
    have := Nat.mul_le_mul_right x.natAbs (show 1 ≤ ((Nat.gcd n.natAbs d.natAbs : Nat) : Int).natAbs by omega)
    omega
  have ny : y.natAbs ≤ d.natAbs := by
    have e : d.natAbs = ((Nat.gcd n.natAbs d.natAbs : Nat) : Int).natAbs * y.natAbs := (congrArg Int.natAbs hy).trans (Int.natAbs_mul _ _)
    have := Nat.mul_le_mul_right y.natAbs (show 1 ≤ ((Nat.gcd n.natAbs d.natAbs : Nat) : Int).natAbs by omega)
    omega
  have cross : x * d = n * y := by
    have e1 : x * d = x * (((Nat.gcd n.natAbs d.natAbs : Nat) : Int) * y) := congrArg (x * ·) hy
    have e2 : n * y = ((Nat.gcd n.natAbs d.natAbs : Nat) : Int) * x * y := congrArg (· * y) hx
    exact e1.trans ((by grind : x * (((Nat.gcd n.natAbs d.natAbs : Nat) : Int) * y) = ((Nat.gcd n.natAbs d.natAbs : Nat) : Int) * x * y).trans e2.symm)
  unfold nnumber_lowest nspeculumbase_Lowest
  rw [hG, Option.bind_some]
  by_cases c : d < 0
  · have hyn : y < 0 := by
      rcases Int.lt_or_le y 0 with h | h
      · exact h
      · have := Int.mul_nonneg (show 0 ≤ ((Nat.gcd n.natAbs d.natAbs : Nat) : Int) by omega) h; omega
    have in1 : Vv.In64 (-n) := by unfold Vv.In64; omega
    have in2 : Vv.In64 (-d) := by unfold Vv.In64; omega
    rw [if_pos c, if_pos c, w64_id (n := 0 - n) (by omega) (by omega), w64_id (n := 0 - d) (by omega) (by omega), show 0 - n = -n by omega, show 0 - d = -d by omega, size_any k in1, Option.bind_some, size_any k in2, Option.bind_some]
    unfold nnumber_divisor
    rw [div_gcd k ((-d).natAbs + 1) k _ _ (by omega) (by omega) (by omega) (by omega), Option.bind_some, Option.bind_some]
    simp only [Int.natAbs_natCast, Int.natAbs_neg]
    rw [w64_id (n := ((Nat.gcd n.natAbs d.natAbs : Nat) : Int)) (by omega) (by omega), if_pos (by omega), w64_id (n := 0 - ((Nat.gcd n.natAbs d.natAbs : Nat) : Int)) (by omega) (by omega), if_pos (by omega), show 0 - ((Nat.gcd n.natAbs d.natAbs : Nat) : Int) = -((Nat.gcd n.natAbs d.natAbs : Nat) : Int) by omega, Int.neg_tdiv, Int.neg_tdiv, Int.tdiv_neg, Int.tdiv_neg, tn, td, w64_id (n := -x) (by omega) (by omega), w64_id (n := -y) (by omega) (by omega)]
    have hf : IF ⟨-x, -y⟩ := ⟨by unfold Vv.In64; dsimp only; omega, by unfold Vv.In64; dsimp only; omega⟩
    rw [checkFrac_any k hk hf, Option.bind_some]
    refine ⟨⟨-x, -y⟩, ?_, rfl, hf, by dsimp only; omega, by dsimp only; rw [Int.neg_mul, Int.mul_neg, cross], by unfold lowB gcF; dsimp only; rw [Int.natAbs_neg, Int.natAbs_neg, decide_eq_true hxy, decide_eq_true (show 0 < -y by omega)]; rfl, by dsimp only; omega, by dsimp only; omega⟩
    by_cases s : smB ⟨-x, -y⟩ = true
    · rw [if_pos ((ckE_sm _).2 s), if_pos s]
    · rw [if_neg (fun h => s ((ckE_sm _).1 h)), if_neg s]
  · have hyp : 0 < y := by
      rcases Int.lt_or_le 0 y with h | h
      · exact h
      · have := Int.mul_nonneg (show 0 ≤ ((Nat.gcd n.natAbs d.natAbs : Nat) : Int) by omega) (show 0 ≤ -y by omega)
        rw [Int.mul_neg] at this; omega
    have in1 : Vv.In64 n := by unfold Vv.In64; omega
    have in2 : Vv.In64 d := by unfold Vv.In64; omega
    rw [if_neg c, if_neg c, size_any k in1, Option.bind_some, size_any k in2, Option.bind_some]
    unfold nnumber_divisor
    rw [div_gcd k (d.natAbs + 1) k _ _ (by omega) (by omega) (by omega) (by omega), Option.bind_some, Option.bind_some]
    simp only [Int.natAbs_natCast]
    rw [w64_id (n := ((Nat.gcd n.natAbs d.natAbs : Nat) : Int)) (by omega) (by omega), if_pos (by omega), if_pos (by omega), tn, td, w64_id (n := x) (by omega) (by omega), w64_id (n := y) (by omega) (by omega)]
    have hf : IF ⟨x, y⟩ := ⟨by unfold Vv.In64; dsimp only; omega, by unfold Vv.In64; dsimp only; omega⟩
    rw [checkFrac_any k hk hf, Option.bind_some]
    refine ⟨⟨x, y⟩, ?_, rfl, hf, hyp, cross, by unfold lowB gcF; dsimp only; rw [decide_eq_true hxy, decide_eq_true hyp]; rfl, nx, ny⟩
    by_cases s : smB ⟨x, y⟩ = true
    · rw [if_pos ((ckE_sm _).2 s), if_pos s]
    · rw [if_neg (fun h => s ((ckE_sm _).1 h)), if_neg s]
theorem sm_mul {x y : Int} (h1 : -1000000000 ≤ x ∧ x ≤ 1000000000) (h2 : -1000000000 ≤ y ∧ y ≤ 1000000000) : -1000000000000000000 ≤ x * y ∧ x * y ≤ 1000000000000000000 := by
  rcases Int.lt_or_le y 0 with h | h
  · have a := Int.mul_le_mul_of_nonneg_right h1.1 (show 0 ≤ -y by omega)
    have b := Int.mul_le_mul_of_nonneg_right h1.2 (show 0 ≤ -y by omega)
    rw [Int.mul_neg x] at a b; omega
  · have a := Int.mul_le_mul_of_nonneg_right h1.1 h
    have b := Int.mul_le_mul_of_nonneg_right h1.2 h
    omega
theorem ck_pair (k : Nat) (hk : 100000000000000000000 ≤ k) {a b : SFrac} (ha : Sm a) (hb : Sm b) : nnumber_checkFracs k [a, b] = some 0 := by
  obtain ⟨g, hg⟩ : ∃ g, k = g + 3 := ⟨k - 3, by omega⟩
  unfold nnumber_checkFracs
  have l : ∀ g, nnumber_checkFracs_l0_0 k [a, b] (g + 3) 0 = some (.inr ()) := fun g => by
    rw [nnumber_checkFracs_l0_0.eq_2, if_pos (by simp), if_pos (by simp), show List.getD [a, b] ((0 : Int)).toNat default = a from rfl, checkFrac_any k hk ha.f, Option.bind_some, if_pos ha.ck, show w64 (0 + 1) = 1 from by decide, nnumber_checkFracs_l0_0.eq_2, if_pos (by simp), if_pos (by simp), show List.getD [a, b] ((1 : Int)).toNat default = b from rfl, checkFrac_any k hk hb.f, Option.bind_some, if_pos hb.ck, show w64 (1 + 1) = 2 from by decide, nnumber_checkFracs_l0_0.eq_2, if_neg (by simp)]
  have l' := l g
  rw [← hg] at l'
  rw [l', Option.bind_some]
/-- the error on the way. -/
def fl (q : SWay) : Sway := ⟨if q.Large = true then 8 else 0⟩
theorem fl_t {q : SWay} (h : q.Large = true) : fl q = ⟨8⟩ := by unfold fl; rw [if_pos h]
theorem fl_f {q : SWay} (h : q.Large = false) : fl q = ⟨0⟩ := by unfold fl; rw [h, if_neg (by decide)]
theorem one_small : Sm ⟨0, 1⟩ := sm_whole (by decide)
/-- what a step of both comes to: v of the program, w of the reference. -/
structure Step (q : SWay) (v w : SFrac) (q' : SWay) (n d : Int) : Prop where
  keep : q'.Large = false → q.Large = false
  same : q'.Large = false → v = w
  sm : Sm w
  val : q'.Large = false → w.Num * d = n * w.Den
theorem fit_any (k : Nat) (hk : 100000000000000000000 ≤ k) {n d : Int} (hn : -4000000000000000000 ≤ n ∧ n ≤ 4000000000000000000) (hd : -4000000000000000000 ≤ d ∧ d ≤ 4000000000000000000) (h0 : d ≠ 0) (q : SWay) :
    ∃ w q', n_speculumref02_Way_fit k q n d = some (w, q') ∧ (q'.Large = false → q.Large = false) ∧ Sm w ∧ (q'.Large = false → w.Num * d = n * w.Den) ∧
      (q.Large = false → nnumber_lowest k n d = some (if q'.Large = true then (⟨0, 0⟩, 8) else (w, 0))) ∧ (n.natAbs ≤ 1000000000 → d.natAbs ≤ 1000000000 → q' = q) := by
  obtain ⟨f, f1, f2, f3, f4, f5, f6, f7, f8⟩ := low_any k hk hn hd h0
  unfold n_speculumref02_Way_fit
  rw [f2, Option.bind_some, isSmall_any k hk f3, Option.bind_some, f1]
  by_cases s : smB f = true
  · rw [if_pos s, if_pos s]
    exact ⟨f, q, rfl, fun h => h, Sm.of s, fun _ => f5, fun h => (by rw [h, if_neg (by decide)]), fun _ _ => rfl⟩
  · rw [if_neg s, if_neg s]
    exact ⟨⟨0, 1⟩, ⟨true⟩, rfl, fun h => by (cases h), one_small, fun h => by (cases h), fun h => (by rw [if_pos rfl]), fun h1 h2 => absurd (show smB f = true by unfold smB; rw [f6, inR_t.2 ⟨by omega, by omega⟩, decide_eq_true (by omega)]; rfl) s⟩
theorem mul_step (k : Nat) (hk : 100000000000000000000 ≤ k) {q : SWay} {a' b' a b : SFrac} (ha : q.Large = false → a' = a) (hb : q.Large = false → b' = b) (sa : Sm a) (sb : Sm b) :
    ∃ v w q', n_optics_way_times k (fl q) a' b' = some (v, fl q') ∧ n_speculumref02_Way_Mul k q a b = some (w, q') ∧ Step q v w q' (a.Num * b.Num) (a.Den * b.Den) := by
  have an := sa.n0; have an1 := sa.n1; have ad := sa.d0; have ad1 := sa.d1; have bn := sb.n0; have bn1 := sb.n1; have bd := sb.d0; have bd1 := sb.d1
  have m1 := sm_mul (x := a.Num) (y := b.Num) ⟨an, an1⟩ ⟨bn, bn1⟩
  have m2 := sm_mul (x := a.Den) (y := b.Den) (by omega) (by omega)
  have m3 := sm_mul (x := a.Num) (y := b.Den) ⟨an, an1⟩ (by omega)
  have m4 := sm_mul (x := b.Num) (y := a.Den) ⟨bn, bn1⟩ (by omega)
  have m5 := Int.mul_pos ad bd
  obtain ⟨w, q', f1, f2, f3, f4, f5, f6⟩ := fit_any k hk (n := a.Num * b.Num) (d := a.Den * b.Den) (by omega) (by omega) (by omega) q
  have e2 : n_speculumref02_Way_Mul k q a b = some (w, q') := by
    unfold n_speculumref02_Way_Mul
    rw [w64_id (n := a.Num * b.Num) (by omega) (by omega), w64_id (n := a.Den * b.Den) (by omega) (by omega), f1, Option.bind_some]
  cases hq : q.Large with
  | true =>
    have hq' : q'.Large = true := by cases h : q'.Large with
      | true => rfl
      | false => rw [f2 h] at hq; cases hq
    refine ⟨⟨0, 0⟩, w, q', ?_, e2, ⟨f2, fun h => (by rw [hq'] at h; cases h), f3, f4⟩⟩
    unfold n_optics_way_times n_optics_way_step_c1_number_Mul
    rw [fl_t hq, fl_t hq', if_neg (by decide), Option.bind_some]
  | false =>
    have f5 := f5 hq
    have ea := ha hq; have eb := hb hq
    subst ea; subst eb
    refine ⟨if q'.Large = true then ⟨0, 0⟩ else w, w, q', ?_, e2, ⟨f2, fun h => by rw [h, if_neg (by decide)], f3, f4⟩⟩
    unfold n_optics_way_times n_optics_way_step_c1_number_Mul nnumber_Mul
    rw [fl_f hq, if_pos rfl, ck_pair k hk sa sb, Option.bind_some, if_pos rfl, w64_id (n := a'.Num * b'.Num) (by omega) (by omega), w64_id (n := a'.Den * b'.Den) (by omega) (by omega), f5, Option.bind_some, Option.bind_some, Option.bind_some]
    cases h : q'.Large with
    | true => rw [if_pos rfl, if_pos rfl, fl_t h]
    | false => rw [if_neg (by decide), if_neg (by decide), fl_f h]
theorem add_step (k : Nat) (hk : 100000000000000000000 ≤ k) {q : SWay} {a' b' a b : SFrac} (ha : q.Large = false → a' = a) (hb : q.Large = false → b' = b) (sa : Sm a) (sb : Sm b) :
    ∃ v w q', n_optics_way_plus k (fl q) a' b' = some (v, fl q') ∧ n_speculumref02_Way_Add k q a b = some (w, q') ∧ Step q v w q' (a.Num * b.Den + b.Num * a.Den) (a.Den * b.Den) := by
  have an := sa.n0; have an1 := sa.n1; have ad := sa.d0; have ad1 := sa.d1; have bn := sb.n0; have bn1 := sb.n1; have bd := sb.d0; have bd1 := sb.d1
  have m1 := sm_mul (x := a.Num) (y := b.Num) ⟨an, an1⟩ ⟨bn, bn1⟩
  have m2 := sm_mul (x := a.Den) (y := b.Den) (by omega) (by omega)
  have m3 := sm_mul (x := a.Num) (y := b.Den) ⟨an, an1⟩ (by omega)
  have m4 := sm_mul (x := b.Num) (y := a.Den) ⟨bn, bn1⟩ (by omega)
  have m5 := Int.mul_pos ad bd
  obtain ⟨w, q', f1, f2, f3, f4, f5, f6⟩ := fit_any k hk (n := a.Num * b.Den + b.Num * a.Den) (d := a.Den * b.Den) (by omega) (by omega) (by omega) q
  have e2 : n_speculumref02_Way_Add k q a b = some (w, q') := by
    unfold n_speculumref02_Way_Add
    rw [w64_id (n := a.Num * b.Den) (by omega) (by omega), w64_id (n := b.Num * a.Den) (by omega) (by omega), w64_id (n := a.Num * b.Den + b.Num * a.Den) (by omega) (by omega), w64_id (n := a.Den * b.Den) (by omega) (by omega), f1, Option.bind_some]
  cases hq : q.Large with
  | true =>
    have hq' : q'.Large = true := by cases h : q'.Large with
      | true => rfl
      | false => rw [f2 h] at hq; cases hq
    refine ⟨⟨0, 0⟩, w, q', ?_, e2, ⟨f2, fun h => (by rw [hq'] at h; cases h), f3, f4⟩⟩
    unfold n_optics_way_plus n_optics_way_step_c1_number_Add
    rw [fl_t hq, fl_t hq', if_neg (by decide), Option.bind_some]
  | false =>
    have f5 := f5 hq
    have ea := ha hq; have eb := hb hq
    subst ea; subst eb
    refine ⟨if q'.Large = true then ⟨0, 0⟩ else w, w, q', ?_, e2, ⟨f2, fun h => by rw [h, if_neg (by decide)], f3, f4⟩⟩
    unfold n_optics_way_plus n_optics_way_step_c1_number_Add nnumber_Add
    rw [fl_f hq, if_pos rfl, ck_pair k hk sa sb, Option.bind_some, if_pos rfl, w64_id (n := a'.Num * b'.Den) (by omega) (by omega), w64_id (n := b'.Num * a'.Den) (by omega) (by omega), w64_id (n := a'.Num * b'.Den + b'.Num * a'.Den) (by omega) (by omega), w64_id (n := a'.Den * b'.Den) (by omega) (by omega), f5, Option.bind_some, Option.bind_some, Option.bind_some]
    cases h : q'.Large with
    | true => rw [if_pos rfl, if_pos rfl, fl_t h]
    | false => rw [if_neg (by decide), if_neg (by decide), fl_f h]
theorem sub_step (k : Nat) (hk : 100000000000000000000 ≤ k) {q : SWay} {a' b' a b : SFrac} (ha : q.Large = false → a' = a) (hb : q.Large = false → b' = b) (sa : Sm a) (sb : Sm b) :
    ∃ v w q', n_optics_way_minus k (fl q) a' b' = some (v, fl q') ∧ n_speculumref02_Way_Sub k q a b = some (w, q') ∧ Step q v w q' (a.Num * b.Den - b.Num * a.Den) (a.Den * b.Den) := by
  have an := sa.n0; have an1 := sa.n1; have ad := sa.d0; have ad1 := sa.d1; have bn := sb.n0; have bn1 := sb.n1; have bd := sb.d0; have bd1 := sb.d1
  have m1 := sm_mul (x := a.Num) (y := b.Num) ⟨an, an1⟩ ⟨bn, bn1⟩
  have m2 := sm_mul (x := a.Den) (y := b.Den) (by omega) (by omega)
  have m3 := sm_mul (x := a.Num) (y := b.Den) ⟨an, an1⟩ (by omega)
  have m4 := sm_mul (x := b.Num) (y := a.Den) ⟨bn, bn1⟩ (by omega)
  have m5 := Int.mul_pos ad bd
  obtain ⟨w, q', f1, f2, f3, f4, f5, f6⟩ := fit_any k hk (n := a.Num * b.Den - b.Num * a.Den) (d := a.Den * b.Den) (by omega) (by omega) (by omega) q
  have e2 : n_speculumref02_Way_Sub k q a b = some (w, q') := by
    unfold n_speculumref02_Way_Sub
    rw [w64_id (n := a.Num * b.Den) (by omega) (by omega), w64_id (n := b.Num * a.Den) (by omega) (by omega), w64_id (n := a.Num * b.Den - b.Num * a.Den) (by omega) (by omega), w64_id (n := a.Den * b.Den) (by omega) (by omega), f1, Option.bind_some]
  cases hq : q.Large with
  | true =>
    have hq' : q'.Large = true := by cases h : q'.Large with
      | true => rfl
      | false => rw [f2 h] at hq; cases hq
    refine ⟨⟨0, 0⟩, w, q', ?_, e2, ⟨f2, fun h => (by rw [hq'] at h; cases h), f3, f4⟩⟩
    unfold n_optics_way_minus n_optics_way_step_c1_number_Sub
    rw [fl_t hq, fl_t hq', if_neg (by decide), Option.bind_some]
  | false =>
    have f5 := f5 hq
    have ea := ha hq; have eb := hb hq
    subst ea; subst eb
    refine ⟨if q'.Large = true then ⟨0, 0⟩ else w, w, q', ?_, e2, ⟨f2, fun h => by rw [h, if_neg (by decide)], f3, f4⟩⟩
    unfold n_optics_way_minus n_optics_way_step_c1_number_Sub nnumber_Sub
    rw [fl_f hq, if_pos rfl, ck_pair k hk sa sb, Option.bind_some, if_pos rfl, w64_id (n := a'.Num * b'.Den) (by omega) (by omega), w64_id (n := b'.Num * a'.Den) (by omega) (by omega), w64_id (n := a'.Num * b'.Den - b'.Num * a'.Den) (by omega) (by omega), w64_id (n := a'.Den * b'.Den) (by omega) (by omega), f5, Option.bind_some, Option.bind_some, Option.bind_some]
    cases h : q'.Large with
    | true => rw [if_pos rfl, if_pos rfl, fl_t h]
    | false => rw [if_neg (by decide), if_neg (by decide), fl_f h]
theorem quo_step (k : Nat) (hk : 100000000000000000000 ≤ k) {q : SWay} {a' b' a b : SFrac} (ha : q.Large = false → a' = a) (hb : q.Large = false → b' = b) (sa : Sm a) (sb : Sm b) (h0 : q.Large = false → b.Num ≠ 0) :
    ∃ v w q', n_optics_way_over k (fl q) a' b' = some (v, fl q') ∧ n_speculumref02_Way_Quo k q a b = some (w, q') ∧ Step q v w q' (a.Num * b.Den) (a.Den * b.Num) := by
  have an := sa.n0; have an1 := sa.n1; have ad := sa.d0; have ad1 := sa.d1; have bn := sb.n0; have bn1 := sb.n1; have bd := sb.d0; have bd1 := sb.d1
  have m3 := sm_mul (x := a.Num) (y := b.Den) ⟨an, an1⟩ (by omega)
  have m4 := sm_mul (x := a.Den) (y := b.Num) (by omega) ⟨bn, bn1⟩
  by_cases hz : b.Num = 0
  · have hq : q.Large = true := by cases h : q.Large with
      | true => rfl
      | false => exact absurd hz (h0 h)
    refine ⟨⟨0, 0⟩, ⟨0, 1⟩, ⟨true⟩, ?_, by unfold n_speculumref02_Way_Quo; rw [if_pos hz], ⟨fun h => (by cases h), fun h => (by cases h), one_small, fun h => (by cases h)⟩⟩
    unfold n_optics_way_over n_optics_way_step_c1_number_Quo
    rw [fl_t hq, if_neg (by decide), Option.bind_some]; rfl
  have m5 : a.Den * b.Num ≠ 0 := Int.mul_ne_zero (by omega) hz
  obtain ⟨w, q', f1, f2, f3, f4, f5, f6⟩ := fit_any k hk (n := a.Num * b.Den) (d := a.Den * b.Num) (by omega) (by omega) m5 q
  have e2 : n_speculumref02_Way_Quo k q a b = some (w, q') := by
    unfold n_speculumref02_Way_Quo
    rw [if_neg hz, w64_id (n := a.Num * b.Den) (by omega) (by omega), w64_id (n := a.Den * b.Num) (by omega) (by omega), f1, Option.bind_some]
  cases hq : q.Large with
  | true =>
    have hq' : q'.Large = true := by cases h : q'.Large with
      | true => rfl
      | false => rw [f2 h] at hq; cases hq
    refine ⟨⟨0, 0⟩, w, q', ?_, e2, ⟨f2, fun h => (by rw [hq'] at h; cases h), f3, f4⟩⟩
    unfold n_optics_way_over n_optics_way_step_c1_number_Quo
    rw [fl_t hq, fl_t hq', if_neg (by decide), Option.bind_some]
  | false =>
    have f5 := f5 hq
    have ea := ha hq; have eb := hb hq
    subst ea; subst eb
    refine ⟨if q'.Large = true then ⟨0, 0⟩ else w, w, q', ?_, e2, ⟨f2, fun h => by rw [h, if_neg (by decide)], f3, f4⟩⟩
    unfold n_optics_way_over n_optics_way_step_c1_number_Quo nnumber_Quo
    rw [fl_f hq, if_pos rfl, ck_pair k hk sa sb, Option.bind_some, if_pos rfl, if_neg hz, w64_id (n := a'.Num * b'.Den) (by omega) (by omega), w64_id (n := a'.Den * b'.Num) (by omega) (by omega), f5, Option.bind_some, Option.bind_some, Option.bind_some]
    cases h : q'.Large with
    | true => rw [if_pos rfl, if_pos rfl, fl_t h]
    | false => rw [if_neg (by decide), if_neg (by decide), fl_f h]
/-- a quotient of small numbers is small. -/
theorem quo_small (k : Nat) (hk : 100000000000000000000 ≤ k) {q : SWay} {n d : Int} (hn : -10000000 ≤ n ∧ n ≤ 10000000) (hd : -10000000 ≤ d ∧ d ≤ 10000000) (h0 : d ≠ 0) :
    ∃ w, n_speculumref02_Way_Quo k q ⟨n, 1⟩ ⟨d, 1⟩ = some (w, q) ∧ Sm w := by
  obtain ⟨w, q', f1, f2, f3, f4, f5, f6⟩ := fit_any k hk (n := n * 1) (d := 1 * d) (by omega) (by omega) (by omega) q
  have := f6 (by omega) (by omega)
  subst this
  refine ⟨w, ?_, f3⟩
  unfold n_speculumref02_Way_Quo
  rw [if_neg h0, w64_id (n := n * 1) (by omega) (by omega), w64_id (n := 1 * d) (by omega) (by omega), f1, Option.bind_some]
/-- fractions as numbers. -/
def val (f : SFrac) : Rat := (f.Num : Rat) / (f.Den : Rat)
theorem cast_ne {x : Int} (h : x ≠ 0) : (x : Rat) ≠ 0 := by
  intro e
  exact h (by exact_mod_cast e)
theorem val_mul {w a b : SFrac} (hw : 0 < w.Den) (ha : 0 < a.Den) (hb : 0 < b.Den) (h : w.Num * (a.Den * b.Den) = a.Num * b.Num * w.Den) : val w = val a * val b := by
  have h1 := cast_ne (x := w.Den) (by omega)
  have h2 := cast_ne (x := a.Den) (by omega)
  have h3 := cast_ne (x := b.Den) (by omega)
  have h' : (w.Num : Rat) * (a.Den * b.Den) = a.Num * b.Num * w.Den := by exact_mod_cast h
  unfold val
  grind
theorem val_add {w a b : SFrac} (hw : 0 < w.Den) (ha : 0 < a.Den) (hb : 0 < b.Den) (h : w.Num * (a.Den * b.Den) = (a.Num * b.Den + b.Num * a.Den) * w.Den) : val w = val a + val b := by
  have h1 := cast_ne (x := w.Den) (by omega)
  have h2 := cast_ne (x := a.Den) (by omega)
  have h3 := cast_ne (x := b.Den) (by omega)
  have h' : (w.Num : Rat) * (a.Den * b.Den) = (a.Num * b.Den + b.Num * a.Den) * w.Den := by exact_mod_cast h
  unfold val
  grind
theorem val_sub {w a b : SFrac} (hw : 0 < w.Den) (ha : 0 < a.Den) (hb : 0 < b.Den) (h : w.Num * (a.Den * b.Den) = (a.Num * b.Den - b.Num * a.Den) * w.Den) : val w = val a - val b := by
  have h1 := cast_ne (x := w.Den) (by omega)
  have h2 := cast_ne (x := a.Den) (by omega)
  have h3 := cast_ne (x := b.Den) (by omega)
  have h' : (w.Num : Rat) * (a.Den * b.Den) = (a.Num * b.Den - b.Num * a.Den) * w.Den := by exact_mod_cast h
  unfold val
  grind
theorem val_quo {w a b : SFrac} (hw : 0 < w.Den) (ha : 0 < a.Den) (hb : 0 < b.Den) (h0 : b.Num ≠ 0) (h : w.Num * (a.Den * b.Num) = a.Num * b.Den * w.Den) : val w = val a / val b := by
  have h1 := cast_ne (x := w.Den) (by omega)
  have h2 := cast_ne (x := a.Den) (by omega)
  have h3 := cast_ne (x := b.Den) (by omega)
  have h4 := cast_ne h0
  have h' : (w.Num : Rat) * (a.Den * b.Num) = a.Num * b.Den * w.Den := by exact_mod_cast h
  unfold val
  grind
/-- small fractions are equal where they are as numbers. -/
theorem val_inj {a b : SFrac} (ha : Sm a) (hb : Sm b) (h : val a = val b) : a = b := by
  have a0 := ha.d0; have b0 := hb.d0
  have h2 := cast_ne (x := a.Den) (by omega)
  have h3 := cast_ne (x := b.Den) (by omega)
  have h4 : (a.Num : Rat) * b.Den = b.Num * a.Den := by unfold val at h; grind
  have h5 : a.Num * b.Den = b.Num * a.Den := by exact_mod_cast h4
  have ga := ha.g; have gb := hb.g
  unfold gcF at ga gb
  have n5 : a.Num.natAbs * b.Den.natAbs = b.Num.natAbs * a.Den.natAbs := by rw [← Int.natAbs_mul, ← Int.natAbs_mul, h5]
  have d1 : a.Den.natAbs ∣ b.Den.natAbs := (Nat.Coprime.dvd_of_dvd_mul_left (k := a.Den.natAbs) (m := a.Num.natAbs) (n := b.Den.natAbs) (by rw [Nat.Coprime, Nat.gcd_comm]; exact ga) (by rw [n5]; exact Nat.dvd_mul_left _ _))
  have d2 : b.Den.natAbs ∣ a.Den.natAbs := (Nat.Coprime.dvd_of_dvd_mul_left (k := b.Den.natAbs) (m := b.Num.natAbs) (n := a.Den.natAbs) (by rw [Nat.Coprime, Nat.gcd_comm]; exact gb) (by rw [← n5]; exact Nat.dvd_mul_left _ _))
  have e1 : a.Den = b.Den := by have := Nat.dvd_antisymm d1 d2; omega
  have e2 : a.Num = b.Num := by
    rw [e1] at h5
    exact Int.eq_of_mul_eq_mul_right (by omega) h5
  cases a; cases b; simp at e1 e2; rw [e1, e2]
theorem val_whole (n : Int) : val ⟨n, 1⟩ = (n : Rat) := by
  unfold val
  have : ((1 : Int) : Rat) = 1 := rfl
  dsimp only
  rw [this]; grind
end Go.Proofs.Ytojmekclegbndaa.Vg

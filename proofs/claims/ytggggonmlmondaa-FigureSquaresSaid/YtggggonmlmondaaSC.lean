/- FigureSquares: the reference's least mean square. Plain. -/
import Derived.Test.YtggggonmlmondaaSB
set_option linter.unusedVariables false
set_option linter.unusedSimpArgs false
namespace Go.Proofs.Ytggggonmlmondaa.Vg
open Go Go.Proofs.Ytggggonmlmondaa.Ev Go.Proofs.Ytggggonmlmondaa.Vv
open Sq (sm vr cl)
local notation "LO" => SRange.Lo
local notation "HI" => SRange.Hi
/-! fractions -/
theorem lw_cmp {x y x' y' : Int} (hy : 0 < y) (hy' : 0 < y') (h : x * y' ≤ x' * y) : (lw x y).Num * (lw x' y').Den ≤ (lw x' y').Num * (lw x y).Den := by
  obtain ⟨g, g0, -, e1, e2⟩ := lw_parts (x := x) hy
  obtain ⟨g', g0', -, e3, e4⟩ := lw_parts (x := x') hy'
  rcases Int.lt_or_le ((lw x' y').Num * (lw x y).Den) ((lw x y).Num * (lw x' y').Den) with c | c
  · exfalso
    have h1 := Int.mul_lt_mul_of_pos_right c (Int.mul_pos g0 g0')
    have h2 : x * y' = (lw x y).Num * (lw x' y').Den * (g * g') := by
      conv => lhs; rw [e1, e4]
      grind
    have h3 : x' * y = (lw x' y').Num * (lw x y).Den * (g * g') := by
      conv => lhs; rw [e3, e2]
      grind
    omega
  · exact c
theorem floor_any (k : Nat) {x d : Int} (hd : 0 < d ∧ d ≤ 2000) (hx : x.natAbs ≤ 100000000000000) : ∃ q, nspeculumbase_Floor k x d = some q ∧ q * d ≤ x ∧ x < q * d + d := by
  have h1 := Int.tmod_add_mul_tdiv x d
  have h2 := Int.natAbs_tmod x d
  have h3 := Nat.mod_lt x.natAbs (show 0 < d.natAbs by omega)
  have h4 : (x.tdiv d).natAbs ≤ x.natAbs := by rw [Int.natAbs_tdiv]; exact Nat.div_le_self _ _
  unfold nspeculumbase_Floor
  rw [if_pos (by omega), w64_id (n := x.tdiv d) (by omega) (by omega)]
  have e : d * x.tdiv d = x.tdiv d * d := Int.mul_comm _ _
  by_cases c : x.tmod d < 0
  · rw [if_pos c, w64_id (by omega) (by omega)]
    refine ⟨_, rfl, ?_⟩
    rw [Int.sub_mul]; omega
  · rw [if_neg c]
    exact ⟨_, rfl, by omega, by omega⟩
theorem less2_any (k : Nat) {a b : SFrac} (ha : Fr a) (hb : Fr b) : nspeculumref06_less2 k a b = some (decide (a.Num * b.Den < b.Num * a.Den)) := by
  have a0 := ha.low.d
  have a1 := ha.d
  have a2 := ha.n
  have b0 := hb.low.d
  have b1 := hb.d
  have b2 := hb.n
  obtain ⟨p, p1, p2, p3⟩ := floor_any k ⟨a0, a1⟩ a2
  obtain ⟨q, q1, q2, q3⟩ := floor_any k ⟨b0, b1⟩ b2
  unfold nspeculumref06_less2
  rw [p1, q1, Option.bind_some, Option.bind_some]
  have r1 := Int.mul_nonneg (show 0 ≤ a.Num - p * a.Den by omega) (Int.le_of_lt b0)
  have r2 := Int.mul_le_mul (show a.Num - p * a.Den ≤ 2000 by omega) b1 (by omega) (by omega)
  have r3 := Int.mul_nonneg (show 0 ≤ b.Num - q * b.Den by omega) (Int.le_of_lt a0)
  have r4 := Int.mul_le_mul (show b.Num - q * b.Den ≤ 2000 by omega) a1 (by omega) (by omega)
  rw [w64_id (n := p * a.Den) (by omega) (by omega), w64_id (n := q * b.Den) (by omega) (by omega), w64_id (n := a.Num - p * a.Den) (by omega) (by omega), w64_id (n := b.Num - q * b.Den) (by omega) (by omega), w64_id (n := (a.Num - p * a.Den) * b.Den) (by omega) (by omega), w64_id (n := (b.Num - q * b.Den) * a.Den) (by omega) (by omega)]
  have e1 : a.Num * b.Den = (a.Num - p * a.Den) * b.Den + p * (a.Den * b.Den) := by grind
  have e2 : b.Num * a.Den = (b.Num - q * b.Den) * a.Den + q * (a.Den * b.Den) := by grind
  have hdd := Int.mul_pos a0 b0
  have s1 := Int.mul_lt_mul_of_pos_right (show a.Num - p * a.Den < a.Den by omega) b0
  have s2 := Int.mul_lt_mul_of_pos_right (show b.Num - q * b.Den < b.Den by omega) a0
  have s3 : b.Den * a.Den = a.Den * b.Den := Int.mul_comm _ _
  by_cases c : p = q
  · rw [if_pos c]
    subst c
    congr 1
    exact decide_eq_decide.2 (by omega)
  · rw [if_neg c]
    congr 1
    refine decide_eq_decide.2 ?_
    rcases Int.lt_or_gt_of_ne c with h | h
    · have := Int.mul_le_mul_of_nonneg_right (show p + 1 ≤ q by omega) (Int.le_of_lt hdd)
      rw [Int.add_mul, Int.one_mul] at this
      omega
    · have := Int.mul_le_mul_of_nonneg_right (show q + 1 ≤ p by omega) (Int.le_of_lt hdd)
      rw [Int.add_mul, Int.one_mul] at this
      omega
/-! heights nearest to a level, and their mean square -/
theorem nearestR_l (k : Nat) {l : List SRange} (L : LK l) (hl : l.length ≤ 6) {f : SFrac} (V : Lev f) : ∀ (d fuel i : Nat) (y : List Int), l.length = i + d → d < fuel → y.length = i →
    nspeculumref06_nearest_l0_0 k l f fuel y (i : Int) = some (y ++ (l.drop i).map (cl LO HI f.Num f.Den)) := by
  intro d
  induction d with
  | zero =>
    intro fuel i y h hf hy
    obtain ⟨g, rfl⟩ : ∃ g, fuel = g + 1 := ⟨fuel - 1, by omega⟩
    rw [nspeculumref06_nearest_l0_0.eq_2, if_neg (by omega), List.drop_eq_nil_of_le (by omega)]; simp
  | succ d ih =>
    intro fuel i y h hf hy
    obtain ⟨g, rfl⟩ : ∃ g, fuel = g + 1 := ⟨fuel - 1, by omega⟩
    have hi : i < l.length := by omega
    have ho := L.ok _ (getD_m hi default)
    rw [nspeculumref06_nearest_l0_0.eq_2, if_pos (by omega), if_pos (by omega), Int.toNat_natCast, drop_c hi default, List.map_cons]
    generalize l.getD i default = a at ho ⊢
    have v0 := V.d0
    have v1 := V.d1
    have v2 := V.n
    have m1 := Int.mul_le_mul_of_nonneg_right ho.1.1 (Int.le_of_lt v0)
    have m2 := Int.mul_le_mul_of_nonneg_right ho.1.2 (Int.le_of_lt v0)
    have m3 := Int.mul_le_mul_of_nonneg_right ho.2.1.1 (Int.le_of_lt v0)
    have m4 := Int.mul_le_mul_of_nonneg_right ho.2.1.2 (Int.le_of_lt v0)
    have m5 := Int.mul_le_mul_of_nonneg_right ho.2.2 (Int.le_of_lt v0)
    have hw : maxI (w64 (a.Lo * f.Den)) (minI (w64 (a.Hi * f.Den)) f.Num) = cl LO HI f.Num f.Den a := by
      rw [w64_id (n := a.Lo * f.Den) (by omega) (by omega), w64_id (n := a.Hi * f.Den) (by omega) (by omega)]
      unfold maxI minI Sq.cl
      split <;> split <;> split <;> omega
    rw [hw, if_pos (by simp only [List.length_cons, List.length_nil]; omega), w64_succ (by omega), ih g (i + 1) _ (by omega) (by omega) (by simp; omega), List.append_assoc]; rfl
theorem sm_map {α β : Type} (g : β → Int) (f : α → β) : ∀ l : List α, sm g (l.map f) = sm (fun a => g (f a)) l
  | [] => rfl
  | a :: l => by simp only [List.map_cons, sm]; rw [sm_map g f l]
theorem vr_map {α : Type} (f : α → Int) (l : List α) : vr id (l.map f) = vr f l := by
  unfold vr
  rw [sm_map, sm_map, List.length_map]; rfl
theorem squareR_l (k : Nat) (a : List Int) (den : Int) (hl : a.length ≤ 6) (hb : ∀ y ∈ a, -600000 ≤ y ∧ y ≤ 600000) : ∀ (d fuel i : Nat) (x z : Int), a.length = i + d → d < fuel → -((i : Int) * 600000) ≤ x → x ≤ (i : Int) * 600000 → 0 ≤ z → z ≤ (i : Int) * 360000000000 →
    nspeculumref06_square_l0_0 k a den fuel x z (i : Int) = some (x + sm id (a.drop i), z + sm (fun y => id y * id y) (a.drop i)) := by
  intro d
  induction d with
  | zero =>
    intro fuel i x z h hf h1 h2 h3 h4
    obtain ⟨g, rfl⟩ : ∃ g, fuel = g + 1 := ⟨fuel - 1, by omega⟩
    rw [nspeculumref06_square_l0_0.eq_2, if_neg (by omega), List.drop_eq_nil_of_le (by omega)]; simp [sm]
  | succ d ih =>
    intro fuel i x z h hf h1 h2 h3 h4
    obtain ⟨g, rfl⟩ : ∃ g, fuel = g + 1 := ⟨fuel - 1, by omega⟩
    have hi : i < a.length := by omega
    have hy := hb _ (getD_m hi 0)
    rw [nspeculumref06_square_l0_0.eq_2, if_pos (by omega), if_pos (by omega), Int.toNat_natCast, drop_c hi 0]
    generalize a.getD i 0 = y at hy ⊢
    have hq := sq_bd (B := 600000) hy.1 hy.2
    rw [w64_succ (by omega), w64_id (n := x + y) (by omega) (by omega), w64_id (n := y * y) (by omega) (by omega), w64_id (n := z + y * y) (by omega) (by omega), ih g (i + 1) _ _ (by omega) (by omega) (by omega) (by omega) (by omega) (by omega)]
    simp only [sm, id]
    congr 2 <;> omega
theorem vr_bd {a : List Int} (hl : a.length ≤ 6) (hb : ∀ y ∈ a, -600000 ≤ y ∧ y ≤ 600000) : 0 ≤ vr id a ∧ vr id a ≤ 12960000000000 ∧ (sm id a).natAbs ≤ 3600000 ∧ 0 ≤ sm (fun y => id y * id y) a ∧ sm (fun y => id y * id y) a ≤ 2160000000000 := by
  have h1 := Sq.vr_nonneg id a
  have h2 := sm_bd (f := id) a hb
  have h3 := sm_le' (f := fun y : Int => id y * id y) (B := 360000000000) a (fun y hy => by
    have := hb y hy
    exact sq_bd (B := 600000) this.1 this.2)
  have h4 := Int.mul_le_mul (show (a.length : Int) ≤ 6 by omega) (show sm (fun y => id y * id y) a ≤ 2160000000000 by omega) (by omega) (by omega)
  have h5 := Sq.sq_nonneg (sm id a)
  unfold vr at h1 ⊢
  omega
/-- the mean square of a choice. -/
def mq (a : List Int) (den : Int) : SFrac := lw (vr id a) ((a.length : Int) * (a.length : Int) * den * den)
theorem dd_bd {n den : Int} (h1 : 1 ≤ n) (h2 : n ≤ 6) (h3 : 0 < den) (h4 : den ≤ 6) : 0 < n * n * den * den ∧ n * n * den * den ≤ 1296 ∧ 0 < n * n * den ∧ n * n * den ≤ 216 ∧ 0 < n * n ∧ n * n ≤ 36 := by
  have a1 := Int.mul_pos (show 0 < n by omega) (show 0 < n by omega)
  have a2 := Int.mul_le_mul h2 h2 (by omega) (by omega)
  have a3 := Int.mul_pos a1 h3
  have a4 := Int.mul_le_mul a2 h4 (by omega) (by omega)
  have a5 := Int.mul_pos a3 h3
  have a6 := Int.mul_le_mul a4 h4 (by omega) (by omega)
  omega
theorem squareR_any {k : Nat} (hk : 9223372036854775808 < k) {a : List Int} {den : Int} (hl : a.length ≤ 6) (h0 : 1 ≤ a.length) (hd : 0 < den ∧ den ≤ 6) (hb : ∀ y ∈ a, -600000 ≤ y ∧ y ≤ 600000) : nspeculumref06_square k a den = some (mq a den) := by
  unfold nspeculumref06_square
  have h := squareR_l k a den hl hb a.length k 0 0 0 (by omega) (by omega) (by omega) (by omega) (by omega) (by omega)
  obtain ⟨v1, v2, v3, v4, v5⟩ := vr_bd hl hb
  obtain ⟨d1, d2, d3, d4, d5, d6⟩ := dd_bd (n := (a.length : Int)) (by omega) (by omega) hd.1 hd.2
  have q1 := Int.mul_le_mul (show (a.length : Int) ≤ 6 by omega) v5 v4 (by omega)
  have q0 := Int.mul_nonneg (show (0 : Int) ≤ (a.length : Int) by omega) v4
  have q2 := sq_bd (x := sm id a) (B := 3600000) (by omega) (by omega)
  have ev : (a.length : Int) * sm (fun y => id y * id y) a - sm id a * sm id a = vr id a := rfl
  rw [show nspeculumref06_square_l0_0 k a den k 0 0 0 = _ from h, Option.bind_some, List.drop_zero, Int.zero_add, Int.zero_add]
  dsimp only
  rw [w64_id (n := (a.length : Int) * sm (fun y => id y * id y) a) (by omega) (by omega), w64_id (n := sm id a * sm id a) (by omega) (by omega), ev, w64_id (n := vr id a) (by omega) (by omega), w64_id (n := (a.length : Int) * (a.length : Int)) (by omega) (by omega), w64_id (n := (a.length : Int) * (a.length : Int) * den) (by omega) (by omega), w64_id (n := (a.length : Int) * (a.length : Int) * den * den) (by omega) (by omega), (lowests k hk (x := vr id a) (y := (a.length : Int) * (a.length : Int) * den * den) (by omega) d1 (by omega)).1]; rfl
theorem mq_fr {a : List Int} {den : Int} (hl : a.length ≤ 6) (h0 : 1 ≤ a.length) (hd : 0 < den ∧ den ≤ 6) (hb : ∀ y ∈ a, -600000 ≤ y ∧ y ≤ 600000) : Fr (mq a den) := by
  obtain ⟨v1, v2, -⟩ := vr_bd hl hb
  obtain ⟨d1, d2, -⟩ := dd_bd (n := (a.length : Int)) (by omega) (by omega) hd.1 hd.2
  have h := lw_le (x := vr id a) d1
  unfold mq
  exact ⟨lw_low d1, by omega, by omega⟩
/-- heights nearest to a level. -/
def hs (l : List SRange) (f : SFrac) : List Int := l.map (cl LO HI f.Num f.Den)
theorem hs_bd {l : List SRange} (L : LK l) {f : SFrac} (V : Lev f) : ∀ y ∈ hs l f, -600000 ≤ y ∧ y ≤ 600000 := fun y hy => by
  obtain ⟨a, ha, rfl⟩ := List.mem_map.1 hy
  exact cl_bd V (L.ok a ha)
theorem hs_len (l : List SRange) (f : SFrac) : (hs l f).length = l.length := List.length_map ..
def xq (l : List SRange) (f : SFrac) : SFrac := mq (hs l f) f.Den
theorem xq_fr {l : List SRange} (L : LK l) (hl : l.length ≤ 6) {f : SFrac} (V : Lev f) : Fr (xq l f) :=
  mq_fr (by rw [hs_len]; exact hl) (by rw [hs_len]; exact L.n0) ⟨V.d0, V.d1⟩ (hs_bd L V)
theorem nearestR_any {k : Nat} (hk : 100 < k) {l : List SRange} (L : LK l) (hl : l.length ≤ 6) {f : SFrac} (V : Lev f) : nspeculumref06_nearest k l f = some (hs l f) := by
  unfold nspeculumref06_nearest
  rw [show nspeculumref06_nearest_l0_0 k l f k [] 0 = _ from nearestR_l k L hl V l.length k 0 [] (by omega) (by omega) rfl]; rfl
theorem xq_any {k : Nat} (hk : 9223372036854775808 < k) {l : List SRange} (L : LK l) (hl : l.length ≤ 6) {f : SFrac} (V : Lev f) : nspeculumref06_square k (hs l f) f.Den = some (xq l f) :=
  squareR_any hk (by rw [hs_len]; exact hl) (by rw [hs_len]; exact L.n0) ⟨V.d0, V.d1⟩ (hs_bd L V)
/-! levels -/
def e2 (r : SRange) : List SFrac := [⟨r.Lo, 1⟩, ⟨r.Hi, 1⟩]
def Es (l : List SRange) : List SFrac := l.flatMap e2
theorem Es_len : ∀ l, (Es l).length = 2 * l.length
  | [] => rfl
  | r :: l => by
    have := Es_len l
    unfold Es at this ⊢
    rw [List.flatMap_cons, List.length_append, this]; simp [e2]; omega
theorem levels0 (k : Nat) (l : List SRange) (hl : l.length ≤ 6) : ∀ (d fuel i : Nat) (y : List SFrac), l.length = i + d → d < fuel → y.length = 2 * i →
    nspeculumref06_SquareRange_l0_0 k l fuel y (i : Int) = some (y ++ Es (l.drop i)) := by
  intro d
  induction d with
  | zero =>
    intro fuel i y h hf hy
    obtain ⟨g, rfl⟩ : ∃ g, fuel = g + 1 := ⟨fuel - 1, by omega⟩
    rw [nspeculumref06_SquareRange_l0_0.eq_2, if_neg (by omega), List.drop_eq_nil_of_le (by omega)]; simp [Es]
  | succ d ih =>
    intro fuel i y h hf hy
    obtain ⟨g, rfl⟩ : ∃ g, fuel = g + 1 := ⟨fuel - 1, by omega⟩
    have hi : i < l.length := by omega
    rw [nspeculumref06_SquareRange_l0_0.eq_2, if_pos (by omega), if_pos (by omega), Int.toNat_natCast, if_pos (by simp only [List.length_cons, List.length_nil]; omega), w64_succ (by omega), ih g (i + 1) _ (by omega) (by omega) (by simp; omega), drop_c hi default, List.append_assoc]; rfl
def cR (t : Int) (r : SRange) : Int := (if 2 * r.Hi < t then 1 else 0) + (if t < 2 * r.Lo then 1 else 0)
def sR (t : Int) (r : SRange) : Int := (if 2 * r.Hi < t then r.Hi else 0) + (if t < 2 * r.Lo then r.Lo else 0)
theorem cs_bd {r : SRange} (h : OKr r) (t : Int) : (0 ≤ cR t r ∧ cR t r ≤ 1) ∧ -100000 ≤ sR t r ∧ sR t r ≤ 100000 := by
  unfold OKr at h
  unfold cR sR
  split <;> split <;> omega
theorem levels3 (k : Nat) {l : List SRange} (L : LK l) (hl : l.length ≤ 6) (E y : List SFrac) (j : Nat) (hj : j < y.length) (x7 e : Int) (h7 : 0 ≤ x7 ∧ x7 ≤ 1) (he : (y.getD j default).Num = e) (heb : -100000 ≤ e ∧ e ≤ 100000) (hyl : y.length ≤ 1000) : ∀ (d fuel i : Nat) (x z : Int), l.length = i + d → d < fuel → -((i : Int) * 100000) ≤ x → x ≤ (i : Int) * 100000 → 0 ≤ z → z ≤ (i : Int) →
    nspeculumref06_SquareRange_l3_0 k l E (j : Int) y x7 fuel (i : Int) x z = some (x + sm (sR (2 * e + 1 - 2 * x7)) (l.drop i), z + sm (cR (2 * e + 1 - 2 * x7)) (l.drop i)) := by
  intro d
  induction d with
  | zero =>
    intro fuel i x z h hf h1 h2 h3 h4
    obtain ⟨g, rfl⟩ : ∃ g, fuel = g + 1 := ⟨fuel - 1, by omega⟩
    rw [nspeculumref06_SquareRange_l3_0.eq_2, if_neg (by omega), List.drop_eq_nil_of_le (by omega)]; simp [sm]
  | succ d ih =>
    intro fuel i x z h hf h1 h2 h3 h4
    obtain ⟨g, rfl⟩ : ∃ g, fuel = g + 1 := ⟨fuel - 1, by omega⟩
    have hi : i < l.length := by omega
    have ho := L.ok _ (getD_m hi default)
    rw [nspeculumref06_SquareRange_l3_0.eq_2, if_pos (by omega), if_pos (by omega), if_pos (by omega), Int.toNat_natCast, Int.toNat_natCast, he, drop_c hi default]
    generalize l.getD i default = a at ho ⊢
    have hb := cs_bd ho (2 * e + 1 - 2 * x7)
    unfold OKr at ho
    rw [w64_id (n := 2 * e) (by omega) (by omega), w64_id (n := 2 * e + 1) (by omega) (by omega), w64_id (n := 2 * x7) (by omega) (by omega), w64_id (n := 2 * e + 1 - 2 * x7) (by omega) (by omega), w64_id (n := 2 * a.Hi) (by omega) (by omega), w64_id (n := 2 * a.Lo) (by omega) (by omega), w64_succ (by omega)]
    simp only [sm]
    have rc := fun x z h1 h2 h3 h4 => ih g (i + 1) x z (by omega) (by omega) h1 h2 h3 h4
    generalize 2 * e + 1 - 2 * x7 = t at *
    by_cases c1 : 2 * a.Hi < t
    · have c2 : ¬ t < 2 * a.Lo := by omega
      have e1 : cR t a = 1 := by unfold cR; rw [if_pos c1, if_neg c2]; rfl
      have e2 : sR t a = a.Hi := by unfold sR; rw [if_pos c1, if_neg c2]; omega
      rw [if_pos c1, if_neg c2, w64_id (n := x + a.Hi) (by omega) (by omega), w64_id (n := z + 1) (by omega) (by omega), rc _ _ (by omega) (by omega) (by omega) (by omega), e1, e2]
      congr 2 <;> omega
    · by_cases c2 : t < 2 * a.Lo
      · have e1 : cR t a = 1 := by unfold cR; rw [if_neg c1, if_pos c2]; rfl
        have e2 : sR t a = a.Lo := by unfold sR; rw [if_neg c1, if_pos c2]; omega
        rw [if_neg c1, if_pos c2, w64_id (n := x + a.Lo) (by omega) (by omega), w64_id (n := z + 1) (by omega) (by omega), rc _ _ (by omega) (by omega) (by omega) (by omega), e1, e2]
        congr 2 <;> omega
      · have e1 : cR t a = 0 := by unfold cR; rw [if_neg c1, if_neg c2]; rfl
        have e2 : sR t a = 0 := by unfold sR; rw [if_neg c1, if_neg c2]; rfl
        rw [if_neg c1, if_neg c2, rc _ _ (by omega) (by omega) (by omega) (by omega), e1, e2]
        congr 2 <;> omega
theorem cs_eq {l : List SRange} (L : LK l) (e : Int) : sm (cR (2 * e + 1 - 2 * 0)) l = NN e l ∧ sm (sR (2 * e + 1 - 2 * 0)) l = SS e l := by
  constructor
  · refine Sq.sm_congr l (fun a ha => ?_)
    have := L.ok a ha
    unfold OKr at this
    unfold cR Sq.cnt
    by_cases c1 : e < a.Lo
    · rw [if_pos c1, if_pos (show 2 * e + 1 - 2 * 0 < 2 * a.Lo by omega), if_neg (by omega)]; rfl
    · rw [if_neg c1]
      by_cases c2 : a.Hi ≤ e
      · rw [if_pos c2, if_pos (show 2 * a.Hi < 2 * e + 1 - 2 * 0 by omega), if_neg (by omega)]; rfl
      · rw [if_neg c2, if_neg (show ¬ 2 * a.Hi < 2 * e + 1 - 2 * 0 by omega), if_neg (by omega)]; rfl
  · refine Sq.sm_congr l (fun a ha => ?_)
    have := L.ok a ha
    unfold OKr at this
    unfold sR Sq.en
    by_cases c1 : e < a.Lo
    · rw [if_pos c1, if_pos (show 2 * e + 1 - 2 * 0 < 2 * a.Lo by omega), if_neg (by omega)]; omega
    · rw [if_neg c1]
      by_cases c2 : a.Hi ≤ e
      · rw [if_pos c2, if_pos (show 2 * a.Hi < 2 * e + 1 - 2 * 0 by omega), if_neg (by omega)]; omega
      · rw [if_neg c2, if_neg (show ¬ 2 * a.Hi < 2 * e + 1 - 2 * 0 by omega), if_neg (by omega)]; rfl
/-- one side of an end. -/
theorem side {k : Nat} (hk : 9223372036854775808 < k) {l : List SRange} (L : LK l) (hl : l.length ≤ 6) (E y : List SFrac) (j : Nat) (hj : j < y.length) (x7 e : Int) (h7 : 0 ≤ x7 ∧ x7 ≤ 1) (he : (y.getD j default).Num = e) (heb : -100000 ≤ e ∧ e ≤ 100000) (hyl : y.length ≤ 1000) (g : Nat) :
    ∃ t : List SFrac, nspeculumref06_SquareRange_l2_0 k l E (j : Int) (g + 1) y x7 = nspeculumref06_SquareRange_l2_0 k l E (j : Int) g (y ++ t) (x7 + 1) ∧ t.length ≤ 1 ∧ (∀ f ∈ t, Lev f) ∧ (x7 = 0 → 0 < NN e l → lw (SS e l) (NN e l) ∈ t) := by
  have h3 := levels3 k L hl E y j hj x7 e h7 he heb hyl l.length k 0 0 0 (by omega) (by omega) (by omega) (by omega) (by omega) (by omega)
  have hz : x7 = 0 → sm (cR (2 * e + 1 - 2 * x7)) l = NN e l ∧ sm (sR (2 * e + 1 - 2 * x7)) l = SS e l := fun h => by rw [h]; exact cs_eq L e
  have b1 := sm_le' (f := cR (2 * e + 1 - 2 * x7)) l (fun a ha => (cs_bd (L.ok a ha) _).1)
  have b2 := sm_bd (f := sR (2 * e + 1 - 2 * x7)) l (fun a ha => (cs_bd (L.ok a ha) _).2)
  rw [List.drop_zero, Int.zero_add, Int.zero_add] at h3
  rw [nspeculumref06_SquareRange_l2_0.eq_2, if_pos (by omega), show nspeculumref06_SquareRange_l3_0 k l E (j : Int) y x7 k 0 0 0 = _ from h3, Option.bind_some, w64_id (n := x7 + 1) (by omega) (by omega)]
  dsimp only
  generalize sm (cR (2 * e + 1 - 2 * x7)) l = N at *
  generalize sm (sR (2 * e + 1 - 2 * x7)) l = S at *
  by_cases c : 0 < N
  · have hw := lw_le (x := S) c
    rw [if_pos c, (lowests k hk (x := S) (y := N) (by omega) c (by omega)).1, Option.bind_some, if_pos (by simp only [List.length_cons, List.length_nil]; omega)]
    refine ⟨[lw S N], rfl, by simp, fun f hf => ?_, fun h _ => ?_⟩
    · rw [List.mem_singleton.1 hf]
      exact ⟨(lw_low c).d, by omega, by omega⟩
    · rw [(hz h).1, (hz h).2]; simp
  · rw [if_neg c]
    refine ⟨[], by rw [List.append_nil], by simp, (fun f hf => by cases hf), fun h h2 => ?_⟩
    rw [(hz h).1] at c
    exact absurd h2 c
/-- both sides of an end. -/
theorem sides {k : Nat} (hk : 9223372036854775808 < k) {l : List SRange} (L : LK l) (hl : l.length ≤ 6) (E y : List SFrac) (j : Nat) (hj : j < y.length) (e : Int) (he : (y.getD j default).Num = e) (heb : -100000 ≤ e ∧ e ≤ 100000) (hyl : y.length ≤ 900) :
    ∃ t : List SFrac, nspeculumref06_SquareRange_l2_0 k l E (j : Int) k y 0 = some (y ++ t) ∧ t.length ≤ 2 ∧ (∀ f ∈ t, Lev f) ∧ (0 < NN e l → lw (SS e l) (NN e l) ∈ t) := by
  obtain ⟨k', rfl⟩ : ∃ q, k = q + 3 := ⟨k - 3, by omega⟩
  obtain ⟨t1, a1, a2, a3, a4⟩ := side hk L hl E y j hj 0 e (by omega) he heb (by omega) (k' + 2)
  have hg : (y ++ t1).getD j default = y.getD j default := by
    rw [List.getD_eq_getElem?_getD, List.getElem?_append_left hj, ← List.getD_eq_getElem?_getD]
  obtain ⟨t2, b1, b2, b3, -⟩ := side hk L hl E (y ++ t1) j (by rw [List.length_append]; omega) 1 e (by omega) (by rw [hg]; exact he) heb (by rw [List.length_append]; omega) (k' + 1)
  refine ⟨t1 ++ t2, ?_, by rw [List.length_append]; omega, fun f hf => ?_, fun h => List.mem_append_left _ (a4 rfl h)⟩
  · rw [a1, show (0 : Int) + 1 = 1 from rfl, b1, nspeculumref06_SquareRange_l2_0.eq_2, if_neg (by omega), List.append_assoc]
  · rcases List.mem_append.1 hf with h | h
    · exact a3 f h
    · exact b3 f h
theorem Es_at {l : List SRange} (L : LK l) : ∀ f ∈ Es l, f.Den = 1 ∧ -100000 ≤ f.Num ∧ f.Num ≤ 100000 := fun f hf => by
  obtain ⟨r, hr, hf⟩ := List.mem_flatMap.1 hf
  have ho := L.ok r hr
  unfold OKr at ho
  unfold e2 at hf
  rcases List.mem_cons.1 hf with rfl | hf
  · exact ⟨rfl, by dsimp only; omega, by dsimp only; omega⟩
  · rw [List.mem_singleton.1 hf]
    exact ⟨rfl, by dsimp only; omega, by dsimp only; omega⟩
theorem levels1 {k : Nat} (hk : 9223372036854775808 < k) {l : List SRange} (L : LK l) (hl : l.length ≤ 6) : ∀ (d fuel i : Nat) (t : List SFrac), (Es l).length = i + d → d < fuel → t.length ≤ 2 * i → (∀ f ∈ t, Lev f) →
    ∃ t', nspeculumref06_SquareRange_l1_0 k l (Es l) fuel (Es l ++ t) (i : Int) = some (Es l ++ t') ∧ (∀ f ∈ t', Lev f) ∧ (∀ f ∈ t, f ∈ t') ∧ t'.length ≤ 100 ∧ ∀ j, i ≤ j → j < (Es l).length → 0 < NN ((Es l).getD j default).Num l → lw (SS ((Es l).getD j default).Num l) (NN ((Es l).getD j default).Num l) ∈ t' := by
  have hE := Es_len l
  intro d
  induction d with
  | zero =>
    intro fuel i t h hf ht hlev
    obtain ⟨g, rfl⟩ : ∃ g, fuel = g + 1 := ⟨fuel - 1, by omega⟩
    exact ⟨t, by rw [nspeculumref06_SquareRange_l1_0.eq_2, if_neg (by omega)], hlev, fun f hf => hf, by omega, fun j h1 h2 => by omega⟩
  | succ d ih =>
    intro fuel i t h hf ht hlev
    obtain ⟨g, rfl⟩ : ∃ g, fuel = g + 1 := ⟨fuel - 1, by omega⟩
    have hi : i < (Es l).length := by omega
    have hb := Es_at L _ (getD_m hi default)
    have hg : (Es l ++ t).getD i default = (Es l).getD i default := by
      rw [List.getD_eq_getElem?_getD, List.getElem?_append_left hi, ← List.getD_eq_getElem?_getD]
    obtain ⟨t1, a1, a2, a3, a4⟩ := sides hk L hl (Es l) (Es l ++ t) i (by rw [List.length_append]; omega) _ (by rw [hg]) hb.2 (by rw [List.length_append]; omega)
    rw [nspeculumref06_SquareRange_l1_0.eq_2, if_pos (by omega), a1, Option.bind_some, w64_succ (by omega), List.append_assoc]
    obtain ⟨t', b1, b2, b3, b4, b5⟩ := ih g (i + 1) (t ++ t1) (by omega) (by omega) (by rw [List.length_append]; omega) (fun f hf => by
      rcases List.mem_append.1 hf with h | h
      · exact hlev f h
      · exact a3 f h)
    refine ⟨t', b1, b2, fun f hf => b3 f (List.mem_append_left _ hf), b4, fun j h1 h2 h3 => ?_⟩
    by_cases e : j = i
    · rw [e] at h3 ⊢
      exact b3 _ (List.mem_append_right _ (a4 h3))
    · exact b5 j (by omega) h2 h3
/-- all levels are looked at. -/
theorem levels {k : Nat} (hk : 9223372036854775808 < k) {l : List SRange} (L : LK l) (hl : l.length ≤ 6) : ∃ F : List SFrac, ((nspeculumref06_SquareRange_l0_0 k l k [] 0).bind fun E => nspeculumref06_SquareRange_l1_0 k l E k E 0) = some F ∧ (∀ f ∈ F, Lev f) ∧ 0 < F.length ∧ F.length ≤ 200 ∧ (∀ a ∈ l, ∀ e, e = a.Lo ∨ e = a.Hi → 0 < NN e l → lw (SS e l) (NN e l) ∈ F) ∧ nspeculumref06_SquareRange_l0_0 k l k [] 0 = some (Es l) ∧ nspeculumref06_SquareRange_l1_0 k l (Es l) k (Es l) 0 = some F := by
  have h0 := levels0 k l hl l.length k 0 [] (by omega) (by omega) rfl
  rw [show nspeculumref06_SquareRange_l0_0 k l k [] ((0 : Nat) : Int) = nspeculumref06_SquareRange_l0_0 k l k [] 0 from rfl, List.nil_append, List.drop_zero] at h0
  have hE := Es_len l
  have hn := L.n0
  obtain ⟨t', b1, b2, -, b4, b5⟩ := levels1 hk L hl (Es l).length k 0 [] (by omega) (by omega) (by simp) (fun f hf => by cases hf)
  rw [List.append_nil] at b1
  refine ⟨Es l ++ t', by rw [h0, Option.bind_some]; exact b1, fun f hf => ?_, by rw [List.length_append]; omega, by rw [List.length_append]; omega, fun a ha e he h => ?_, h0, b1⟩
  · rcases List.mem_append.1 hf with h | h
    · have := Es_at L f h
      exact ⟨by omega, by omega, by omega⟩
    · exact b2 f h
  · have hm : (⟨e, 1⟩ : SFrac) ∈ Es l := List.mem_flatMap.2 ⟨a, ha, by
      unfold e2
      rcases he with rfl | rfl
      · simp
      · simp⟩
    obtain ⟨j, hj, e1⟩ := List.getElem_of_mem hm
    have e2 : (Es l).getD j default = ⟨e, 1⟩ := by rw [List.getD_eq_getElem?_getD, List.getElem?_eq_getElem hj, Option.getD_some, e1]
    have := b5 j (Nat.zero_le _) hj
    rw [e2] at this
    exact List.mem_append_right _ (this h)
/-! the least -/
theorem leastR_l {k : Nat} (hk : 9223372036854775808 < k) {l : List SRange} (L : LK l) (hl : l.length ≤ 6) {F : List SFrac} (hF : ∀ f ∈ F, Lev f) (hlen : F.length ≤ 200) {T : SFrac} (hT : Fr T) (hge : ∀ f, Lev f → T.Num * (xq l f).Den ≤ (xq l f).Num * T.Den) : ∀ (d fuel i : Nat) (b : SFrac), F.length = i + d → d < fuel → Fr b → T.Num * b.Den ≤ b.Num * T.Den → (b = T ∨ ∃ f ∈ F.drop i, xq l f = T) →
    nspeculumref06_SquareRange_l4_0 k l F fuel b.Num b.Den (i : Int) = some (T.Num, T.Den) := by
  intro d
  induction d with
  | zero =>
    intro fuel i b h hf hb hbT hor
    obtain ⟨g, rfl⟩ : ∃ g, fuel = g + 1 := ⟨fuel - 1, by omega⟩
    rw [nspeculumref06_SquareRange_l4_0.eq_2, if_neg (by omega)]
    rcases hor with rfl | ⟨f, h2, -⟩
    · rfl
    · rw [List.drop_eq_nil_of_le (by omega)] at h2; cases h2
  | succ d ih =>
    intro fuel i b h hf hb hbT hor
    obtain ⟨g, rfl⟩ : ∃ g, fuel = g + 1 := ⟨fuel - 1, by omega⟩
    have hi : i < F.length := by omega
    have hm := getD_m hi default
    rw [drop_c hi default] at hor
    rw [nspeculumref06_SquareRange_l4_0.eq_2, if_pos (by omega), if_pos (by omega), Int.toNat_natCast]
    generalize F.getD i default = x at hm hor ⊢
    have V := hF x hm
    have hx := hge x V
    rw [nearestR_any (by omega) L hl V, Option.bind_some, xq_any hk L hl V, Option.bind_some, show (⟨b.Num, b.Den⟩ : SFrac) = b from rfl, less2_any k (xq_fr L hl V) hb, Option.bind_some, w64_succ (by omega)]
    by_cases c : (xq l x).Num * b.Den < b.Num * (xq l x).Den
    · rw [if_pos (decide_eq_true c)]
      refine ih g (i + 1) (xq l x) (by omega) (by omega) (xq_fr L hl V) hx ?_
      rcases hor with rfl | ⟨f, h2, h3⟩
      · exfalso; omega
      · rcases List.mem_cons.1 h2 with rfl | h2
        · exact .inl h3
        · exact .inr ⟨f, h2, h3⟩
    · rw [if_neg (by simpa using c)]
      refine ih g (i + 1) b (by omega) (by omega) hb hbT ?_
      rcases hor with h2 | ⟨f, h2, h3⟩
      · exact .inl h2
      · rcases List.mem_cons.1 h2 with rfl | h2
        · rw [h3] at c
          exact .inl (Low.eq hb.low hT.low (by omega))
        · exact .inr ⟨f, h2, h3⟩
end Go.Proofs.Ytggggonmlmondaa.Vg

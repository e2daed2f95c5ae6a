/- FigureSquares: the greatest mean square; the law. Plain. -/
import Derived.Test.YtggggonmlmondaaSD
set_option linter.unusedVariables false
set_option linter.unusedSimpArgs false
namespace Go.Proofs.Ytggggonmlmondaa.Vg
open Go Go.Proofs.Ytggggonmlmondaa.Ev Go.Proofs.Ytggggonmlmondaa.Vv
open Sq (sm vr cl)
local notation "LO" => SRange.Lo
local notation "HI" => SRange.Hi
theorem set_get {y : List Int} {i : Nat} (h : i < y.length) (v : Int) (j : Nat) : (y.set i v).getD j 0 = if j = i then v else y.getD j 0 := by
  rw [List.getD_eq_getElem?_getD, List.getD_eq_getElem?_getD, List.getElem?_set]
  by_cases e : j = i
  · subst e; rw [if_pos rfl, if_pos rfl, if_pos h]; rfl
  · rw [if_neg (fun h => e h.symm), if_neg e]
theorem ch_get (l : List SRange) (c : Int) {j : Nat} (hj : j < l.length) : (chH l c).getD j 0 = hv l c j := by
  unfold chH
  rw [List.getD_eq_getElem?_getD, List.getElem?_map, List.getElem?_range hj]; rfl
theorem ch_ext {l : List SRange} {c : Int} {y : List Int} (hy : y.length = l.length) (h : ∀ j, j < l.length → y.getD j 0 = hv l c j) : y = chH l c := by
  refine List.ext_getElem (by rw [chH_len]; exact hy) (fun j h1 h2 => ?_)
  have e1 := h j (by omega)
  rw [← ch_get l c (by omega), List.getD_eq_getElem?_getD, List.getD_eq_getElem?_getD, List.getElem?_eq_getElem h1, List.getElem?_eq_getElem h2] at e1
  exact e1
theorem setH_l (k : Nat) (l : List SRange) (hl : l.length ≤ 6) (x13 c x4 : Int) : ∀ (d fuel i : Nat) (y : List Int), l.length = i + d → d < fuel → y.length = l.length → (∀ j, j < i → y.getD j 0 = hv l c j) →
    nfigure_greatestSquare_l1_0 k l x13 c x4 fuel y (i : Int) = some (chH l c) := by
  intro d
  induction d with
  | zero =>
    intro fuel i y h hf hy hj
    obtain ⟨g, rfl⟩ : ∃ g, fuel = g + 1 := ⟨fuel - 1, by omega⟩
    rw [nfigure_greatestSquare_l1_0.eq_2, if_neg (by omega), ch_ext hy (fun j h1 => hj j (by omega))]
  | succ d ih =>
    intro fuel i y h hf hy hj
    obtain ⟨g, rfl⟩ : ∃ g, fuel = g + 1 := ⟨fuel - 1, by omega⟩
    have hi : i < l.length := by omega
    have hs1 : (y.set i (l.getD i default).Lo).length = l.length := by rw [List.length_set]; exact hy
    rw [nfigure_greatestSquare_l1_0.eq_2, if_pos (by omega), if_pos (by omega), if_pos (by omega), if_pos (by omega)]
    have hv1 : hv l c i = if (bits2 (fun _ x y => x &&& y) .i64 (c.fdiv (2 ^ (min (i : Int).toNat 64))) 1) = 1 then (l.getD i default).Hi else (l.getD i default).Lo := rfl
    by_cases cc : (bits2 (fun _ x y => x &&& y) .i64 (c.fdiv (2 ^ (min (i : Int).toNat 64))) 1) = 1
    · rw [if_pos cc] at hv1
      rw [if_pos cc, Int.toNat_natCast, if_pos (by omega), if_pos (by omega), w64_succ (by omega)]
      refine ih g (i + 1) _ (by omega) (by omega) (by rw [List.length_set]; exact hs1) (fun j hj2 => ?_)
      rw [set_get (by omega), set_get (by omega)]
      by_cases e : j = i
      · rw [if_pos e, e, hv1]
      · rw [if_neg e, if_neg e, hj j (by omega)]
    · rw [if_neg cc] at hv1
      rw [if_neg cc, Int.toNat_natCast, w64_succ (by omega)]
      refine ih g (i + 1) _ (by omega) (by omega) hs1 (fun j hj2 => ?_)
      rw [set_get (by omega)]
      by_cases e : j = i
      · rw [if_pos e, e, hv1]
      · rw [if_neg e, hj j (by omega)]
theorem appH_l (k : Nat) (l : List SRange) (hl : l.length ≤ 6) (F : List SFrac) (p : Int × Int) (b0 b1 c : Int) : ∀ (d fuel i : Nat), l.length = i + d → d < fuel →
    nspeculumref06_SquareRange_l6_0 k l F p b0 b1 c fuel ((List.range i).map (hv l c)) (i : Int) = some (chH l c) := by
  intro d
  induction d with
  | zero =>
    intro fuel i h hf
    obtain ⟨g, rfl⟩ : ∃ g, fuel = g + 1 := ⟨fuel - 1, by omega⟩
    rw [nspeculumref06_SquareRange_l6_0.eq_2, if_neg (by omega), show i = l.length by omega]; rfl
  | succ d ih =>
    intro fuel i h hf
    obtain ⟨g, rfl⟩ : ∃ g, fuel = g + 1 := ⟨fuel - 1, by omega⟩
    have hi : i < l.length := by omega
    have hv1 : hv l c i = if (bits2 (fun _ x y => x &&& y) .i64 (c.fdiv (2 ^ (min (i : Int).toNat 64))) 1) = 1 then (l.getD i default).Hi else (l.getD i default).Lo := rfl
    have ea : (List.range i).map (hv l c) ++ [hv l c i] = (List.range (i + 1)).map (hv l c) := by rw [List.range_succ, List.map_append]; rfl
    have hlen : ((List.range i).map (hv l c)).length = i := by simp
    rw [nspeculumref06_SquareRange_l6_0.eq_2, if_pos (by omega), if_pos (by omega)]
    by_cases cc : (bits2 (fun _ x y => x &&& y) .i64 (c.fdiv (2 ^ (min (i : Int).toNat 64))) 1) = 1
    · rw [if_pos cc] at hv1
      rw [if_pos cc, if_pos (by omega), if_pos (by simp only [List.length_cons, List.length_nil]; omega), Int.toNat_natCast, w64_succ (by omega), ← hv1, ea]
      exact ih g (i + 1) (by omega) (by omega)
    · rw [if_neg cc] at hv1
      rw [if_neg cc, if_pos (by omega), if_pos (by simp only [List.length_cons, List.length_nil]; omega), Int.toNat_natCast, w64_succ (by omega), ← hv1, ea]
      exact ih g (i + 1) (by omega) (by omega)
theorem sqt_l (k : Nat) (a : List Int) (hl : a.length ≤ 6) (hb : ∀ y ∈ a, -600000 ≤ y ∧ y ≤ 600000) : ∀ (d fuel i : Nat) (z : Int), a.length = i + d → d < fuel → 0 ≤ z → z ≤ (i : Int) * 360000000000 →
    nfigure_squareTimesDen_l0_0 k a fuel z (i : Int) = some (z + sm (fun y => id y * id y) (a.drop i)) := by
  intro d
  induction d with
  | zero =>
    intro fuel i z h hf h3 h4
    obtain ⟨g, rfl⟩ : ∃ g, fuel = g + 1 := ⟨fuel - 1, by omega⟩
    rw [nfigure_squareTimesDen_l0_0.eq_2, if_neg (by omega), List.drop_eq_nil_of_le (by omega)]; simp [sm]
  | succ d ih =>
    intro fuel i z h hf h3 h4
    obtain ⟨g, rfl⟩ : ∃ g, fuel = g + 1 := ⟨fuel - 1, by omega⟩
    have hi : i < a.length := by omega
    have hy := hb _ (getD_m hi 0)
    rw [nfigure_squareTimesDen_l0_0.eq_2, if_pos (by omega), if_pos (by omega), Int.toNat_natCast, drop_c hi 0]
    generalize a.getD i 0 = y at hy ⊢
    have hq := sq_bd (B := 600000) hy.1 hy.2
    rw [w64_succ (by omega), w64_id (n := y * y) (by omega) (by omega), w64_id (n := z + y * y) (by omega) (by omega), ih g (i + 1) _ (by omega) (by omega) (by omega) (by omega)]
    simp only [sm, id]
    congr 1; omega
theorem sqt_any {k : Nat} (hk : 100 < k) {a : List Int} (hl : a.length ≤ 6) (hb : ∀ y ∈ a, -600000 ≤ y ∧ y ≤ 600000) : nfigure_squareTimesDen k a = some (vr id a) := by
  unfold nfigure_squareTimesDen
  have h := sqt_l k a hl hb a.length k 0 0 (by omega) (by omega) (by omega) (by omega)
  obtain ⟨v1, v2, v3, v4, v5⟩ := vr_bd hl hb
  have q1 := Int.mul_le_mul (show (a.length : Int) ≤ 6 by omega) v5 v4 (by omega)
  have q0 := Int.mul_nonneg (show (0 : Int) ≤ (a.length : Int) by omega) v4
  have q2 := sq_bd (x := sm id a) (B := 3600000) (by omega) (by omega)
  have ev : (a.length : Int) * sm (fun y => id y * id y) a - sm id a * sm id a = vr id a := rfl
  rw [show nfigure_squareTimesDen_l0_0 k a k 0 0 = _ from h, Option.bind_some, List.drop_zero, Int.zero_add, total_any hk a (by omega) (fun y hy => by have := hb y hy; omega), Option.bind_some, w64_id (n := (a.length : Int) * sm (fun y => id y * id y) a) (by omega) (by omega), w64_id (n := sm id a * sm id a) (by omega) (by omega), ev, w64_id (n := vr id a) (by omega) (by omega)]
theorem great_l {k : Nat} (hk : 100 < k) {l : List SRange} (L : LK l) (hl : l.length ≤ 6) {P : Nat} (hP : P ≤ 64) : ∀ (d fuel c : Nat) (y : List Int) (b : Int), P = c + d → d < fuel → y.length = l.length →
    ∃ M, nfigure_greatestSquare_l0_0 k l fuel y (P : Int) (c : Int) b = some M ∧ b ≤ M ∧ (∀ c' : Nat, c ≤ c' → c' < P → vr id (chH l c') ≤ M) ∧ (M = b ∨ ∃ c' : Nat, c ≤ c' ∧ c' < P ∧ M = vr id (chH l c')) := by
  intro d
  induction d with
  | zero =>
    intro fuel c y b h hf hy
    obtain ⟨g, rfl⟩ : ∃ g, fuel = g + 1 := ⟨fuel - 1, by omega⟩
    exact ⟨b, by rw [nfigure_greatestSquare_l0_0.eq_2, if_neg (by omega)], Int.le_refl _, fun c' h1 h2 => by omega, .inl rfl⟩
  | succ d ih =>
    intro fuel c y b h hf hy
    obtain ⟨g, rfl⟩ : ∃ g, fuel = g + 1 := ⟨fuel - 1, by omega⟩
    have h1 := setH_l k l hl (P : Int) (c : Int) b l.length k 0 y (by omega) (by omega) hy (fun j hj => by omega)
    have h2 := sqt_any hk (a := chH l c) (by rw [chH_len]; exact hl) (fun z hz => by have := chH_bd L c z hz; omega)
    rw [nfigure_greatestSquare_l0_0.eq_2, if_pos (by omega), show nfigure_greatestSquare_l1_0 k l (P : Int) (c : Int) b k y 0 = _ from h1, Option.bind_some, h2, Option.bind_some, w64_succ (by omega)]
    obtain ⟨M, m1, m2, m3, m4⟩ := ih g (c + 1) (chH l c) (maxI b (vr id (chH l c))) (by omega) (by omega) (chH_len l c)
    have hmx : b ≤ maxI b (vr id (chH l c)) ∧ vr id (chH l c) ≤ maxI b (vr id (chH l c)) ∧ (maxI b (vr id (chH l c)) = b ∨ maxI b (vr id (chH l c)) = vr id (chH l c)) := by
      unfold maxI; split <;> omega
    refine ⟨M, m1, by omega, fun c' h3 h4 => ?_, ?_⟩
    · by_cases e : c' = c
      · rw [e]; omega
      · exact m3 c' (by omega) h4
    · rcases m4 with m4 | ⟨c', h3, h4, h5⟩
      · rcases hmx.2.2 with h6 | h6
        · exact .inl (by omega)
        · exact .inr ⟨c, Nat.le_refl _, by omega, by omega⟩
      · exact .inr ⟨c', by omega, h4, h5⟩
theorem pow_n : ∀ n : Nat, n ≤ 6 → ∃ P : Nat, w64 (1 * 2 ^ (min ((n : Nat) : Int).toNat 64)) = (P : Int) ∧ 1 ≤ P ∧ P ≤ 64 := fun n hn => by
  have h : ∀ m : Fin 7, w64 (1 * 2 ^ (min (((m.1 : Nat) : Int)).toNat 64)) = (((2 ^ m.1 : Nat)) : Int) ∧ 1 ≤ 2 ^ m.1 ∧ 2 ^ m.1 ≤ 64 := by decide +kernel
  exact ⟨2 ^ n, h ⟨n, by omega⟩⟩
/-- the greatest mean square of the reference. -/
theorem greatR_l {k : Nat} (hk : 9223372036854775808 < k) {l : List SRange} (L : LK l) (hl : l.length ≤ 6) (F : List SFrac) (p : Int × Int) {P : Nat} (hP : w64 (1 * 2 ^ (min ((l.length : Nat) : Int).toNat 64)) = (P : Int)) (hP2 : P ≤ 64) {Z : SFrac} (hZ : Fr Z) (hge : ∀ c : Nat, c < P → (mq (chH l c) 1).Num * Z.Den ≤ Z.Num * (mq (chH l c) 1).Den) : ∀ (d fuel c : Nat) (b : SFrac), P = c + d → d < fuel → Fr b → b.Num * Z.Den ≤ Z.Num * b.Den → (b = Z ∨ ∃ c' : Nat, c ≤ c' ∧ c' < P ∧ mq (chH l c') 1 = Z) →
    nspeculumref06_SquareRange_l5_0 k l F p fuel b.Num b.Den (c : Int) = some (Z.Num, Z.Den) := by
  have n0 := L.n0
  intro d
  induction d with
  | zero =>
    intro fuel c b h hf hb hbZ hor
    obtain ⟨g, rfl⟩ : ∃ g, fuel = g + 1 := ⟨fuel - 1, by omega⟩
    rw [nspeculumref06_SquareRange_l5_0.eq_2, if_pos (by omega), hP, if_neg (by omega)]
    rcases hor with rfl | ⟨c', h1, h2, -⟩
    · rfl
    · omega
  | succ d ih =>
    intro fuel c b h hf hb hbZ hor
    obtain ⟨g, rfl⟩ : ∃ g, fuel = g + 1 := ⟨fuel - 1, by omega⟩
    have h1 := appH_l k l hl F p b.Num b.Den (c : Int) l.length k 0 (by omega) (by omega)
    have hbd : ∀ z ∈ chH l c, -600000 ≤ z ∧ z ≤ 600000 := fun z hz => by have := chH_bd L c z hz; omega
    have hx := mq_fr (a := chH l c) (den := 1) (by rw [chH_len]; exact hl) (by rw [chH_len]; exact n0) (by omega) hbd
    have hxZ := hge c (by omega)
    rw [nspeculumref06_SquareRange_l5_0.eq_2, if_pos (by omega), hP, if_pos (by omega), show nspeculumref06_SquareRange_l6_0 k l F p b.Num b.Den (c : Int) k [] 0 = _ from h1, Option.bind_some, squareR_any hk (by rw [chH_len]; exact hl) (by rw [chH_len]; exact n0) (by omega) hbd, Option.bind_some, show (⟨b.Num, b.Den⟩ : SFrac) = b from rfl, less2_any k hb hx, Option.bind_some, w64_succ (by omega)]
    by_cases cc : b.Num * (mq (chH l c) 1).Den < (mq (chH l c) 1).Num * b.Den
    · rw [if_pos (decide_eq_true cc)]
      refine ih g (c + 1) _ (by omega) (by omega) hx hxZ ?_
      rcases hor with rfl | ⟨c', h2, h3, h4⟩
      · exfalso; omega
      · by_cases e : c' = c
        · rw [e] at h4; exact .inl h4
        · exact .inr ⟨c', by omega, h3, h4⟩
    · rw [if_neg (by simpa using cc)]
      refine ih g (c + 1) b (by omega) (by omega) hb hbZ ?_
      rcases hor with h2 | ⟨c', h2, h3, h4⟩
      · exact .inl h2
      · by_cases e : c' = c
        · rw [e] at h4
          rw [h4] at cc
          exact .inl (Low.eq hb.low hZ.low (by omega))
        · exact .inr ⟨c', by omega, h3, h4⟩
/-- the mean squares of both. -/
theorem ranges_eq {k : Nat} (hk : 9223372036854775808 < k) {l : List SRange} (L : LK l) (hl : l.length ≤ 6) : ∃ T Z : SFrac, nfigure_leastSquare k l = some T ∧ nfigure_greatestSquare k l = some Z ∧ nspeculumref06_SquareRange k l = some ⟨T, Z⟩ := by
  have n0 := L.n0
  obtain ⟨T, f, V, hz, hT, t1, F, f1, f2, f3, f4, f5⟩ := leasts hk L hl
  obtain ⟨P, p1, p2, p3⟩ := pow_n l.length hl
  obtain ⟨M, m1, m2, m3, m4⟩ := great_l (k := k) (by omega) L hl p3 P k 0 (List.replicate l.length (0 : Int)) 0 (by omega) (by omega) (by simp)
  have hM : ∃ c : Nat, c < P ∧ M = vr id (chH l c) := by
    rcases m4 with h | ⟨c, -, h2, h3⟩
    · have h0 := m3 0 (Nat.le_refl _) (by omega)
      have h1 := Sq.vr_nonneg id (chH l ((0 : Nat) : Int))
      exact ⟨0, by omega, by omega⟩
    · exact ⟨c, h2, h3⟩
  obtain ⟨c, hc, hMc⟩ := hM
  have hbd : ∀ (c : Nat), ∀ z ∈ chH l c, -600000 ≤ z ∧ z ≤ 600000 := fun c z hz => by have := chH_bd L c z hz; omega
  have hfr : ∀ c : Nat, Fr (mq (chH l c) 1) := fun c => mq_fr (by rw [chH_len]; exact hl) (by rw [chH_len]; exact n0) (by omega) (hbd c)
  obtain ⟨d1, d2, d3, d4, d5, d6⟩ := dd_bd (n := (l.length : Int)) (den := 1) (by omega) (by omega) (by omega) (by omega)
  have hmb := (vr_bd (a := chH l c) (by rw [chH_len]; exact hl) (hbd c))
  refine ⟨T, mq (chH l c) 1, t1, ?_, ?_⟩
  · unfold nfigure_greatestSquare
    rw [if_pos (by omega), if_pos (by omega), p1, Int.toNat_natCast, show nfigure_greatestSquare_l0_0 k l k (List.replicate l.length (0 : Int)) (P : Int) 0 0 = _ from m1, Option.bind_some, w64_id (n := (l.length : Int) * (l.length : Int)) (by omega) (by omega), (lowests k hk (x := M) (y := (l.length : Int) * (l.length : Int)) (by rw [hMc]; omega) d5 (by omega)).2, Option.bind_some]
    unfold mq
    rw [chH_len, Int.mul_one, Int.mul_one, hMc]
  · have hge : ∀ c' : Nat, c' < P → (mq (chH l c') 1).Num * (mq (chH l c) 1).Den ≤ (mq (chH l c) 1).Num * (mq (chH l c') 1).Den := fun c' h => by
      have h1 := m3 c' (Nat.zero_le _) h
      unfold mq
      rw [chH_len, chH_len]
      refine lw_cmp d1 d1 (Int.mul_le_mul_of_nonneg_right (by omega) (by omega))
    have h5 := greatR_l hk L hl F (T.Num, T.Den) p1 p3 (hfr c) hge P k 0 T (by omega) (by omega) (by rw [hT]; exact xq_fr L hl V) (by rw [hT]; exact opt_c L hl V hz c) (.inr ⟨c, Nat.zero_le _, hc, rfl⟩)
    unfold nspeculumref06_SquareRange
    rw [f1, Option.bind_some, f2, Option.bind_some, if_pos (by omega), show ((0 : Int)).toNat = 0 from rfl, nearestR_any (by omega) L hl f4, Option.bind_some, xq_any hk L hl f4, Option.bind_some, f5, Option.bind_some]
    dsimp only
    rw [show nspeculumref06_SquareRange_l5_0 k l F (T.Num, T.Den) k T.Num T.Den 0 = _ from h5]; rfl
theorem ranges_any (k : Nat) (l : List SRange) (h : l.length ≤ 1000) : nspeculumlaw06_ranges k l = some l := by
  unfold nspeculumlaw06_ranges
  rw [if_pos (by simp only [List.length_nil]; omega), List.nil_append]
theorem law_squares {k : Nat} (hk : 9223372036854775808 < k) (l : List SRange) : nspeculumlaw06_FigureSquares k l = some true := by
  unfold nspeculumlaw06_FigureSquares
  rw [show nawake k = some true from rfl, Option.bind_some, if_pos rfl]
  by_cases c1 : 6 < (l.length : Int)
  · rw [if_pos c1]
    by_cases c2 : (l.length : Int) ≤ 10
    · rw [if_pos c2]
    rw [if_neg c2]
    by_cases c3 : 45 < (l.length : Int)
    · rw [if_pos c3]
    rw [if_neg c3, ranges_any k l (by omega), Option.bind_some]
    obtain ⟨e, e1, e2, e3⟩ := encs (k := k) (by omega) l (by omega)
    unfold nfigure_SquareRange
    rw [e1, Option.bind_some]
    by_cases c : e = 0
    · rw [if_pos c, if_pos (by omega), Option.bind_some, e2, Option.bind_some, if_pos c, if_pos (by omega)]; rfl
    · rw [if_neg c, Option.bind_some, e2, Option.bind_some, if_neg c, if_pos rfl]; rfl
  · rw [if_neg c1, if_neg (by omega), ranges_any k l (by omega), Option.bind_some]
    obtain ⟨e, e1, e2, e3⟩ := encs (k := k) (by omega) l (by omega)
    unfold nfigure_SquareRange
    rw [e1, Option.bind_some]
    by_cases c : e = 0
    · obtain ⟨T, Z, t1, t2, t3⟩ := ranges_eq hk (e3 c) (by omega)
      rw [if_pos c, if_neg (by omega), t1, Option.bind_some, t2, Option.bind_some, Option.bind_some, e2, Option.bind_some, if_pos c, if_neg (by omega), if_pos rfl, t3, Option.bind_some]
      simp
    · rw [if_neg c, Option.bind_some, e2, Option.bind_some, if_neg c, if_pos rfl]; rfl
theorem vc_squares (l : List SRange) : VC Go.Proofs.Try.prog 3 [VV.tr (List.flatMap c_SRange l) l.length] (vb true) := nspeculumlaw06_FigureSquares_ok 100000000000000000000 l true (law_squares (by decide) l)
end Go.Proofs.Ytggggonmlmondaa.Vg

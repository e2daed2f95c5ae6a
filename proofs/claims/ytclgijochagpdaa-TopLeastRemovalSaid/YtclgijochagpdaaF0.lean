import Derived.Test.YtclgijochagpdaaLG
set_option linter.unusedVariables false
set_option linter.unusedSimpArgs false
namespace Go.Proofs.Ytclgijochagpdaa.Vg.Fg
open Go Go.Proofs.Ytclgijochagpdaa.Ev Go.Proofs.Ytclgijochagpdaa.Vv Go.Proofs.Ytclgijochagpdaa.Vg
namespace Hull
theorem minimal {α : Type} (C : α -> Prop) (le : α -> α -> Prop) (rf : ∀ a, C a -> le a a) (tot : ∀ a b, C a -> C b -> le a b \/ le b a) (tr : ∀ a b c, C a -> C b -> C c -> le a b -> le b c -> le a c) :
 ∀ l : List α, (∃ a, a ∈ l /\ C a) -> ∃ a, a ∈ l /\ C a /\ ∀ b, b ∈ l -> C b -> le a b
 | [], ⟨a, h, _⟩ => absurd h (by simp)
 | x :: l, ⟨a, h, c⟩ => by
   by_cases e : ∃ a, a ∈ l /\ C a
   ·obtain ⟨y, y1, y2, y3⟩ := minimal C le rf tot tr l e
    by_cases cx : C x
    ·rcases tot x y cx y2 with t | t
     ·refine ⟨x, by simp, cx, fun b hb cb => ?_⟩
      rcases List.mem_cons.1 hb with rfl | hb
      ·exact rf _ cx
      ·exact tr _ _ _ cx y2 cb t (y3 b hb cb)
     ·refine ⟨y, by simp [y1], y2, fun b hb cb => ?_⟩
      rcases List.mem_cons.1 hb with rfl | hb
      ·exact t
      ·exact y3 b hb cb
    ·refine ⟨y, by simp [y1], y2, fun b hb cb => ?_⟩
     rcases List.mem_cons.1 hb with rfl | hb
     ·exact absurd cb cx
     ·exact y3 b hb cb
   ·rcases List.mem_cons.1 h with rfl | h
    ·refine ⟨a, by simp, c, fun b hb cb => ?_⟩
     rcases List.mem_cons.1 hb with rfl | hb
     ·exact rf _ c
     ·exact absurd ⟨b, hb, cb⟩ e
    ·exact absurd ⟨a, h, c⟩ e
def Dq (q h : Nat -> Int) (i j k : Nat) : Int := (h k - h i) * (q j - q i) - (h j - h i) * (q k - q i)
def NV (q h : Nat -> Int) (m : Int) (i j : Nat) : Int := h i * (2 * q j - m) + h j * (m - 2 * q i)
theorem nv_right (q h : Nat -> Int) (m : Int) (i j k : Nat) : NV q h m i j * (q j - q k) - NV q h m k j * (q j - q i) = (2 * q j - m) * (-(Dq q h i j k)) := by
 unfold NV Dq; grind
theorem nv_left (q h : Nat -> Int) (m : Int) (i j k : Nat) : NV q h m i j * (q k - q i) - NV q h m i k * (q j - q i) = (m - 2 * q i) * (-(Dq q h i j k)) := by
 unfold NV Dq; grind
theorem hull (n : Nat) (q h : Nat -> Int) (m : Int) (hm : ∀ k, k < n -> 2 * q k ≠ m) (hl : ∃ i, i < n /\ 2 * q i < m) (hr : ∃ j, j < n /\ m < 2 * q j) :
 ∃ i j, i < n /\ j < n /\ 2 * q i < m /\ m < 2 * q j /\ ∀ k, k < n -> 0 <= Dq q h i j k := by
 obtain ⟨i0, i1, i2⟩ := hl
 obtain ⟨j0, j1, j2⟩ := hr
 obtain ⟨⟨i, j⟩, hp, ⟨c1, c2⟩, hmin⟩ := minimal (α := Nat × Nat) (fun p => 2 * q p.1 < m /\ m < 2 * q p.2) (fun p r => NV q h m p.1 p.2 * (q r.2 - q r.1) <= NV q h m r.1 r.2 * (q p.2 - q p.1))
  (fun a _ => Int.le_refl _) (fun a b _ _ => by omega)
  (fun a b c ha hb hc h1 h2 => by
   have d1 : 0 < q a.2 - q a.1 := by omega
   have d2 : 0 < q b.2 - q b.1 := by omega
   have d3 : 0 < q c.2 - q c.1 := by omega
   generalize q a.2 - q a.1 = da at *
   generalize q b.2 - q b.1 = db at *
   generalize q c.2 - q c.1 = dc at *
   generalize NV q h m a.1 a.2 = na at *
   generalize NV q h m b.1 b.2 = nb at *
   generalize NV q h m c.1 c.2 = nc at *
   have e1 := Int.mul_le_mul_of_nonneg_right h1 (Int.le_of_lt d3)
   have e2 := Int.mul_le_mul_of_nonneg_right h2 (Int.le_of_lt d1)
   have e3 : na * dc * db <= nc * da * db := by
    have x1 : na * dc * db = na * db * dc := by grind
    have x2 : nb * da * dc = nb * dc * da := by grind
    have x3 : nc * da * db = nc * db * da := by grind
    omega
   exact Int.le_of_mul_le_mul_right e3 d2)
  ((List.range n).flatMap fun i => (List.range n).map fun j => (i, j)) ⟨(i0, j0), by simp; exact ⟨i1, j1⟩, i2, j2⟩
 have hij : i < n /\ j < n := by simpa using hp
 dsimp only at c1 c2
 refine ⟨i, j, hij.1, hij.2, c1, c2, fun k hk => ?_⟩
 rcases Int.lt_or_le (Dq q h i j k) 0 with hd | hd
 case inr => exact hd
 exfalso
 have hkm := hm k hk
 rcases Int.lt_or_le (2 * q k) m with c | c
 ·have h1 := hmin (k, j) (by simp; exact ⟨hk, hij.2⟩) ⟨c, c2⟩
  have h2 := nv_right q h m i j k
  have h3 : 0 < (2 * q j - m) * (-(Dq q h i j k)) := Int.mul_pos (by omega) (by omega)
  dsimp only at h1
  omega
 ·have h1 := hmin (i, k) (by simp; exact ⟨hij.1, hk⟩) ⟨c1, by show m < 2 * q k; omega⟩
  have h2 := nv_left q h m i j k
  have h3 : 0 < (m - 2 * q i) * (-(Dq q h i j k)) := Int.mul_pos (by omega) (by omega)
  dsimp only at h1
  omega
end Hull
theorem w64_id {n : Int} (h1 : -9223372036854775808 <= n) (h2 : n <= 9223372036854775807) : w64 n = n := by
 unfold w64 IntKind.wrap
 simp [IntKind.signed, IntKind.bits]
 omega
theorem w64_succ {i : Nat} (h : i < 1000000000000) : w64 ((i : Int) + 1) = ((i + 1 : Nat) : Int) := by
 rw [w64_id (by omega) (by omega)]; omega
theorem within_fig (k : Nat) (a b c : Int) : nfigure_isWithin k a b c = some (decide (b <= a /\ a <= c)) := by
 unfold nfigure_isWithin
 by_cases h : b <= a
 ·rw [if_pos h]; simp [h]
 ·rw [if_neg h]; simp [h]
theorem within_base (k : Nat) (a b c : Int) : nspeculumbase_Within k a b c = some (decide (b <= a /\ a <= c)) := by
 unfold nspeculumbase_Within
 by_cases h : b <= a
 ·rw [if_pos h]; simp [h]
 ·rw [if_neg h]; simp [h]
def inH (n : Int) : Bool := decide (-100000 <= n /\ n <= 100000)
def inQ (n : Int) : Bool := decide (0 <= n /\ n <= 1000)
theorem isHeight_any (k : Nat) (a : Int) : nspeculumref06_isHeight k a = some (inH a) := by
 unfold nspeculumref06_isHeight
 rw [within_base]; rfl
theorem areHeights_one (k : Nat) (a : Int) : nfigure_areHeights (k + 2) [a] = some (inH a) := by
 unfold nfigure_areHeights
 rw [nfigure_areHeights_l0_0.eq_2, if_pos (by simp), if_pos (by simp), within_fig, Option.bind_some]
 change (Option.bind (if inH a = true then _ else _) _) = _
 cases inH a with
 | false => rfl
 | true =>
   rw [if_pos rfl, nfigure_areHeights_l0_0.eq_2, if_neg (by rw [w64_id (by omega) (by omega)]; simp)]; rfl
def okZ (m : SRemovalMap) (i : Nat) : Bool := inH (m.Heights.getD i 0) && (inQ (m.Q.getD i 0) && inQ (m.Weights.getD i 0))
def okR (m : SRemovalMap) : Nat -> Nat -> Bool
 | 0, _ => true
 | d + 1, i => okZ m i && okR m d (i + 1)
def wsum (m : SRemovalMap) : Nat -> Nat -> Int
 | 0, _ => 0
 | d + 1, i => m.Weights.getD i 0 + wsum m d (i + 1)
def sumB (b : Bool) : Sum Unit Unit := match b with | true => .inr () | false => .inl ()
theorem checkMap_l (k : Nat) (m : SRemovalMap) (hq : m.Q.length = m.Heights.length) (hw : m.Weights.length = m.Heights.length) (hl : m.Heights.length < 1000000000000) : ∀ (d fuel i : Nat), m.Heights.length = i + d -> d < fuel ->
 nfigure_CheckMap_l0_0 (k + 2) m fuel (i : Int) = some (sumB (okR m d i)) := by
 intro d
 induction d with
 | zero =>
   intro fuel i h hf
   obtain ⟨g, rfl⟩ : ∃ g, fuel = g + 1 := ⟨fuel - 1, by omega⟩
   rw [nfigure_CheckMap_l0_0.eq_2, if_neg (by omega)]; rfl
 | succ d ih =>
   intro fuel i h hf
   obtain ⟨g, rfl⟩ : ∃ g, fuel = g + 1 := ⟨fuel - 1, by omega⟩
   have i1 := ih g (i + 1) (by omega) (by omega)
   rw [nfigure_CheckMap_l0_0.eq_2, if_pos (by omega), if_pos (by omega), areHeights_one, Option.bind_some, within_fig, within_fig, Option.bind_some, Option.bind_some, w64_succ (by omega), i1, okR, okZ, Int.toNat_natCast]
   change (if inH (m.Heights.getD i 0) = true then (if _ then (if inQ (m.Q.getD i 0) = true then (if _ then (if inQ (m.Weights.getD i 0) = true then _ else _) else _) else _) else _) else _) = _
   rw [if_pos (show 0 <= (i : Int) /\ (i : Int) < (m.Q.length : Int) by omega), if_pos (show 0 <= (i : Int) /\ (i : Int) < (m.Weights.length : Int) by omega)]
   cases inH (m.Heights.getD i 0) <;> cases inQ (m.Q.getD i 0) <;> cases inQ (m.Weights.getD i 0) <;> rfl
theorem okR_at (m : SRemovalMap) : ∀ (d i : Nat), okR m d i = true -> ∀ j, i <= j -> j < i + d -> okZ m j = true := by
 intro d
 induction d with
 | zero => intro i _ j h1 h2; omega
 | succ d ih =>
   intro i h j h1 h2
   rw [okR, Bool.and_eq_true] at h
   rcases Nat.lt_or_ge i j with h3 | h3
   ·exact ih (i + 1) h.2 j (by omega) (by omega)
   ·obtain rfl : i = j := by omega
    exact h.1
theorem okZ_w {m : SRemovalMap} {i : Nat} (h : okZ m i = true) : (0 <= m.Q.getD i 0 /\ m.Q.getD i 0 <= 1000) /\ 0 <= m.Weights.getD i 0 /\ m.Weights.getD i 0 <= 1000 := by
 unfold okZ at h
 rw [Bool.and_eq_true, Bool.and_eq_true] at h
 exact ⟨of_decide_eq_true h.2.1, of_decide_eq_true h.2.2⟩
theorem checkMapR_l (k : Nat) (m : SRemovalMap) (hq : m.Q.length = m.Heights.length) (hw : m.Weights.length = m.Heights.length) (hl : m.Heights.length <= 40) : ∀ (d fuel i : Nat) (s : Int), m.Heights.length = i + d -> d < fuel -> 0 <= s -> s <= (i : Int) * 1000 ->
 nspeculumref06_CheckMap_l0_0 k m fuel s (i : Int) = some (match okR m d i with | true => .inr (s + wsum m d i) | false => .inl ()) := by
 intro d
 induction d with
 | zero =>
   intro fuel i s h hf h0 h1
   obtain ⟨g, rfl⟩ : ∃ g, fuel = g + 1 := ⟨fuel - 1, by omega⟩
   rw [nspeculumref06_CheckMap_l0_0.eq_2, if_neg (by omega)]
   show some (Sum.inr s) = some (Sum.inr (s + 0))
   rw [Int.add_zero]
 | succ d ih =>
   intro fuel i s h hf h0 h1
   obtain ⟨g, rfl⟩ : ∃ g, fuel = g + 1 := ⟨fuel - 1, by omega⟩
   rw [nspeculumref06_CheckMap_l0_0.eq_2, if_pos (by omega), if_pos (by omega), isHeight_any, Option.bind_some, within_base, within_base, Option.bind_some, Option.bind_some, w64_succ (by omega), okR, Int.toNat_natCast]
   rw [if_pos (show 0 <= (i : Int) /\ (i : Int) < (m.Q.length : Int) by omega), if_pos (show 0 <= (i : Int) /\ (i : Int) < (m.Weights.length : Int) by omega)]
   change (if inH (m.Heights.getD i 0) = true then (if inQ (m.Q.getD i 0) = true then (if inQ (m.Weights.getD i 0) = true then _ else _) else _) else _) = _
   cases hz : okZ m i with
   | true =>
     have hz' := hz
     unfold okZ at hz'
     rw [Bool.and_eq_true, Bool.and_eq_true] at hz'
     have hb := okZ_w hz
     rw [if_pos hz'.1, if_pos hz'.2.1, if_pos hz'.2.2, w64_id (by omega) (by omega), ih g (i + 1) _ (by omega) (by omega) (by omega) (by omega), wsum]
     rw [Bool.true_and, Int.add_assoc]
   | false =>
     unfold okZ at hz
     revert hz
     rw [Bool.false_and]
     cases inH (m.Heights.getD i 0) <;> cases inQ (m.Q.getD i 0) <;> cases inQ (m.Weights.getD i 0) <;> first | (intro _; rfl) | (intro e; cases e)
theorem maxI_zero {x y : Int} (hx : 0 <= x) (hy : 0 <= y) : 0 <= maxI x y /\ (maxI x y = 0 ↔ x = 0 /\ y = 0) := by
 unfold maxI
 by_cases h : y > x
 ·rw [if_pos h]; omega
 ·rw [if_neg h]; omega
theorem max_l (k : Nat) (m : SRemovalMap) (hl : m.Weights.length < 1000000000000) : ∀ (d fuel i : Nat) (x : Int), m.Weights.length = i + d -> d < fuel -> 0 <= x -> (∀ j, i <= j -> j < i + d -> 0 <= m.Weights.getD j 0) ->
 ∃ r, nslices_Max_int_int__l0_0 k m.Weights fuel x (i : Int) = some r /\ 0 <= wsum m d i /\ (r = 0 ↔ x = 0 /\ wsum m d i = 0) := by
 intro d
 induction d with
 | zero =>
   intro fuel i x h hf hx _
   obtain ⟨g, rfl⟩ : ∃ g, fuel = g + 1 := ⟨fuel - 1, by omega⟩
   refine ⟨x, ?_, Int.le_refl _, ?_⟩
   ·rw [nslices_Max_int_int__l0_0.eq_2, if_neg (by omega)]
   ·show x = 0 ↔ x = 0 /\ (0 : Int) = 0
    simp
 | succ d ih =>
   intro fuel i x h hf hx hW
   obtain ⟨g, rfl⟩ : ∃ g, fuel = g + 1 := ⟨fuel - 1, by omega⟩
   have hi := hW i (by omega) (by omega)
   have hm := maxI_zero hx hi
   obtain ⟨r, e1, e2, e3⟩ := ih g (i + 1) (maxI x (m.Weights.getD i 0)) (by omega) (by omega) hm.1 (fun j h1 h2 => hW j (by omega) (by omega))
   refine ⟨r, ?_, ?_, ?_⟩
   ·rw [nslices_Max_int_int__l0_0.eq_2, if_pos (by omega), if_pos (by omega), w64_succ (by omega), Int.toNat_natCast]; exact e1
   ·rw [wsum]; omega
   ·rw [e3, hm.2, wsum]; omega
theorem okR_W {m : SRemovalMap} {d i : Nat} (h : okR m d i = true) (j : Nat) (h1 : i <= j) (h2 : j < i + d) : 0 <= m.Weights.getD j 0 := (okZ_w (okR_at m d i h j h1 h2)).2.1
def mapE (m : SRemovalMap) : Int :=
 if 1 <= m.Heights.length /\ m.Heights.length <= 40 then (if m.Q.length = m.Heights.length then (if m.Weights.length = m.Heights.length then (match okR m m.Heights.length 0 with | true => (if wsum m m.Heights.length 0 = 0 then 11 else 0) | false => 2) else 10) else 10) else 10
theorem checkMap_any (k : Nat) (m : SRemovalMap) (hk : 50 <= k) : nfigure_CheckMap (k + 2) m = some (mapE m) /\ nspeculumref06_CheckMap (k + 2) m = some (mapE m) := by
 unfold nfigure_CheckMap nspeculumref06_CheckMap mapE
 rw [within_fig, within_base, Option.bind_some, Option.bind_some]
 by_cases h0 : 1 <= m.Heights.length /\ m.Heights.length <= 40
 ·have h0' : decide ((1 : Int) <= (m.Heights.length : Int) /\ (m.Heights.length : Int) <= 40) = true := decide_eq_true (by omega)
  rw [h0', if_pos rfl, if_pos rfl, if_pos h0]
  by_cases h1 : m.Q.length = m.Heights.length
  ·rw [if_pos (show (m.Q.length : Int) = (m.Heights.length : Int) by omega), if_pos (show (m.Q.length : Int) = (m.Heights.length : Int) by omega), if_pos h1]
   by_cases h2 : m.Weights.length = m.Heights.length
   ·rw [if_pos (show (m.Weights.length : Int) = (m.Heights.length : Int) by omega), if_pos (show (m.Weights.length : Int) = (m.Heights.length : Int) by omega), if_pos h2]
    have e1 : nfigure_CheckMap_l0_0 (k + 2) m (k + 2) 0 = some (sumB (okR m m.Heights.length 0)) := checkMap_l k m h1 h2 (by omega) m.Heights.length (k + 2) 0 (by omega) (by omega)
    have e2 : nspeculumref06_CheckMap_l0_0 (k + 2) m (k + 2) 0 0 = some (match okR m m.Heights.length 0 with | true => .inr (0 + wsum m m.Heights.length 0) | false => .inl ()) := checkMapR_l (k + 2) m h1 h2 (by omega) m.Heights.length (k + 2) 0 0 (by omega) (by omega) (by omega) (by omega)
    rw [e1, e2, Option.bind_some, Option.bind_some]
    cases ho : okR m m.Heights.length 0 with
    | false => exact ⟨rfl, rfl⟩
    | true =>
      obtain ⟨d, hd⟩ : ∃ d, m.Heights.length = d + 1 := ⟨m.Heights.length - 1, by omega⟩
      have ho' := ho
      rw [hd, okR, Bool.and_eq_true] at ho'
      have hw0 := okR_W ho 0 (by omega) (by omega)
      obtain ⟨r, f1, f2, f3⟩ := max_l (k + 2) m (by omega) d (k + 2) 1 (m.Weights.getD 0 0) (by omega) (by omega) hw0 (fun j g1 g2 => okR_W ho j (by omega) (by omega))
      have hm : nslices_Max_int_int_ (k + 2) m.Weights = some r := by
       unfold nslices_Max_int_int_
       have f1' : nslices_Max_int_int__l0_0 (k + 2) m.Weights (k + 2) (m.Weights.getD ((0 : Int)).toNat 0) 1 = some r := f1
       rw [if_neg (by omega), if_pos (by omega), f1']; rfl
      have hs : wsum m m.Heights.length 0 = m.Weights.getD 0 0 + wsum m d 1 := by rw [hd, wsum]
      have hz : r = 0 ↔ wsum m m.Heights.length 0 = 0 := by rw [f3, hs]; omega
      show (Option.bind (nslices_Max_int_int_ (k + 2) m.Weights) _ = _) /\ (if 0 + wsum m m.Heights.length 0 = 0 then some 11 else some 0) = some (if wsum m m.Heights.length 0 = 0 then 11 else 0)
      rw [hm, Option.bind_some, Int.zero_add]
      by_cases h3 : wsum m m.Heights.length 0 = 0
      ·rw [if_pos (hz.2 h3), if_pos h3, if_pos h3]; exact ⟨rfl, rfl⟩
      ·rw [if_neg (fun e => h3 (hz.1 e)), if_neg h3, if_neg h3]; exact ⟨rfl, rfl⟩
   ·rw [if_neg (show ¬ (m.Weights.length : Int) = (m.Heights.length : Int) by omega), if_neg (show ¬ (m.Weights.length : Int) = (m.Heights.length : Int) by omega), if_neg h2]; exact ⟨rfl, rfl⟩
  ·rw [if_neg (show ¬ (m.Q.length : Int) = (m.Heights.length : Int) by omega), if_neg (show ¬ (m.Q.length : Int) = (m.Heights.length : Int) by omega), if_neg h1]; exact ⟨rfl, rfl⟩
 ·have h0' : decide ((1 : Int) <= (m.Heights.length : Int) /\ (m.Heights.length : Int) <= 40) = false := decide_eq_false (by omega)
  rw [h0', if_neg (show ¬ (false = true) by decide), if_neg (show ¬ (false = true) by decide), if_neg h0]; exact ⟨rfl, rfl⟩
theorem mapE_zero {m : SRemovalMap} (h : mapE m = 0) : (1 <= m.Heights.length /\ m.Heights.length <= 40) /\ m.Q.length = m.Heights.length /\ m.Weights.length = m.Heights.length /\ okR m m.Heights.length 0 = true /\ wsum m m.Heights.length 0 ≠ 0 := by
 unfold mapE at h
 by_cases h0 : 1 <= m.Heights.length /\ m.Heights.length <= 40
 ·rw [if_pos h0] at h
  by_cases h1 : m.Q.length = m.Heights.length
  ·rw [if_pos h1] at h
   by_cases h2 : m.Weights.length = m.Heights.length
   ·rw [if_pos h2] at h
    cases ho : okR m m.Heights.length 0 with
    | false => rw [ho] at h; cases h
    | true =>
      rw [ho] at h
      by_cases h3 : wsum m m.Heights.length 0 = 0
      ·have h' : (if wsum m m.Heights.length 0 = 0 then (11 : Int) else 0) = 0 := h
       rw [if_pos h3] at h'; cases h'
      ·exact ⟨h0, h1, h2, rfl, h3⟩
   ·rw [if_neg h2] at h; cases h
  ·rw [if_neg h1] at h; cases h
 ·rw [if_neg h0] at h; cases h
theorem gcd_step (x y : Int) : Nat.gcd y.natAbs (x.tmod y).natAbs = Nat.gcd x.natAbs y.natAbs := by
 rw [Int.natAbs_tmod, Nat.gcd_comm x.natAbs, Nat.gcd_rec y.natAbs x.natAbs, Nat.gcd_comm]
theorem gl_b (k : Nat) : ∀ (n fuel : Nat) (x y : Int), y.natAbs < n -> n <= fuel -> ∃ r, True /\ nfigure_divisor_l0_0 k fuel x y = some r /\ r.natAbs = Nat.gcd x.natAbs y.natAbs := by
 intro n
 induction n with
 | zero => intro fuel x y h; omega
 | succ n ih =>
   intro fuel x y h hf
   obtain ⟨g, rfl⟩ : ∃ g, fuel = g + 1 := ⟨fuel - 1, by omega⟩
   rw [nfigure_divisor_l0_0.eq_2]
   by_cases h0 : y = 0
   ·rw [if_pos h0]
    exact ⟨x, trivial, rfl, by rw [h0]; simp⟩
   ·rw [if_neg h0, if_pos h0]
    have hy : 0 < y.natAbs := by omega
    obtain ⟨r, e1, e2, e3⟩ := ih g y (x.tmod y) (by rw [Int.natAbs_tmod]; have := Nat.mod_lt x.natAbs hy; omega) (by omega)
    exact ⟨r, e1, e2, by rw [e3, gcd_step]⟩
theorem gcds (k : Nat) (hk : 9223372036854775808 < k) {x y : Int} (hy : 0 < y) (hb : y <= 9223372036854775807) : True /\ nfigure_divisor k x y = some (Nat.gcd x.natAbs y.natAbs : Int) := by
 obtain ⟨r, e1, e2, e3⟩ := gl_b k (y.natAbs + 1) k x y (by omega) (by omega)
 have hr : r.natAbs <= y.natAbs := by rw [e3]; exact Nat.gcd_le_right _ (by omega)
 unfold nfigure_divisor maxI
 rw [e2, Option.bind_some, <- e3, w64_id (n := 0 - r) (by omega) (by omega)]
 constructor
 ·trivial
 ·by_cases h : 0 - r > r
  ·rw [if_pos h]; congr 1; omega
  ·rw [if_neg h]; congr 1; omega
structure Low (f : SFrac) : Prop where
 d : 0 < f.Den
 g : Nat.gcd f.Num.natAbs f.Den.natAbs = 1
def lw (x y : Int) : SFrac := ⟨x / (Nat.gcd x.natAbs y.natAbs : Int), y / (Nat.gcd x.natAbs y.natAbs : Int)⟩
theorem lw_parts {x y : Int} (hy : 0 < y) : ∃ g : Int, 0 < g /\ g = (Nat.gcd x.natAbs y.natAbs : Int) /\ x = (lw x y).Num * g /\ y = (lw x y).Den * g := by
 have hg : 0 < Nat.gcd x.natAbs y.natAbs := Nat.gcd_pos_of_pos_right _ (by omega)
 refine ⟨(Nat.gcd x.natAbs y.natAbs : Int), by omega, rfl, ?_, ?_⟩
 ·show x = x / _ * _
  rw [Int.ediv_mul_cancel]
  exact Int.dvd_natAbs.1 (Int.natCast_dvd_natCast.2 (Nat.gcd_dvd_left _ _))
 ·show y = y / _ * _
  rw [Int.ediv_mul_cancel]
  exact Int.dvd_natAbs.1 (Int.natCast_dvd_natCast.2 (Nat.gcd_dvd_right _ _))
theorem lw_cross {x y : Int} (hy : 0 < y) : (lw x y).Num * y = x * (lw x y).Den := by
 obtain ⟨g, h1, _, h3, h4⟩ := lw_parts (x := x) hy
 generalize (lw x y).Num = a at *
 generalize (lw x y).Den = b at *
 rw [h3, h4]; grind
theorem lw_low {x y : Int} (hy : 0 < y) : Low (lw x y) := by
 obtain ⟨g, h1, h2, h3, h4⟩ := lw_parts (x := x) hy
 have hd : 0 < (lw x y).Den := by
  rcases Int.lt_or_le 0 (lw x y).Den with h | h
  ·exact h
  ·have := Int.mul_le_mul_of_nonneg_right h (Int.le_of_lt h1)
   omega
 refine ⟨hd, ?_⟩
 have e1 : x.natAbs = (lw x y).Num.natAbs * g.natAbs := by rw [<- Int.natAbs_mul, <- h3]
 have e2 : y.natAbs = (lw x y).Den.natAbs * g.natAbs := by rw [<- Int.natAbs_mul, <- h4]
 have e3 : g.natAbs = Nat.gcd x.natAbs y.natAbs := by omega
 have e4 : Nat.gcd x.natAbs y.natAbs = Nat.gcd (lw x y).Num.natAbs (lw x y).Den.natAbs * g.natAbs := by
  have : Nat.gcd ((lw x y).Num.natAbs * g.natAbs) ((lw x y).Den.natAbs * g.natAbs) = _ := Nat.gcd_mul_right _ _ _
  rw [<- e1, <- e2] at this; exact this
 rw [<- e3] at e4
 have hg : 0 < g.natAbs := by omega
 have : Nat.gcd (lw x y).Num.natAbs (lw x y).Den.natAbs * g.natAbs = 1 * g.natAbs := by omega
 exact Nat.eq_of_mul_eq_mul_right hg this
theorem lw_le {x y : Int} (hy : 0 < y) : (lw x y).Den <= y /\ (lw x y).Num.natAbs <= x.natAbs := by
 obtain ⟨g, h1, h2, h3, h4⟩ := lw_parts (x := x) hy
 have hd := (lw_low (x := x) hy).d
 have e1 : x.natAbs = (lw x y).Num.natAbs * g.natAbs := by rw [<- Int.natAbs_mul, <- h3]
 have e2 : y.natAbs = (lw x y).Den.natAbs * g.natAbs := by rw [<- Int.natAbs_mul, <- h4]
 have hg : 0 < g.natAbs := by omega
 have i1 : (lw x y).Num.natAbs <= (lw x y).Num.natAbs * g.natAbs := Nat.le_mul_of_pos_right _ hg
 have i2 : (lw x y).Den.natAbs <= (lw x y).Den.natAbs * g.natAbs := Nat.le_mul_of_pos_right _ hg
 omega
theorem Low.eq {f h : SFrac} (a : Low f) (b : Low h) (e : f.Num * h.Den = h.Num * f.Den) : f = h := by
 have e' : f.Num.natAbs * h.Den.natAbs = h.Num.natAbs * f.Den.natAbs := by rw [<- Int.natAbs_mul, <- Int.natAbs_mul, e]
 have d1 : f.Den.natAbs ∣ h.Den.natAbs := Nat.Coprime.dvd_of_dvd_mul_left (show Nat.Coprime f.Den.natAbs f.Num.natAbs from by unfold Nat.Coprime; rw [Nat.gcd_comm]; exact a.g) (by rw [e']; exact Nat.dvd_mul_left _ _)
 have d2 : h.Den.natAbs ∣ f.Den.natAbs := Nat.Coprime.dvd_of_dvd_mul_left (show Nat.Coprime h.Den.natAbs h.Num.natAbs from by unfold Nat.Coprime; rw [Nat.gcd_comm]; exact b.g) (by rw [<- e']; exact Nat.dvd_mul_left _ _)
 have ed := Nat.dvd_antisymm d1 d2
 have ha := a.d
 have hb := b.d
 have ed : f.Den = h.Den := by omega
 rw [<- ed] at e
 have en : f.Num = h.Num := Int.eq_of_mul_eq_mul_right (by omega) e
 cases f; cases h; simp only at ed en; rw [ed, en]
theorem lw_eq {x y : Int} {f : SFrac} (hy : 0 < y) (hf : Low f) (e : f.Num * y = x * f.Den) : lw x y = f := by
 refine (lw_low hy).eq hf ?_
 have h := lw_cross (x := x) hy
 have hd := (lw_low (x := x) hy).d
 generalize (lw x y).Num = a at *
 generalize (lw x y).Den = b at *
 have : y * (a * f.Den) = y * (f.Num * b) := by grind
 exact Int.eq_of_mul_eq_mul_left (by omega) this
theorem lowests (k : Nat) (hk : 9223372036854775808 < k) {x y : Int} (hx : x.natAbs <= 9000000000000000000) (hy : 0 < y) (hb : y <= 9000000000000000000) : True /\ nfigure_lowest k x y = some (lw x y) := by
 obtain ⟨e1, e2⟩ := gcds k hk (x := x) hy (by omega)
 obtain ⟨g, h1, h2, h3, h4⟩ := lw_parts (x := x) hy
 obtain ⟨l1, l2⟩ := lw_le (x := x) hy
 have hd := (lw_low (x := x) hy).d
 unfold nfigure_lowest
 rw [e2, Option.bind_some, <- h2, if_pos (by omega)]
 have t1 : x.tdiv g = (lw x y).Num := by
  conv => lhs; rw [h3]
  exact Int.mul_tdiv_cancel _ (by omega)
 have t2 : y.tdiv g = (lw x y).Den := by
  conv => lhs; rw [h4]
  exact Int.mul_tdiv_cancel _ (by omega)
 rw [t1, t2, w64_id (n := (lw x y).Num) (by omega) (by omega), w64_id (n := (lw x y).Den) (by omega) (by omega)]
 exact ⟨trivial, rfl⟩
theorem isLow_b (k : Nat) (hk : 9223372036854775808 < k) {f : SFrac} (hf : Low f) (hb : f.Den <= 9000000000000000000) : True /\ nfigure_isLowest k f = some true := by
 have hd := hf.d
 obtain ⟨e1, e2⟩ := gcds k hk (x := f.Num) hd (by omega)
 unfold nfigure_isLowest
 rw [if_pos hd, e2]; simp only [Option.bind_some]; rw [hf.g]
 exact ⟨trivial, rfl⟩
def hh (m : SRemovalMap) (i : Nat) : Int := m.Heights.getD i 0
def qq (m : SRemovalMap) (i : Nat) : Int := m.Q.getD i 0
def ww (m : SRemovalMap) (i : Nat) : Int := m.Weights.getD i 0
def sumF (f : Nat -> Int) : Nat -> Int
 | 0 => 0
 | n + 1 => sumF f n + f n
theorem sumF_congr {f g : Nat -> Int} : ∀ n, (∀ i, i < n -> f i = g i) -> sumF f n = sumF g n
 | 0, _ => rfl
 | n + 1, h => by simp only [sumF]; rw [sumF_congr n (fun i hi => h i (by omega)), h n (by omega)]
theorem sumF_ge {f : Nat -> Int} {a : Int} : ∀ n : Nat, (∀ i, i < n -> a <= f i) -> (n : Int) * a <= sumF f n
 | 0, _ => by simp [sumF]
 | n + 1, h => by
   have := sumF_ge (f := f) (a := a) n (fun i hi => h i (by omega))
   have h1 := h n (by omega)
   simp only [sumF]
   rw [show ((n + 1 : Nat) : Int) * a = (n : Int) * a + a by rw [Int.natCast_add, Int.add_mul]; simp]
   omega
theorem sumF_le {f : Nat -> Int} {a : Int} : ∀ n : Nat, (∀ i, i < n -> f i <= a) -> sumF f n <= (n : Int) * a
 | 0, _ => by simp [sumF]
 | n + 1, h => by
   have := sumF_le (f := f) (a := a) n (fun i hi => h i (by omega))
   have h1 := h n (by omega)
   simp only [sumF]
   rw [show ((n + 1 : Nat) : Int) * a = (n : Int) * a + a by rw [Int.natCast_add, Int.add_mul]; simp]
   omega
theorem sumF_pos {f : Nat -> Int} : ∀ n : Nat, (∀ i, i < n -> 0 <= f i) -> (∃ i, i < n /\ 0 < f i) -> 0 < sumF f n
 | 0, _, ⟨i, h, _⟩ => absurd h (by omega)
 | n + 1, h, ⟨i, hi, hp⟩ => by
   have h0 := sumF_ge (f := f) (a := 0) n (fun i hi => h i (by omega))
   have h1 := h n (by omega)
   simp only [sumF]
   by_cases e : i = n
   ·subst e; omega
   ·have := sumF_pos n (fun i hi => h i (by omega)) ⟨i, by omega, hp⟩
    omega
theorem wsum_sumF (m : SRemovalMap) : ∀ d i, wsum m d i = sumF (ww m) (i + d) - sumF (ww m) i
 | 0, i => by simp [wsum]
 | d + 1, i => by
   rw [wsum, wsum_sumF m d (i + 1), show i + (d + 1) = i + 1 + d by omega]
   show ww m i + _ = _
   simp only [sumF]; omega
structure OKM (m : SRemovalMap) (n : Nat) : Prop where
 ln : n = m.Heights.length
 n1 : 1 <= n
 n2 : n <= 40
 lq : m.Q.length = n
 lw : m.Weights.length = n
 h : ∀ i, i < n -> -100000 <= hh m i /\ hh m i <= 100000
 q : ∀ i, i < n -> 0 <= qq m i /\ qq m i <= 1000
 w : ∀ i, i < n -> 0 <= ww m i /\ ww m i <= 1000
 W : 0 < sumF (ww m) n
theorem mapE_ok {m : SRemovalMap} (h : mapE m = 0) : OKM m m.Heights.length := by
 obtain ⟨h1, h2, h3, h4, h5⟩ := mapE_zero h
 have key : ∀ i, i < m.Heights.length -> (-100000 <= hh m i /\ hh m i <= 100000) /\ (0 <= qq m i /\ qq m i <= 1000) /\ (0 <= ww m i /\ ww m i <= 1000) := fun i hi => by
  have := okR_at m m.Heights.length 0 h4 i (by omega) (by omega)
  have hw := okZ_w this
  unfold okZ at this
  rw [Bool.and_eq_true] at this
  exact ⟨of_decide_eq_true this.1, hw.1, hw.2⟩
 refine ⟨rfl, h1.1, h1.2, h2, h3, fun i hi => (key i hi).1, fun i hi => (key i hi).2.1, fun i hi => (key i hi).2.2, ?_⟩
 rw [wsum_sumF, Nat.zero_add] at h5
 have h6 := sumF_ge (f := ww m) (a := 0) m.Heights.length (fun i hi => (key i hi).2.2.1)
 have h7 : sumF (ww m) 0 = 0 := rfl
 omega
section
variable {k : Nat} {m : SRemovalMap} {n : Nat}
def wq (m : SRemovalMap) (i : Nat) : Int := ww m i * qq m i
def meanS (m : SRemovalMap) (n : Nat) : Int := sumF (wq m) n
def meanW (m : SRemovalMap) (n : Nat) : Int := sumF (ww m) n
def mn (m : SRemovalMap) (n : Nat) : SFrac := lw (meanS m n) (meanW m n)
theorem wq_bd (M : OKM m n) {i : Nat} (hi : i < n) : 0 <= wq m i /\ wq m i <= 1000000 := by
 have h1 := M.w i hi
 have h2 := M.q i hi
 unfold wq
 exact ⟨Int.mul_nonneg h1.1 h2.1, Int.le_trans (Int.mul_le_mul h1.2 h2.2 h2.1 (by omega)) (by omega)⟩
theorem part_bd {f : Nat -> Int} {a : Int} (hf : ∀ i, i < n -> 0 <= f i /\ f i <= a) {i : Nat} (hi : i <= n) : 0 <= sumF f i /\ sumF f i <= (i : Int) * a := by
 refine ⟨?_, sumF_le i (fun j hj => (hf j (by omega)).2)⟩
 have := sumF_ge (f := f) (a := 0) i (fun j hj => (hf j (by omega)).1)
 simpa using this
theorem mean_l (M : OKM m n) : ∀ (d fuel i : Nat), n = i + d -> d < fuel -> nfigure_mean_l0_0 k m fuel (i : Int) (sumF (wq m) i) (sumF (ww m) i) = some (meanS m n, meanW m n) := by
 have hn := M.n2
 have hl := M.lw
 have hq := M.lq
 intro d
 induction d with
 | zero =>
   intro fuel i he hf
   obtain ⟨f, rfl⟩ : ∃ f, fuel = f + 1 := ⟨fuel - 1, by omega⟩
   rw [nfigure_mean_l0_0.eq_2, if_neg (by omega), show i = n by omega]; rfl
 | succ d ih =>
   intro fuel i he hf
   obtain ⟨f, rfl⟩ : ∃ f, fuel = f + 1 := ⟨fuel - 1, by omega⟩
   have b1 := wq_bd M (i := i) (by omega)
   have b2 := M.w i (by omega)
   have b3 := part_bd (f := wq m) (fun i hi => wq_bd M hi) (i := i) (by omega)
   have b4 := part_bd M.w (i := i) (by omega)
   rw [nfigure_mean_l0_0.eq_2, if_pos (by omega), if_pos (by omega), if_pos (by omega), Int.toNat_natCast, w64_succ (by omega)]
   show nfigure_mean_l0_0 k m f _ (w64 (_ + w64 (wq m i))) (w64 (_ + ww m i)) = _
   rw [w64_id (n := wq m i) (by omega) (by omega), w64_id (n := _ + wq m i) (by omega) (by omega), w64_id (n := _ + ww m i) (by omega) (by omega)]
   exact ih f (i + 1) (by omega) (by omega)
theorem mean_bd (M : OKM m n) : (0 <= meanS m n /\ meanS m n <= 40000000) /\ 0 < meanW m n /\ meanW m n <= 40000 := by
 have b3 := part_bd (f := wq m) (fun i hi => wq_bd M hi) (i := n) (by omega)
 have b4 := part_bd M.w (i := n) (by omega)
 have := M.n2
 have := M.W
 unfold meanS meanW
 omega
theorem means (hk : 9223372036854775808 < k) (M : OKM m n) : nfigure_mean k m = some (mn m n) /\ True := by
 have b := mean_bd M
 have hn := M.n2
 unfold nfigure_mean
 have e1 : nfigure_mean_l0_0 k m k 0 0 0 = _ := mean_l M n k 0 (by omega) (by omega)
 rw [e1, Option.bind_some]
 dsimp only
 obtain ⟨f1, f2⟩ := lowests k hk (x := meanS m n) (y := meanW m n) (by omega) (by omega) (by omega)
 rw [f2]
 exact ⟨rfl, trivial⟩
theorem mn_low (M : OKM m n) : Low (mn m n) /\ (mn m n).Den <= 40000 /\ (mn m n).Num.natAbs <= 40000000 /\ (mn m n).Num * meanW m n = meanS m n * (mn m n).Den := by
 have b := mean_bd M
 have := lw_le (x := meanS m n) b.2.1
 exact ⟨lw_low b.2.1, by unfold mn; omega, by unfold mn; omega, lw_cross b.2.1⟩
structure LO (l : SLowerLine) : Prop where
 s : Low l.Start
 t : Low l.Slope
 sd : l.Start.Den <= 1000
 td : l.Slope.Den <= 1000
 sn : l.Start.Num.natAbs <= 1000000000
 tn : l.Slope.Num.natAbs <= 1000000000
def dD (l : SLowerLine) : Int := l.Start.Den * l.Slope.Den
def rem (m : SRemovalMap) (l : SLowerLine) (i : Nat) : Int := hh m i * dD l - l.Start.Num * l.Slope.Den - l.Slope.Num * qq m i * l.Start.Den
theorem dD_bd {l : SLowerLine} (h : LO l) : 0 < dD l /\ dD l <= 1000000 := by
 have h1 := h.s.d
 have h2 := h.t.d
 unfold dD
 exact ⟨Int.mul_pos h1 h2, Int.le_trans (Int.mul_le_mul h.sd h.td (by omega) (by omega)) (by omega)⟩
theorem abs_mul {x y : Int} {a b : Nat} (hx : x.natAbs <= a) (hy : y.natAbs <= b) : (x * y).natAbs <= a * b := by
 rw [Int.natAbs_mul]; exact Nat.mul_le_mul hx hy
theorem rem_parts (M : OKM m n) {l : SLowerLine} (h : LO l) {i : Nat} (hi : i < n) {A B : Nat} (hA : l.Start.Num.natAbs <= A) (hB : l.Slope.Num.natAbs <= B) : (hh m i * dD l).natAbs <= 100000000000 /\ (l.Start.Num * l.Slope.Den).natAbs <= A * 1000 /\ (l.Slope.Num * qq m i).natAbs <= B * 1000 /\ (l.Slope.Num * qq m i * l.Start.Den).natAbs <= B * 1000 * 1000 := by
 have d := dD_bd h
 have h1 := M.h i hi
 have h2 := M.q i hi
 have h3 := h.s.d
 have h4 := h.t.d
 have h5 := h.sd
 have h6 := h.td
 have e := abs_mul hB (show (qq m i).natAbs <= 1000 by omega)
 exact ⟨Nat.le_trans (abs_mul (a := 100000) (b := 1000000) (by omega) (by omega)) (by omega), abs_mul hA (by omega), e, abs_mul e (by omega)⟩
theorem remTD_p (M : OKM m n) {l : SLowerLine} (h : LO l) {i : Nat} (hi : i < n) : nfigure_removalTimesDen k m l (i : Int) = some (rem m l i) /\ nfigure_denOf k l = some (dD l) := by
 have hn := M.ln
 have hq := M.lq
 have d := dD_bd h
 obtain ⟨p1, p2, p3, p4⟩ := rem_parts M h hi h.sn h.tn
 have ed : nfigure_denOf k l = some (dD l) := by
  unfold nfigure_denOf
  show some (w64 (dD l)) = _
  rw [w64_id (by omega) (by omega)]
 refine ⟨?_, ed⟩
 unfold nfigure_removalTimesDen
 rw [if_pos (by omega), ed, Option.bind_some, if_pos (by omega), Int.toNat_natCast]
 show some (w64 (w64 (w64 (hh m i * dD l) - w64 (l.Start.Num * l.Slope.Den)) - w64 (w64 (l.Slope.Num * qq m i) * l.Start.Den))) = _
 rw [w64_id (n := hh m i * dD l) (by omega) (by omega), w64_id (n := l.Start.Num * l.Slope.Den) (by omega) (by omega), w64_id (n := l.Slope.Num * qq m i) (by omega) (by omega), w64_id (n := l.Slope.Num * qq m i * l.Start.Den) (by omega) (by omega), w64_id (n := hh m i * dD l - _) (by omega) (by omega), w64_id (n := hh m i * dD l - _ - _) (by omega) (by omega)]
 rfl
theorem lwr {r d : Int} (hd : 0 < d) : ((lw r d).Num < 0 ↔ r < 0) /\ ((lw r d).Num = 0 ↔ r = 0) /\ (lw r d).Num * d.tdiv (lw r d).Den = r /\ (d.tdiv (lw r d).Den).natAbs <= d.natAbs := by
 obtain ⟨g, h1, h2, h3, h4⟩ := lw_parts (x := r) hd
 have hD := (lw_low (x := r) hd).d
 generalize (lw r d).Num = a at *
 generalize (lw r d).Den = b at *
 have ht : d.tdiv b = g := by rw [h4]; exact Int.mul_tdiv_cancel_left _ (by omega)
 have hg : g.natAbs <= d.natAbs := by
  rw [h4, Int.natAbs_mul]; exact Nat.le_mul_of_pos_left _ (by omega)
 rw [ht]
 refine ⟨?_, ?_, h3.symm, hg⟩
 ·rw [h3]
  constructor
  ·exact fun h => Int.mul_neg_of_neg_of_pos h h1
  ·intro h
   rcases Int.lt_or_le a 0 with c | c
   ·exact c
   ·have := Int.mul_nonneg c (Int.le_of_lt h1); omega
 ·rw [h3]
  constructor
  ·intro h; rw [h, Int.zero_mul]
  ·intro h
   rcases Int.mul_eq_zero.1 h with c | c
   ·exact c
   ·omega
theorem dug_l (M : OKM m n) {l : SLowerLine} (h : LO l) : ∀ (d fuel i : Nat), n = i + d -> d < fuel -> ∃ r, nfigure_firstDug_l0_0 k m l fuel (i : Int) = some r /\ ((∃ j, r = .inl j) /\ (∃ j, i <= j /\ j < n /\ rem m l j < 0) \/ r = .inr () /\ ∀ j, i <= j -> j < n -> 0 <= rem m l j) := by
 have hn := M.ln
 have hn2 := M.n2
 intro d
 induction d with
 | zero =>
   intro fuel i he hf
   obtain ⟨f, rfl⟩ : ∃ f, fuel = f + 1 := ⟨fuel - 1, by omega⟩
   exact ⟨_, by rw [nfigure_firstDug_l0_0.eq_2, if_neg (by omega)], .inr ⟨rfl, fun j h1 h2 => by omega⟩⟩
 | succ d ih =>
   intro fuel i he hf
   obtain ⟨f, rfl⟩ : ∃ f, fuel = f + 1 := ⟨fuel - 1, by omega⟩
   rw [nfigure_firstDug_l0_0.eq_2, if_pos (by omega), (remTD_p M h (i := i) (by omega)).1, Option.bind_some]
   by_cases c : rem m l i < 0
   ·exact ⟨_, by rw [if_pos c], .inl ⟨⟨_, rfl⟩, i, Nat.le_refl _, by omega, c⟩⟩
   ·rw [if_neg c, w64_succ (by omega)]
    obtain ⟨r, e, hr⟩ := ih f (i + 1) (by omega) (by omega)
    refine ⟨r, e, ?_⟩
    rcases hr with ⟨h1, j, h2, h3⟩ | ⟨h1, h2⟩
    ·exact .inl ⟨h1, j, by omega, h3⟩
    ·refine .inr ⟨h1, fun j h3 h4 => ?_⟩
     by_cases e2 : j = i
     ·subst e2; omega
     ·exact h2 j (by omega) h4
theorem dug_p (hk : 9223372036854775808 < k) (M : OKM m n) {l : SLowerLine} (h : LO l) : ∃ r, nfigure_firstDug k m l = some r /\ (r.2 = false /\ r.1 = 0 /\ (∀ j, j < n -> 0 <= rem m l j) \/ r.2 = true /\ ∃ j, j < n /\ rem m l j < 0) := by
 have hn := M.n2
 unfold nfigure_firstDug
 obtain ⟨r, e, hr⟩ := dug_l (k := k) M h n k 0 (by omega) (by omega)
 rw [show nfigure_firstDug_l0_0 k m l k 0 = _ from e, Option.bind_some]
 rcases hr with ⟨⟨j, rfl⟩, j', _, h2⟩ | ⟨rfl, h2⟩
 ·exact ⟨_, rfl, .inr ⟨rfl, j', h2⟩⟩
 ·exact ⟨_, rfl, .inl ⟨rfl, rfl, fun j hj => h2 j (by omega) hj⟩⟩
structure Found (m : SRemovalMap) (n : Nat) (l : SLowerLine) (a b : Nat) : Prop where
 lo : LO l
 sn : l.Start.Num.natAbs <= 300000000
 tn : l.Slope.Num.natAbs <= 200000
 e0 : l.Touch.e0 = (a : Int)
 e1 : l.Touch.e1 = (b : Int)
 an : a < n
 bn : b < n
 r0 : rem m l a = 0
 r1 : rem m l b = 0
 qa : qq m a * (mn m n).Den <= (mn m n).Num
 qb : (mn m n).Num <= qq m b * (mn m n).Den
 all : ∀ i, i < n -> 0 <= rem m l i
def DqM (m : SRemovalMap) (i j p : Nat) : Int := Hull.Dq (qq m) (hh m) i j p
def thr (m : SRemovalMap) (i j : Nat) : SLowerLine := ⟨lw (hh m i * (qq m j - qq m i) - (hh m j - hh m i) * qq m i) (qq m j - qq m i), lw (hh m j - hh m i) (qq m j - qq m i), ⟨(i : Int), (j : Int)⟩⟩
theorem thr_bd (M : OKM m n) {i j : Nat} (hi : i < n) (hj : j < n) (hq : qq m i < qq m j) : (hh m i * (qq m j - qq m i)).natAbs <= 100000000 /\ ((hh m j - hh m i) * qq m i).natAbs <= 200000000 := by
 have h1 := M.h i hi
 have h2 := M.h j hj
 have h3 := M.q i hi
 have h4 := M.q j hj
 exact ⟨abs_mul (a := 100000) (b := 1000) (by omega) (by omega), abs_mul (a := 200000) (b := 1000) (by omega) (by omega)⟩
theorem thr_lo (M : OKM m n) {i j : Nat} (hi : i < n) (hj : j < n) (hq : qq m i < qq m j) : LO (thr m i j) /\ (thr m i j).Start.Num.natAbs <= 300000000 /\ (thr m i j).Slope.Num.natAbs <= 200000 := by
 obtain ⟨b1, b2⟩ := thr_bd M hi hj hq
 have h1 := M.h i hi
 have h2 := M.h j hj
 have h3 := M.q i hi
 have h4 := M.q j hj
 have hr : 0 < qq m j - qq m i := by omega
 have l1 := lw_le (x := hh m i * (qq m j - qq m i) - (hh m j - hh m i) * qq m i) hr
 have l2 := lw_le (x := hh m j - hh m i) hr
 have i1 : (thr m i j).Start.Num.natAbs <= 300000000 := by
  show (lw _ _).Num.natAbs <= _
  omega
 have i2 : (thr m i j).Slope.Num.natAbs <= 200000 := by
  show (lw _ _).Num.natAbs <= _
  omega
 exact ⟨⟨lw_low hr, lw_low hr, by show (lw _ _).Den <= _; omega, by show (lw _ _).Den <= _; omega, by omega, by omega⟩, i1, i2⟩
theorem thr_rem {i j : Nat} (hq : qq m i < qq m j) (p : Nat) : (qq m j - qq m i) * rem m (thr m i j) p = dD (thr m i j) * DqM m i j p := by
 have hr : 0 < qq m j - qq m i := by omega
 have c1 : (thr m i j).Start.Num * (qq m j - qq m i) = _ := lw_cross (x := hh m i * (qq m j - qq m i) - (hh m j - hh m i) * qq m i) hr
 have c2 : (thr m i j).Slope.Num * (qq m j - qq m i) = _ := lw_cross (x := hh m j - hh m i) hr
 have e1 : (lw (hh m i * (qq m j - qq m i) - (hh m j - hh m i) * qq m i) (qq m j - qq m i)).Den = (thr m i j).Start.Den := rfl
 have e2 : (lw (hh m j - hh m i) (qq m j - qq m i)).Den = (thr m i j).Slope.Den := rfl
 rw [e1] at c1
 rw [e2] at c2
 unfold rem dD DqM Hull.Dq
 generalize (thr m i j).Start.Num = sN at *
 generalize (thr m i j).Start.Den = sD at *
 generalize (thr m i j).Slope.Num = tN at *
 generalize (thr m i j).Slope.Den = tD at *
 grind
def goodP (m : SRemovalMap) (n i j : Nat) : Prop := qq m i ≠ qq m j /\ qq m i * (mn m n).Den <= (mn m n).Num /\ (mn m n).Num <= qq m j * (mn m n).Den /\ ∀ p, p < n -> 0 <= DqM m i j p
theorem goodP_lt (M : OKM m n) {i j : Nat} (h1 : qq m i ≠ qq m j) (h2 : qq m i * (mn m n).Den <= (mn m n).Num) (h3 : (mn m n).Num <= qq m j * (mn m n).Den) : qq m i < qq m j := by
 have hd := (mn_low M).1.d
 rcases Int.lt_or_le (qq m i) (qq m j) with c | c
 ·exact c
 ·have : qq m j < qq m i := by omega
  have := Int.mul_lt_mul_of_pos_right this hd
  omega
theorem goodP_found (M : OKM m n) {i j : Nat} (hi : i < n) (hj : j < n) (h : goodP m n i j) : Found m n (thr m i j) i j := by
 obtain ⟨h1, h2, h3, h4⟩ := h
 have hq := goodP_lt M h1 h2 h3
 obtain ⟨l1, l2, l3⟩ := thr_lo M hi hj hq
 have hr : 0 < qq m j - qq m i := by omega
 have hd := (dD_bd l1).1
 have z : ∀ p, DqM m i j p = 0 -> rem m (thr m i j) p = 0 := fun p hp => by
  have := thr_rem hq p
  rw [hp, Int.mul_zero] at this
  rcases Int.mul_eq_zero.1 this with c | c
  ·omega
  ·exact c
 refine ⟨l1, l2, l3, rfl, rfl, hi, hj, z i (by unfold DqM Hull.Dq; grind), z j (by unfold DqM Hull.Dq; grind), h2, h3, fun p hp => ?_⟩
 have := thr_rem hq p
 have h5 := Int.mul_nonneg (Int.le_of_lt hd) (h4 p hp)
 rw [<- this] at h5
 rcases Int.lt_or_le (rem m (thr m i j) p) 0 with c | c
 ·have := Int.mul_neg_of_pos_of_neg hr c; omega
 ·exact c
end
end Go.Proofs.Ytclgijochagpdaa.Vg.Fg

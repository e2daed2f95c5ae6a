/- Contracts of the program, joined: Root0 W04 Trig0 W05 W06 -/
import Derived.Test.YtfnmnnbmhfbkbaaBa
import Derived.Laws.BitsAllLaws
import Derived.Laws.BitsLemmas
/-! Root0 -/
set_option linter.unusedVariables false
set_option linter.unusedSimpArgs false
namespace Go.Proofs.Ytfnmnnbmhfbkbaa

def IsRt (n r : Int) : Prop := 0 ≤ r ∧ r * r ≤ n ∧ n < (r + 1) * (r + 1)

theorem sq_le {a b : Int} (ha : 0 ≤ a) (h : a ≤ b) : a * a ≤ b * b := Int.mul_le_mul h h ha (by omega)
theorem sq_lt {a b : Int} (hb : 0 ≤ b) (h : a * a < b * b) : a < b := by
  rcases Int.lt_or_le a b with h1 | h1
  · exact h1
  · have := sq_le hb h1; omega
theorem IsRt.unique {n r s : Int} (h : IsRt n r) (k : IsRt n s) : r = s := by
  obtain ⟨h0, h1, h2⟩ := h
  obtain ⟨k0, k1, k2⟩ := k
  have a : r < s + 1 := sq_lt (by omega) (by omega)
  have b : s < r + 1 := sq_lt (by omega) (by omega)
  omega

def rtGo : Nat → Int → Int → Int
  | 0, _, r => r
  | k + 1, n, r => if (r + 2 ^ k) * (r + 2 ^ k) ≤ n then rtGo k n (r + 2 ^ k) else rtGo k n r
theorem rtGo_is (k : Nat) : ∀ (n r : Int), 0 ≤ r → r * r ≤ n → n < (r + 2 ^ k) * (r + 2 ^ k) → IsRt n (rtGo k n r) := by
  induction k with
  | zero => intro n r h0 h1 h2; exact ⟨h0, h1, h2⟩
  | succ k ih =>
    intro n r h0 h1 h2
    have hp : (0 : Int) < 2 ^ k := Int.pow_pos (by decide)
    unfold rtGo
    split
    · rename_i h
      refine ih n _ (by omega) h ?_
      have : r + 2 ^ k + 2 ^ k = r + 2 ^ (k + 1) := by rw [Int.pow_succ]; omega
      rw [this]; exact h2
    · rename_i h
      exact ih n r h0 h1 (by omega)
def rt (n : Int) : Int := rtGo 31 n 0
theorem rt_is {n : Int} (h : 0 ≤ n) (h' : n ≤ 1000000000000000000) : IsRt n (rt n) :=
  rtGo_is 31 n 0 (by omega) (by omega) (by
    have : (0 + 2 ^ 31 : Int) * (0 + 2 ^ 31) = 4611686018427387904 := by decide
    rw [this]; omega)
theorem rt_le {n B : Int} (h : 0 ≤ n) (h' : n ≤ 1000000000000000000) (hB : 0 ≤ B) (hn : n < B * B) : rt n < B := by
  obtain ⟨a, b, c⟩ := rt_is h h'
  exact sq_lt hB (by omega)

/-- Newton's step stays above. -/
theorem newton_up {n r : Int} (hn : 0 ≤ n) (hr : 1 ≤ r) : n < ((r + n / r) / 2 + 1) * ((r + n / r) / 2 + 1) := by
  have hq : n < r * (n / r + 1) := by
    have h1 := Int.mul_ediv_add_emod n r
    have h2 := Int.emod_lt_of_pos n (show 0 < r by omega)
    rw [Int.mul_add]; omega
  generalize hQ : n / r = q at *
  have hq0 : 0 ≤ q := by rw [← hQ]; exact Int.ediv_nonneg hn (by omega)
  have ht : r + (q + 1) ≤ 2 * ((r + q) / 2 + 1) := by omega
  generalize (r + q) / 2 + 1 = t at *
  have h1 := sq_le (a := r + (q + 1)) (b := 2 * t) (by omega) ht
  have h2 : 0 ≤ (r - (q + 1)) * (r - (q + 1)) := by
    rcases Int.le_total 0 (r - (q + 1)) with h | h
    · exact Int.mul_nonneg h h
    · exact Int.mul_nonneg_of_nonpos_of_nonpos h h
  have e1 : (r + (q + 1)) * (r + (q + 1)) = (r - (q + 1)) * (r - (q + 1)) + 4 * (r * (q + 1)) := by
    simp only [Int.add_mul, Int.mul_add, Int.sub_mul, Int.mul_sub, Int.mul_comm q r]; omega
  have e2 : 2 * t * (2 * t) = 4 * (t * t) := by
    rw [Int.mul_assoc, Int.mul_left_comm t 2 t, ← Int.mul_assoc]; rfl
  omega
theorem newton_end {n r : Int} (hn : 0 ≤ n) (hr : 1 ≤ r) (h : r ≤ (r + n / r) / 2) : r * r ≤ n := by
  have h1 : r ≤ n / r := by omega
  have h2 := Int.mul_ediv_self_le (x := n) (k := r) (by omega)
  have h3 : r * r ≤ r * (n / r) := Int.mul_le_mul_of_nonneg_left h1 (by omega)
  omega
theorem up_pos {n r : Int} (hn : 1 ≤ n) (hr : 0 ≤ r) (h : n < (r + 1) * (r + 1)) : 1 ≤ r := by
  rcases Int.lt_or_le r 1 with h1 | h1
  · obtain rfl : r = 0 := by omega
    simp at h; omega
  · exact h1

/-- The square root of a quotient, rounded down and up. -/
def sqN (num den : Int) : Int × Int := if rt (num / den) * rt (num / den) * den = num then (rt (num / den), rt (num / den)) else (rt (num / den), rt (num / den) + 1)
theorem sq_facts {num den r : Int} (h0 : 0 ≤ num) (h1 : num ≤ 1000000000000000000) (hd : 1 ≤ den) (hr : IsRt (num / den) r) :
    0 ≤ num / den ∧ num / den ≤ 1000000000000000000 ∧ 0 ≤ r ∧ r ≤ 1000000000 ∧ 0 ≤ r * r ∧ r * r ≤ 1000000000000000000 ∧ 0 ≤ r * r * den ∧ r * r * den ≤ 1000000000000000000 := by
  have a0 : 0 ≤ num / den := Int.ediv_nonneg h0 (by omega)
  have a1 : num / den ≤ num := Int.ediv_le_self _ h0
  obtain ⟨b0, b1, _⟩ := hr
  have c0 : 0 ≤ r * r := Int.mul_nonneg b0 b0
  have d0 : 0 ≤ r * r * den := Int.mul_nonneg c0 (by omega)
  have d1 : r * r * den ≤ num / den * den := Int.mul_le_mul_of_nonneg_right b1 (by omega)
  have d2 : num / den * den ≤ num := Int.ediv_mul_le _ (by omega)
  have e : r < 1000000001 := sq_lt (by omega) (by omega)
  omega
/-- Sqrt: times the square root of a fraction, or the error. -/
def sqrtN (a b t : Int) : Int × Int × Int := if ckF a b ≠ 0 then (0, 0, ckF a b) else if a < 0 ∨ t < 1 ∨ 10000 < t then (0, 0, 2) else ((sqN (t * t * a) b).1, (sqN (t * t * a) b).2, 0)

end Go.Proofs.Ytfnmnnbmhfbkbaa

/-! W04 -/
namespace Go.Proofs.Ytfnmnnbmhfbkbaa
open Go.RowKit

set_option maxHeartbeats 1000000 in
theorem wholeRoot_any (n : Int) (w : World) (h0 : 0 ≤ n) (h1 : n ≤ 1000000000000000000) :
    Calls Try.prog 117 #[.int .i64 n] w fun e w' => e = .returned (.int .i64 (rt n)) ∧ w = w' := by
  have HR := Lib.hid (rt_is h0 h1)
  by_cases hz : n = 0
  · subst hz
    clear HR
    go_enter Try.func117, Try.ntmps117
    go_wp2
    go_loop [3, 4] (fun x y => x = .int .i64 0 ∧ y = .int .i64 0) (fun _ _ => 0)
    case atStart => exact ⟨rfl, rfl⟩
    case round =>
      obtain ⟨rfl, rfl⟩ := hrel
      go_wp2
      go_ret
      exact ⟨rfl, rfl⟩
  · have hn : 1 ≤ n := by omega
    clear hz
    have HS := Lib.hid (show (n + 1) / 2 = (n + n / n) / 2 by rw [Int.ediv_self (by omega)])
    have HU := Lib.hid (sq_lt (a := 0) (b := n + 1) (by omega) (by have := Int.mul_pos (show 0 < n + 1 by omega) (show 0 < n + 1 by omega); omega))
    have HU2 := Lib.hid (show n < (n + 1) * (n + 1) by have := Int.mul_nonneg h0 h0; rw [Int.add_mul, Int.mul_add]; omega)
    go_enter Try.func117, Try.ntmps117
    go_wp2
    go_loop [3, 4] (fun x y => ∃ r s : Int, 1 ≤ r ∧ r ≤ n ∧ x = .int .i64 r ∧ y = .int .i64 s ∧ Hid (s = (r + n / r) / 2) ∧ Hid (n < (r + 1) * (r + 1)) ∧ 0 ≤ s ∧ s ≤ 1000000000000000000) (fun x _ => (intOf x).toNat)
    case atStart => exact ⟨n, (n + 1) / 2, hn, by omega, rfl, rfl, HS.out, HU2.out, by omega, by omega⟩
    case round =>
      obtain ⟨r, s, hr, hrn, rfl, rfl, HE, HB, hs0, hs1⟩ := hrel
      have HN := Lib.hid (newton_up h0 hr)
      have HN2 := Lib.hid (fun h => newton_end h0 hr h)
      by_cases hlt : s < r
      · have hs2 : 1 ≤ s := up_pos hn hs0 (by rw [HE.out]; exact HN.out)
        have hq0 : 0 ≤ n / s := Int.ediv_nonneg h0 (by omega)
        have hq1 : n / s ≤ n := Int.ediv_le_self _ h0
        go_wp2
        go_round
        case rel => exact ⟨s, (s + n / s) / 2, hs2, by omega, rfl, rfl, rfl, by rw [HE.out]; exact HN.out, by omega, by omega⟩
        case measure => simp [intOf]; omega
      · go_wp2
        go_ret
        refine ⟨ret_int (IsRt.unique ⟨by omega, HN2.out ?_, HB.out⟩ HR.out), rfl⟩
        have := HE.out
        omega

set_option maxHeartbeats 1000000 in
theorem squareRoot_any (n d : Int) (w : World) (h0 : 0 ≤ n) (h1 : n ≤ 1000000000000000000) (hd : 1 ≤ d) (hd' : d ≤ 1000000000) :
    Calls Try.prog 93 #[.int .i64 n, .int .i64 d] w fun e w' => e = .returned (.agg #[.int .i64 (sqN n d).1, .int .i64 (sqN n d).2]) ∧ Below w.heap.size w w' := by
  have hq0 : 0 ≤ n / d := Int.ediv_nonneg h0 (by omega)
  have hq1 : n / d ≤ n := Int.ediv_le_self _ h0
  obtain ⟨_, _, r0, r1, s0, s1, t0, t1⟩ := sq_facts h0 h1 hd (rt_is hq0 (by omega))
  have HQ := Lib.hid (fun (h : rt (n / d) * rt (n / d) * d = n) => show sqN n d = (rt (n / d), rt (n / d)) by unfold sqN; rw [if_pos h])
  have HQ2 := Lib.hid (fun (h : ¬ rt (n / d) * rt (n / d) * d = n) => show sqN n d = (rt (n / d), rt (n / d) + 1) by unfold sqN; rw [if_neg h])
  generalize hr : rt (n / d) = r at *
  have HRR := Lib.hid hr
  clear hr
  by_cases he : r * r * d = n
  · have he' : (r * r * d == n) = true := by simpa using he
    have HE := Lib.hid (HQ.out he)
    clear he
    go_enter Try.func93, Try.ntmps93
    go_wp2_with (go_at_call 117; refine (wholeRoot_any _ _ hq0 (by omega)).mono ?_; rintro e w' ⟨rfl, rfl⟩; rw [HRR.out])
    refine bodyPost_ret (ret_range1 rfl _ _ _ _ _ rfl (by simp [go_sem]; rfl) (by simp [go_sem]; rfl)) rfl ⟨by rw [HE.out], (Below.refl _ _).alloc (Nat.le_refl _) _⟩
  · have he' : (r * r * d == n) = false := by simpa using he
    have HE := Lib.hid (HQ2.out he)
    clear he
    go_enter Try.func93, Try.ntmps93
    go_wp2_with (go_at_call 117; refine (wholeRoot_any _ _ hq0 (by omega)).mono ?_; rintro e w' ⟨rfl, rfl⟩; rw [HRR.out])
    refine bodyPost_ret (ret_range1 rfl _ _ _ _ _ rfl (by simp [go_sem]; rfl) (by simp [go_sem]; rfl)) rfl ⟨by rw [HE.out], (Below.refl _ _).alloc (Nat.le_refl _) _⟩

set_option maxHeartbeats 1000000 in
theorem sqrt_any (a b t : Int) (w : World) (ha : I64 a) (hb : I64 b) (ht : I64 t) :
    Calls Try.prog 37 #[.agg #[.int .i64 a, .int .i64 b], .int .i64 t] w fun e w' => e = .returned (.tuple #[.agg #[.int .i64 (sqrtN a b t).1, .int .i64 (sqrtN a b t).2.1], .int .i64 (sqrtN a b t).2.2]) ∧ Below w.heap.size w w' := by
  by_cases he : ckFs [(a, b)] = 0
  · have he' : (ckFs [(a, b)] != 0) = false := by rw [he]; rfl
    have z1 := he
    rw [ckFs_one] at z1
    have HZ := Lib.hid z1
    obtain ⟨a1, a2, b1, b2, _⟩ := ckF_zero z1
    dsimp only at a1 a2 b1 b2
    clear z1 he
    have hh : I64 t := ht
    obtain ⟨t1, t2⟩ := hh
    by_cases hr : a < 0 ∨ t < 1 ∨ 10000 < t
    · have HR := Lib.hid (show sqrtN a b t = (0, 0, 2) by unfold sqrtN; rw [if_neg (by simpa using HZ.out), if_pos hr])
      rcases Int.lt_or_le a 0 with g1 | g1
      · clear hr
        go_enter Try.func37, Try.ntmps37
        go_wp2_with (go_at_call 83; refine (checkFracs1 a b _ _ (by simp) ha hb (by simp [go_sem, World.cell?_alloc_past]) (by simp [go_sem, World.cell?_alloc_past])).mono ?_; rintro e w1 ⟨rfl, hB1⟩; obtain ⟨hc1, hf1⟩ := bcell hB1; have hz1 : w.heap.size + 3 ≤ w1.heap.size := (by have := hB1.size; simp at this; omega); have k0 : w1.cell? ⟨w.heap.size + 1, 0, none⟩ = some (.int .i64 0) := (by rw [hc1 _ _ (by simp)]; simp [go_sem, World.cell?_alloc_past]); have k1 : w1.cell? ⟨w.heap.size + 1, 1, none⟩ = some (.int .i64 0) := (by rw [hc1 _ _ (by simp)]; simp [go_sem, World.cell?_alloc_past]); have k2 : w1.frozen? ⟨w.heap.size + 1, 0, none⟩ = false := (by rw [hf1 _ _ (by simp)]; simp [go_sem, World.frozen?_alloc_past]); have k3 : w1.frozen? ⟨w.heap.size + 1, 1, none⟩ = false := (by rw [hf1 _ _ (by simp)]; simp [go_sem, World.frozen?_alloc_past]))
        obtain ⟨r0, r1⟩ := set2 (w := w1) (b := w.heap.size + 1) (x := .int .i64 0) (y := .int .i64 0) (.int .i64 0) (.int .i64 0) k0 k1
        refine bodyPost_ret (ret_range rfl _ _ _ _ _ _ rfl rfl r0 r1) rfl ⟨by rw [HR.out]; rfl, ?_⟩
        exact (((((((Below.refl w.heap.size w).alloc (Nat.le_refl _) _).alloc (by simp) _).alloc (by simp; omega) _).trans (hB1.mono (by simp; omega))).setCell (by simp <;> omega) _).setCell (by simp <;> omega) _)
      rcases Int.lt_or_le t 1 with g2 | g2
      · clear hr
        go_enter Try.func37, Try.ntmps37
        go_wp2_with (go_at_call 83; refine (checkFracs1 a b _ _ (by simp) ha hb (by simp [go_sem, World.cell?_alloc_past]) (by simp [go_sem, World.cell?_alloc_past])).mono ?_; rintro e w1 ⟨rfl, hB1⟩; obtain ⟨hc1, hf1⟩ := bcell hB1; have hz1 : w.heap.size + 3 ≤ w1.heap.size := (by have := hB1.size; simp at this; omega); have k0 : w1.cell? ⟨w.heap.size + 1, 0, none⟩ = some (.int .i64 0) := (by rw [hc1 _ _ (by simp)]; simp [go_sem, World.cell?_alloc_past]); have k1 : w1.cell? ⟨w.heap.size + 1, 1, none⟩ = some (.int .i64 0) := (by rw [hc1 _ _ (by simp)]; simp [go_sem, World.cell?_alloc_past]); have k2 : w1.frozen? ⟨w.heap.size + 1, 0, none⟩ = false := (by rw [hf1 _ _ (by simp)]; simp [go_sem, World.frozen?_alloc_past]); have k3 : w1.frozen? ⟨w.heap.size + 1, 1, none⟩ = false := (by rw [hf1 _ _ (by simp)]; simp [go_sem, World.frozen?_alloc_past]))
        obtain ⟨r0, r1⟩ := set2 (w := w1) (b := w.heap.size + 1) (x := .int .i64 0) (y := .int .i64 0) (.int .i64 0) (.int .i64 0) k0 k1
        refine bodyPost_ret (ret_range rfl _ _ _ _ _ _ rfl rfl r0 r1) rfl ⟨by rw [HR.out]; rfl, ?_⟩
        exact (((((((Below.refl w.heap.size w).alloc (Nat.le_refl _) _).alloc (by simp) _).alloc (by simp; omega) _).trans (hB1.mono (by simp; omega))).setCell (by simp <;> omega) _).setCell (by simp <;> omega) _)
      have g3 : 10000 < t := by omega
      clear hr
      go_enter Try.func37, Try.ntmps37
      go_wp2_with (go_at_call 83; refine (checkFracs1 a b _ _ (by simp) ha hb (by simp [go_sem, World.cell?_alloc_past]) (by simp [go_sem, World.cell?_alloc_past])).mono ?_; rintro e w1 ⟨rfl, hB1⟩; obtain ⟨hc1, hf1⟩ := bcell hB1; have hz1 : w.heap.size + 3 ≤ w1.heap.size := (by have := hB1.size; simp at this; omega); have k0 : w1.cell? ⟨w.heap.size + 1, 0, none⟩ = some (.int .i64 0) := (by rw [hc1 _ _ (by simp)]; simp [go_sem, World.cell?_alloc_past]); have k1 : w1.cell? ⟨w.heap.size + 1, 1, none⟩ = some (.int .i64 0) := (by rw [hc1 _ _ (by simp)]; simp [go_sem, World.cell?_alloc_past]); have k2 : w1.frozen? ⟨w.heap.size + 1, 0, none⟩ = false := (by rw [hf1 _ _ (by simp)]; simp [go_sem, World.frozen?_alloc_past]); have k3 : w1.frozen? ⟨w.heap.size + 1, 1, none⟩ = false := (by rw [hf1 _ _ (by simp)]; simp [go_sem, World.frozen?_alloc_past]))
      obtain ⟨r0, r1⟩ := set2 (w := w1) (b := w.heap.size + 1) (x := .int .i64 0) (y := .int .i64 0) (.int .i64 0) (.int .i64 0) k0 k1
      refine bodyPost_ret (ret_range rfl _ _ _ _ _ _ rfl rfl r0 r1) rfl ⟨by rw [HR.out]; rfl, ?_⟩
      exact (((((((Below.refl w.heap.size w).alloc (Nat.le_refl _) _).alloc (by simp) _).alloc (by simp; omega) _).trans (hB1.mono (by simp; omega))).setCell (by simp <;> omega) _).setCell (by simp <;> omega) _)
    · have HR := Lib.hid (show sqrtN a b t = ((sqN (t * t * a) b).1, (sqN (t * t * a) b).2, 0) by unfold sqrtN; rw [if_neg (by simpa using HZ.out), if_neg hr])
      have g1 : 0 ≤ a := by omega
      have g2 : 1 ≤ t := by omega
      have g3 : t ≤ 10000 := by omega
      have m1 := mul_bd (x := t) (y := t) (A := 10000) (B := 10000) (by omega) (by omega) (by omega) (by omega)
      have m2 : 0 ≤ t * t := Int.mul_nonneg (by omega) (by omega)
      have m3 := mul_bd (x := t * t) (y := a) (A := 100000000) (B := 1000000000) (by omega) (by omega) (by omega) (by omega)
      have m4 : 0 ≤ t * t * a := Int.mul_nonneg m2 g1
      clear hr
      go_enter Try.func37, Try.ntmps37
      go_wp2_with (first
        | (go_at_call 83; refine (checkFracs1 a b _ _ (by simp) ha hb (by simp [go_sem, World.cell?_alloc_past]) (by simp [go_sem, World.cell?_alloc_past])).mono ?_; rintro e w1 ⟨rfl, hB1⟩; obtain ⟨hc1, hf1⟩ := bcell hB1; have hz1 : w.heap.size + 3 ≤ w1.heap.size := (by have := hB1.size; simp at this; omega); have k0 : w1.cell? ⟨w.heap.size + 1, 0, none⟩ = some (.int .i64 0) := (by rw [hc1 _ _ (by simp)]; simp [go_sem, World.cell?_alloc_past]); have k1 : w1.cell? ⟨w.heap.size + 1, 1, none⟩ = some (.int .i64 0) := (by rw [hc1 _ _ (by simp)]; simp [go_sem, World.cell?_alloc_past]); have k2 : w1.frozen? ⟨w.heap.size + 1, 0, none⟩ = false := (by rw [hf1 _ _ (by simp)]; simp [go_sem, World.frozen?_alloc_past]); have k3 : w1.frozen? ⟨w.heap.size + 1, 1, none⟩ = false := (by rw [hf1 _ _ (by simp)]; simp [go_sem, World.frozen?_alloc_past]))
        | (go_at_call 93; refine (squareRoot_any _ _ _ m4 (by omega) (by omega) (by omega)).mono ?_; rintro e w2 ⟨rfl, hB2⟩; obtain ⟨hc2, hf2⟩ := bcell hB2; have hz2 := hB2.size; have j0 := (hc2 (w.heap.size + 1) 0 (by omega)).trans k0; have j1 := (hc2 (w.heap.size + 1) 1 (by omega)).trans k1; have j2 := (hf2 (w.heap.size + 1) 0 (by omega)).trans k2; have j3 := (hf2 (w.heap.size + 1) 1 (by omega)).trans k3))
      obtain ⟨r0, r1⟩ := set2 (w := w2) (b := w.heap.size + 1) (x := .int .i64 0) (y := .int .i64 0) (.int .i64 (sqN (t * t * a) b).1) (.int .i64 (sqN (t * t * a) b).2) j0 j1
      refine bodyPost_ret (ret_range rfl _ _ _ _ _ _ rfl rfl r0 r1) rfl ⟨by rw [HR.out]; rfl, ?_⟩
      exact ((((((((Below.refl w.heap.size w).alloc (Nat.le_refl _) _).alloc (by simp) _).alloc (by simp; omega) _).trans (hB1.mono (by simp; omega))).trans (hB2.mono (by omega))).setCell (by simp <;> omega) _).setCell (by simp <;> omega) _)
  · have he' : (ckFs [(a, b)] != 0) = true := by simpa using he
    have HR := Lib.hid (show sqrtN a b t = (0, 0, ckFs [(a, b)]) by rw [ckFs_one] at he ⊢; unfold sqrtN; rw [if_pos he])
    clear he
    go_enter Try.func37, Try.ntmps37
    go_wp2_with (go_at_call 83; refine (checkFracs1 a b _ _ (by simp) ha hb (by simp [go_sem, World.cell?_alloc_past]) (by simp [go_sem, World.cell?_alloc_past])).mono ?_; rintro e w1 ⟨rfl, hB1⟩; obtain ⟨hc1, hf1⟩ := bcell hB1; have hz1 : w.heap.size + 3 ≤ w1.heap.size := (by have := hB1.size; simp at this; omega); have k0 : w1.cell? ⟨w.heap.size + 1, 0, none⟩ = some (.int .i64 0) := (by rw [hc1 _ _ (by simp)]; simp [go_sem, World.cell?_alloc_past]); have k1 : w1.cell? ⟨w.heap.size + 1, 1, none⟩ = some (.int .i64 0) := (by rw [hc1 _ _ (by simp)]; simp [go_sem, World.cell?_alloc_past]); have k2 : w1.frozen? ⟨w.heap.size + 1, 0, none⟩ = false := (by rw [hf1 _ _ (by simp)]; simp [go_sem, World.frozen?_alloc_past]); have k3 : w1.frozen? ⟨w.heap.size + 1, 1, none⟩ = false := (by rw [hf1 _ _ (by simp)]; simp [go_sem, World.frozen?_alloc_past]))
    obtain ⟨r0, r1⟩ := set2 (w := w1) (b := w.heap.size + 1) (x := .int .i64 0) (y := .int .i64 0) (.int .i64 0) (.int .i64 0) k0 k1
    refine bodyPost_ret (ret_range rfl _ _ _ _ _ _ rfl rfl r0 r1) rfl ⟨by rw [HR.out]; rfl, ?_⟩
    exact (((((((Below.refl w.heap.size w).alloc (Nat.le_refl _) _).alloc (by simp) _).alloc (by simp; omega) _).trans (hB1.mono (by simp; omega))).setCell (by simp <;> omega) _).setCell (by simp <;> omega) _)

end Go.Proofs.Ytfnmnnbmhfbkbaa

/-! Trig0 -/
namespace Go.Proofs.Ytfnmnnbmhfbkbaa

def stE (n e q : Int) : Int := (-e * q).tdiv (1000000000 * (n - 1) * n)
def stO (n o q : Int) : Int := (-o * q).tdiv (1000000000 * n * (n + 1))
/-- The series: (sine, cosine). -/
def serGo : Nat → Int → Int → Int → Int → Int → Int → Int × Int
  | 0, _, _, _, c, s, _ => (s, c)
  | f + 1, n, e, o, c, s, q => if e = 0 then (s, c) else serGo f (n + 2) (stE n e q) (stO n o q) (c + stE n e q) (s + stO n o q) q
def arcN (a : Int) : Int := a * 3141592654 / 648000
def sqrN (a : Int) : Int := arcN a * arcN a / 1000000000
def serN (a : Int) : Int × Int := serGo 40 2 1000000000 (arcN a) 1000000000 (arcN a) (sqrN a)

theorem arc_bd {a : Int} (h : 0 ≤ a) (h' : a ≤ 162000) : 0 ≤ arcN a ∧ arcN a ≤ 785398164 := by unfold arcN; omega
theorem sqr_bd {a : Int} (h : 0 ≤ a) (h' : a ≤ 162000) : 0 ≤ sqrN a ∧ sqrN a ≤ 1000000000 ∧ 0 ≤ arcN a * arcN a ∧ arcN a * arcN a ≤ 1000000000000000000 := by
  obtain ⟨h1, h2⟩ := arc_bd h h'
  have m := mul_b9 (x := arcN a) (y := arcN a) (by omega) (by omega) (by omega) (by omega)
  have m0 := Int.mul_nonneg h1 h1
  unfold sqrN
  generalize arcN a * arcN a = p at *
  omega

theorem tdiv_half {x q m : Int} (hq : 0 ≤ q) (hq' : q ≤ 1000000000) (hm : 2000000000 ≤ m) : 2 * ((-x * q).tdiv m).natAbs ≤ x.natAbs := by
  rw [Int.natAbs_tdiv, Int.natAbs_mul, Int.natAbs_neg]
  show 2 * (x.natAbs * q.natAbs / m.natAbs) ≤ x.natAbs
  have h1 : x.natAbs * q.natAbs / m.natAbs * m.natAbs ≤ x.natAbs * q.natAbs := Nat.div_mul_le_self _ _
  have h2 : x.natAbs * q.natAbs ≤ x.natAbs * 1000000000 := Nat.mul_le_mul_left _ (by omega)
  have h3 : x.natAbs * q.natAbs / m.natAbs * 2000000000 ≤ x.natAbs * q.natAbs / m.natAbs * m.natAbs := Nat.mul_le_mul_left _ (by omega)
  omega
theorem den_e {n : Int} (h : 2 ≤ n) (h' : n ≤ 100) : 2000000000 ≤ 1000000000 * (n - 1) * n ∧ 1000000000 * (n - 1) * n ≤ 10000000000000 := by
  have a := mul_bd (x := n - 1) (y := n) (A := 100) (B := 100) (by omega) (by omega) (by omega) (by omega)
  have b : 1 * 2 ≤ (n - 1) * n := Int.mul_le_mul (by omega) h (by omega) (by omega)
  rw [Int.mul_assoc]
  omega
theorem den_o {n : Int} (h : 2 ≤ n) (h' : n ≤ 100) : 2000000000 ≤ 1000000000 * n * (n + 1) ∧ 1000000000 * n * (n + 1) ≤ 20000000000000 := by
  have a := mul_bd (x := n) (y := n + 1) (A := 100) (B := 101) (by omega) (by omega) (by omega) (by omega)
  have b : 2 * 3 ≤ n * (n + 1) := Int.mul_le_mul h (by omega) (by omega) (by omega)
  rw [Int.mul_assoc]
  omega

theorem serGo_bd (f : Nat) : ∀ (n e o c s q C : Int), 2 ≤ n → n + 2 * f ≤ 100 → -1000000000 ≤ e → e ≤ 1000000000 → -1000000000 ≤ o → o ≤ 1000000000 → 0 ≤ q → q ≤ 1000000000 → -C ≤ c → c ≤ C → -C ≤ s → s ≤ C →
    -(C + 1000000000 * f) ≤ (serGo f n e o c s q).1 ∧ (serGo f n e o c s q).1 ≤ C + 1000000000 * f ∧ -(C + 1000000000 * f) ≤ (serGo f n e o c s q).2 ∧ (serGo f n e o c s q).2 ≤ C + 1000000000 * f := by
  induction f with
  | zero => intro n e o c s q C _ _ _ _ _ _ _ _ h1 h2 h3 h4; simp only [serGo]; omega
  | succ f ih =>
    intro n e o c s q C hn hn' he he' ho ho' hq hq' h1 h2 h3 h4
    unfold serGo
    split
    · dsimp only; omega
    · have de := den_e hn (by omega)
      have d_o := den_o hn (by omega)
      have te : 2 * (stE n e q).natAbs ≤ e.natAbs := tdiv_half hq hq' de.1
      have to : 2 * (stO n o q).natAbs ≤ o.natAbs := tdiv_half hq hq' d_o.1
      have := ih (n + 2) (stE n e q) (stO n o q) (c + stE n e q) (s + stO n o q) q (C + 1000000000) (by omega) (by omega) (by omega) (by omega) (by omega) (by omega) hq hq' (by omega) (by omega) (by omega) (by omega)
      omega
/-- One round more. -/
theorem serGo_step {f : Nat} {n e o c s q : Int} {r : Int × Int} (h : serGo (f + 1) n e o c s q = r) (he : e ≠ 0) : serGo f (n + 2) (stE n e q) (stO n o q) (c + stE n e q) (s + stO n o q) q = r := by
  rw [← h]; show _ = if e = 0 then (s, c) else _
  rw [if_neg he]
theorem serGo_end {f : Nat} {n o c s q : Int} {r : Int × Int} (h : serGo f n 0 o c s q = r) : r = (s, c) := by
  rw [← h]
  cases f with
  | zero => rfl
  | succ f => show (if (0 : Int) = 0 then (s, c) else _) = _; rw [if_pos rfl]
theorem pow_le {j : Nat} {e : Int} (h : e.natAbs * 2 ^ j ≤ 1000000000) (he : e ≠ 0) : j ≤ 29 := by
  rcases Nat.lt_or_ge 29 j with h1 | h1
  · have h2 : 2 ^ 30 ≤ 2 ^ j := Nat.pow_le_pow_right (by omega) h1
    have h3 : 1 * 2 ^ j ≤ e.natAbs * 2 ^ j := Nat.mul_le_mul_right _ (by omega)
    omega
  · exact h1
theorem pow_step {j : Nat} {e e' : Int} (h : e.natAbs * 2 ^ j ≤ 1000000000) (he : 2 * e'.natAbs ≤ e.natAbs) : e'.natAbs * 2 ^ (j + 1) ≤ 1000000000 := by
  rw [Nat.pow_succ, Nat.mul_comm (2 ^ j) 2, ← Nat.mul_assoc, Nat.mul_comm e'.natAbs 2]
  exact Nat.le_trans (Nat.mul_le_mul_right _ he) h

theorem serN_bd {a : Int} (h : 0 ≤ a) (h' : a ≤ 162000) : -100000000000 ≤ (serN a).1 ∧ (serN a).1 ≤ 100000000000 ∧ -100000000000 ≤ (serN a).2 ∧ (serN a).2 ≤ 100000000000 := by
  have h1 := arc_bd h h'
  have h2 := sqr_bd h h'
  have := serGo_bd 40 2 1000000000 (arcN a) 1000000000 (arcN a) (sqrN a) 1000000000 (by omega) (by omega) (by omega) (by omega) (by omega) (by omega) (by omega) (by omega) (by omega) (by omega) (by omega) (by omega)
  unfold serN
  omega

/-- A turn by a quarter, k times. -/
def rot : Nat → Int × Int → Int × Int
  | 0, p => p
  | k + 1, p => rot k (p.2, -p.1)
theorem rot_snoc (k : Nat) : ∀ p : Int × Int, rot (k + 1) p = ((rot k p).2, -(rot k p).1) := by
  induction k with
  | zero => intro p; rfl
  | succ k ih => intro p; exact ih (p.2, -p.1)
/-- The first quarter. -/
def qrN (r : Int) : Int × Int := if r ≤ 162000 then serN r else ((serN (324000 - r)).2, (serN (324000 - r)).1)
/-- The sine and the cosine of any angle. -/
def arN (a : Int) : Int × Int := rot (a / 324000 % 4).toNat (qrN (a % 324000))
theorem qrN_bd {r : Int} (h : 0 ≤ r) (h' : r < 324000) : -100000000000 ≤ (qrN r).1 ∧ (qrN r).1 ≤ 100000000000 ∧ -100000000000 ≤ (qrN r).2 ∧ (qrN r).2 ≤ 100000000000 := by
  unfold qrN
  split
  · exact serN_bd h (by omega)
  · have := serN_bd (a := 324000 - r) (by omega) (by omega); dsimp only; omega
theorem rot_bd (k : Nat) : ∀ (p : Int × Int) (B : Int), -B ≤ p.1 → p.1 ≤ B → -B ≤ p.2 → p.2 ≤ B → -B ≤ (rot k p).1 ∧ (rot k p).1 ≤ B ∧ -B ≤ (rot k p).2 ∧ (rot k p).2 ≤ B := by
  induction k with
  | zero => intro p B h1 h2 h3 h4; exact ⟨h1, h2, h3, h4⟩
  | succ k ih => intro p B h1 h2 h3 h4; exact ih (p.2, -p.1) B h3 h4 (by dsimp only; omega) (by dsimp only; omega)
theorem arN_bd (a : Int) : -100000000000 ≤ (arN a).1 ∧ (arN a).1 ≤ 100000000000 ∧ -100000000000 ≤ (arN a).2 ∧ (arN a).2 ≤ 100000000000 := by
  obtain ⟨h1, h2, h3, h4⟩ := qrN_bd (r := a % 324000) (by omega) (by omega)
  exact rot_bd _ _ _ h1 h2 h3 h4

theorem and3 (a : Int) : bits .and .i64 a 3 = a % 4 := by
  show IntKind.i64.wrap ((BitVec.ofInt 64 a &&& BitVec.ofInt 64 3).toNat : Int) = _
  rw [BitVec.toNat_and]
  have h3 : (BitVec.ofInt 64 3).toNat = 2 ^ 2 - 1 := by decide
  rw [h3, Nat.and_two_pow_sub_one_eq_mod, BitVec.toNat_ofInt, IntKind.wrap_i64]
  omega

/-- Enclosed values. -/
def slN (v t : Int) : Int × Int := ((v - 20) * t / 1000000000, -(-((v + 20) * t) / 1000000000))
def sinN (a t : Int) : Int × Int × Int := if 1000000000 < sz a ∨ t < 1 ∨ 1000000 < t then (0, 0, 2) else ((slN (arN a).1 t).1, (slN (arN a).1 t).2, 0)
def cosN (a t : Int) : Int × Int × Int := if 1000000000 < sz a ∨ t < 1 ∨ 1000000 < t then (0, 0, 2) else ((slN (arN a).2 t).1, (slN (arN a).2 t).2, 0)

end Go.Proofs.Ytfnmnnbmhfbkbaa

/-! W05 -/
namespace Go.Proofs.Ytfnmnnbmhfbkbaa
open Go.RowKit

set_option maxHeartbeats 400000 in
theorem down_any (n b : Int) (w : World) (hn : -9000000000000000000 ≤ n) (hn' : n ≤ 9000000000000000000) (hb : 1 ≤ b) (hb' : b ≤ 1000000000000000000) :
    Calls Try.prog 118 #[.int .i64 n, .int .i64 b] w fun e w' => e = .returned (.int .i64 (n / b)) ∧ w = w' := by
  have q := tdiv_bd hn hn' hb
  have HT := Lib.hid (Int.mul_tdiv_add_tmod n b)
  have r1 : n.tmod b < b := Int.tmod_lt_of_pos _ (by omega)
  have r2 : -b < n.tmod b := by have := Int.lt_tmod_of_pos n (show 0 < b by omega); omega
  by_cases hr : n.tmod b < 0
  · have HF := Lib.hid (show n / b = n.tdiv b - 1 by
      have h1 := HT.out
      rw [Int.ediv_eq_iff_of_pos (by omega)]
      rw [Int.sub_mul, Int.mul_comm (n.tdiv b) b]; omega)
    go_enter Try.func118, Try.ntmps118
    go_wp2
    go_ret
    exact ⟨ret_int HF.out.symm, rfl⟩
  · have HF := Lib.hid (show n / b = n.tdiv b by
      have h1 := HT.out
      rw [Int.ediv_eq_iff_of_pos (by omega)]
      rw [Int.mul_comm (n.tdiv b) b]; omega)
    go_enter Try.func118, Try.ntmps118
    go_wp2
    go_ret
    exact ⟨ret_int HF.out.symm, rfl⟩

set_option maxHeartbeats 400000 in
theorem up_any (n b : Int) (w : World) (hn : -9000000000000000000 ≤ n) (hn' : n ≤ 9000000000000000000) (hb : 1 ≤ b) (hb' : b ≤ 1000000000000000000) :
    Calls Try.prog 120 #[.int .i64 n, .int .i64 b] w fun e w' => e = .returned (.int .i64 (-(-n / b))) ∧ w = w' := by
  have h1 : -9000000000000000000 ≤ -n / b ∧ -n / b ≤ 9000000000000000000 := by
    constructor
    · rw [Int.le_ediv_iff_mul_le (by omega)]
      have := Int.mul_le_mul_of_nonpos_left (a := -9000000000000000000) (b := b) (c := 1) (by omega) hb
      omega
    · have : -n / b < 9000000000000000001 := by
        rw [Int.ediv_lt_iff_lt_mul (by omega)]
        have := Int.mul_le_mul_of_nonneg_left (c := 9000000000000000001) (a := 1) (b := b) hb (by omega)
        omega
      omega
  go_enter Try.func120, Try.ntmps120
  go_wp2_with (go_at_call 118; refine (down_any _ _ _ (by omega) (by omega) hb hb').mono ?_; rintro e w' ⟨rfl, rfl⟩)
  go_ret
  exact ⟨rfl, rfl⟩

set_option maxHeartbeats 2000000 in
theorem series_any (a : Int) (w : World) (h0 : 0 ≤ a) (h1 : a ≤ 162000) :
    Calls Try.prog 119 #[.int .i64 a] w fun e w' => e = .returned (.tuple #[.int .i64 (serN a).1, .int .i64 (serN a).2]) ∧ w = w' := by
  obtain ⟨a0, a1⟩ := arc_bd h0 h1
  obtain ⟨q0, q1, p0, p1⟩ := sqr_bd h0 h1
  have HS := Lib.hid (show serGo 40 2 1000000000 (arcN a) 1000000000 (arcN a) (sqrN a) = serN a from rfl)
  have hQ : arcN a * arcN a / 1000000000 = sqrN a := rfl
  have hA : a * 3141592654 / 648000 = arcN a := rfl
  rw [← hQ] at HS q0 q1
  clear hQ
  rw [← hA] at HS a0 a1 q0 q1 p0 p1
  clear hA
  generalize serN a = r at *
  go_enter Try.func119, Try.ntmps119
  go_wp2_with fail
  generalize a * 3141592654 / 648000 = arc at *
  generalize arc * arc / 1000000000 = q at *
  go_loop [2, 3, 6, 7, 8] (fun sn cs od ev nn => ∃ (j : Nat) (e o c s : Int), j ≤ 30 ∧ nn = .int .i64 (2 * j + 2) ∧ ev = .int .i64 e ∧ od = .int .i64 o ∧ cs = .int .i64 c ∧ sn = .int .i64 s ∧
      Hid (serGo (40 - j) (2 * j + 2) e o c s q = r) ∧ Hid (e.natAbs * 2 ^ j ≤ 1000000000) ∧ -1000000000 ≤ e ∧ e ≤ 1000000000 ∧ -1000000000 ≤ o ∧ o ≤ 1000000000 ∧ -1000000000 * (j + 1) ≤ c ∧ c ≤ 1000000000 * (j + 1) ∧ -1000000000 * (j + 1) ≤ s ∧ s ≤ 1000000000 * (j + 1))
    (fun _ _ _ ev _ => (intOf ev).natAbs)
  case atStart => exact ⟨0, 1000000000, arc, 1000000000, arc, by omega, rfl, rfl, rfl, rfl, rfl, HS.out, by simp [Hid], by omega, by omega, by omega, by omega, by omega, by omega, by omega, by omega⟩
  case round =>
    obtain ⟨j, e, o, c, s, hj, rfl, rfl, rfl, rfl, rfl, HG, HP, e1, e2, o1, o2, c1, c2, s1, s2⟩ := hrel
    by_cases he : e = 0
    · subst he
      have HE := Lib.hid (serGo_end HG.out)
      go_wp2
      go_ret2
      exact ⟨by rw [HE.out]; rfl, rfl⟩
    · have hj2 := pow_le HP.out he
      have he' : (e != 0) = true := by simpa using he
      obtain ⟨de1, de2⟩ := den_e (n := 2 * (j : Int) + 2) (by omega) (by omega)
      obtain ⟨do1, do2⟩ := den_o (n := 2 * (j : Int) + 2) (by omega) (by omega)
      have me := mul_b9 (x := -e) (y := q) (by omega) (by omega) (by omega) (by omega)
      have mo := mul_b9 (x := -o) (y := q) (by omega) (by omega) (by omega) (by omega)
      have te : 2 * (stE (2 * j + 2) e q).natAbs ≤ e.natAbs := tdiv_half q0 q1 de1
      have to : 2 * (stO (2 * j + 2) o q).natAbs ≤ o.natAbs := tdiv_half q0 q1 do1
      have HP2 := Lib.hid (pow_step HP.out te)
      have HG1 := HG.out
      rw [show 40 - j = (39 - j) + 1 by omega] at HG1
      have HG2 := Lib.hid (serGo_step HG1 he)
      clear HG1
      have hlt : (stE (2 * j + 2) e q).natAbs < e.natAbs := by omega
      unfold stE at te hlt HP2 HG2
      unfold stO at to HG2
      clear he
      go_wp2
      go_round
      case rel => exact ⟨j + 1, _, _, _, _, by omega, by go_num, rfl, rfl, rfl, rfl, by have h := HG2.out; rw [show 40 - (j + 1) = 39 - j by omega, show (2 * ((j + 1 : Nat) : Int) + 2) = 2 * (j : Int) + 2 + 2 by omega]; exact h, HP2.out, by omega, by omega, by omega, by omega, by omega, by omega, by omega, by omega⟩
      case measure => simpa [intOf] using hlt

set_option maxHeartbeats 2000000 in
theorem around_any (a : Int) (w : World) (h0 : -4000000000 ≤ a) (h1 : a ≤ 4000000000) :
    Calls Try.prog 99 #[.int .i64 a] w fun e w' => e = .returned (.tuple #[.int .i64 (arN a).1, .int .i64 (arN a).2]) ∧ w = w' := by
  have HA := Lib.hid (show rot (a / 324000 % 4).toNat (qrN (a % 324000)) = arN a from rfl)
  have hb := qrN_bd (r := a % 324000) (by omega) (by omega)
  have hand := and3 (a / 324000)
  have hrest : a - a / 324000 * 324000 = a % 324000 := by omega
  have HR := Lib.hid hrest
  clear hrest
  have q0 : 0 ≤ a / 324000 % 4 := by omega
  have q1 : a / 324000 % 4 < 4 := by omega
  have w0 : -20000 ≤ a / 324000 := by omega
  have w1 : a / 324000 ≤ 20000 := by omega
  have r0 : 0 ≤ a - a / 324000 * 324000 := by omega
  have r1 : a - a / 324000 * 324000 < 324000 := by omega
  rw [← HR.out] at HA hb
  clear HR
  generalize hq : a / 324000 = q at *
  have HQ := Lib.hid hq
  clear hq
  generalize arN a = R at *
  by_cases hr : a - q * 324000 ≤ 162000
  · have HS := Lib.hid (show qrN (a - q * 324000) = ((serN (a - q * 324000)).1, (serN (a - q * 324000)).2) by unfold qrN; rw [if_pos hr])
    rw [HS.out] at HA hb
    dsimp only at hb
    go_enter Try.func99, Try.ntmps99
    go_wp2_with (first
      | (go_at_call 118; refine (down_any _ _ _ (by omega) (by omega) (by omega) (by omega)).mono ?_; rintro e w' ⟨rfl, rfl⟩; rw [HQ.out])
      | (go_at_call 119; refine (series_any _ _ (by omega) (by omega)).mono ?_; rintro e w' ⟨rfl, rfl⟩))
    obtain ⟨n4, hn4⟩ := Int.eq_ofNat_of_zero_le q0
    rw [hn4] at HA q1
    have HN := Lib.hid hn4
    rw [HN.out]
    clear hn4 hand q0
    rw [Int.toNat_natCast] at HA
    generalize (serN (a - q * 324000)).1 = x at *
    generalize (serN (a - q * 324000)).2 = y at *
    go_loop [2, 3, 27] (fun sn cs i => ∃ k : Nat, k ≤ n4 ∧ i = .int .i64 k ∧ sn = .int .i64 (rot k (x, y)).1 ∧ cs = .int .i64 (rot k (x, y)).2) (fun _ _ i => n4 - (intOf i).toNat)
    case atStart => exact ⟨0, by omega, rfl, rfl, rfl⟩
    case round =>
      obtain ⟨k, hk, rfl, rfl, rfl⟩ := hrel
      have hbk := rot_bd k (x, y) 100000000000 hb.1 hb.2.1 hb.2.2.1 hb.2.2.2
      have HK := Lib.hid (rot_snoc k (x, y))
      by_cases hlt : k < n4
      · have hlt' : (k : Int) < n4 := by omega
        go_wp2
        go_round
        case rel => exact ⟨k + 1, by omega, by go_num, by rw [HK.out], by rw [HK.out]⟩
        case measure => simp [intOf]; omega
      · obtain rfl : k = n4 := by omega
        go_wp2
        go_ret2
        exact ⟨by rw [← HA.out]; rfl, rfl⟩
  · have HS := Lib.hid (show qrN (a - q * 324000) = ((serN (324000 - (a - q * 324000))).2, (serN (324000 - (a - q * 324000))).1) by unfold qrN; rw [if_neg hr])
    rw [HS.out] at HA hb
    dsimp only at hb
    go_enter Try.func99, Try.ntmps99
    go_wp2_with (first
      | (go_at_call 118; refine (down_any _ _ _ (by omega) (by omega) (by omega) (by omega)).mono ?_; rintro e w' ⟨rfl, rfl⟩; rw [HQ.out])
      | (go_at_call 119; refine (series_any _ _ (by omega) (by omega)).mono ?_; rintro e w' ⟨rfl, rfl⟩))
    obtain ⟨n4, hn4⟩ := Int.eq_ofNat_of_zero_le q0
    rw [hn4] at HA q1
    have HN := Lib.hid hn4
    rw [HN.out]
    clear hn4 hand q0
    rw [Int.toNat_natCast] at HA
    generalize (serN (324000 - (a - q * 324000))).2 = x at *
    generalize (serN (324000 - (a - q * 324000))).1 = y at *
    go_loop [2, 3, 27] (fun sn cs i => ∃ k : Nat, k ≤ n4 ∧ i = .int .i64 k ∧ sn = .int .i64 (rot k (x, y)).1 ∧ cs = .int .i64 (rot k (x, y)).2) (fun _ _ i => n4 - (intOf i).toNat)
    case atStart => exact ⟨0, by omega, rfl, rfl, rfl⟩
    case round =>
      obtain ⟨k, hk, rfl, rfl, rfl⟩ := hrel
      have hbk := rot_bd k (x, y) 100000000000 hb.1 hb.2.1 hb.2.2.1 hb.2.2.2
      have HK := Lib.hid (rot_snoc k (x, y))
      by_cases hlt : k < n4
      · have hlt' : (k : Int) < n4 := by omega
        go_wp2
        go_round
        case rel => exact ⟨k + 1, by omega, by go_num, by rw [HK.out], by rw [HK.out]⟩
        case measure => simp [intOf]; omega
      · obtain rfl : k = n4 := by omega
        go_wp2
        go_ret2
        exact ⟨by rw [← HA.out]; rfl, rfl⟩

end Go.Proofs.Ytfnmnnbmhfbkbaa

/-! W06 -/
namespace Go.Proofs.Ytfnmnnbmhfbkbaa
open Go.RowKit

set_option maxHeartbeats 1000000 in
theorem slipped_any (v t : Int) (w : World) (hv : -100000000000 ≤ v) (hv' : v ≤ 100000000000) (ht : 1 ≤ t) (ht' : t ≤ 1000000) :
    Calls Try.prog 100 #[.int .i64 v, .int .i64 t] w fun e w' => e = .returned (.agg #[.int .i64 (slN v t).1, .int .i64 (slN v t).2]) ∧ Below w.heap.size w w' := by
  have m1 := mul_bd (x := v - 20) (y := t) (A := 100000000020) (B := 1000000) (by omega) (by omega) (by omega) (by omega)
  have m2 := mul_bd (x := v + 20) (y := t) (A := 100000000020) (B := 1000000) (by omega) (by omega) (by omega) (by omega)
  go_enter Try.func100, Try.ntmps100
  go_wp2_with (first
    | (go_at_call 118; refine (down_any _ _ _ (by omega) (by omega) (by omega) (by omega)).mono ?_; rintro e w' ⟨rfl, rfl⟩)
    | (go_at_call 120; refine (up_any _ _ _ (by omega) (by omega) (by omega) (by omega)).mono ?_; rintro e w' ⟨rfl, rfl⟩))
  refine bodyPost_ret (ret_range1 rfl _ _ _ _ _ rfl (by simp [go_sem]; rfl) (by simp [go_sem]; rfl)) rfl ⟨rfl, (Below.refl _ _).alloc (Nat.le_refl _) _⟩

set_option maxHeartbeats 1000000 in
theorem sine_any (a t : Int) (w : World) (ha : I64 a) (ht : I64 t) :
    Calls Try.prog 56 #[.int .i64 a, .int .i64 t] w fun e w' => e = .returned (.tuple #[.agg #[.int .i64 (sinN a t).1, .int .i64 (sinN a t).2.1], .int .i64 (sinN a t).2.2]) ∧ Below w.heap.size w w' := by
  have s1 := sz_nonneg a
  have s2 := sz_max ha.1 ha.2
  have t1 := ht.1
  have t2 := ht.2
  by_cases hr : 1000000000 < sz a ∨ t < 1 ∨ 1000000 < t
  · have HR := Lib.hid (show sinN a t = (0, 0, 2) by unfold sinN; rw [if_pos hr])
    rcases Int.lt_or_le 1000000000 (sz a) with g1 | g1
    · clear hr
      go_enter Try.func56, Try.ntmps56
      go_wp2_with (go_at_call 87; refine (size_any _ _ ha.1 ha.2).mono ?_; rintro e w' ⟨rfl, rfl⟩)
      refine bodyPost_ret (ret_range rfl _ _ _ _ _ _ rfl rfl (by simp [go_sem]; rfl) (by simp [go_sem]; rfl)) rfl ⟨by rw [HR.out]; rfl, (Below.refl _ _).alloc (Nat.le_refl _) _⟩
    rcases Int.lt_or_le t 1 with g2 | g2
    · clear hr
      go_enter Try.func56, Try.ntmps56
      go_wp2_with (go_at_call 87; refine (size_any _ _ ha.1 ha.2).mono ?_; rintro e w' ⟨rfl, rfl⟩)
      refine bodyPost_ret (ret_range rfl _ _ _ _ _ _ rfl rfl (by simp [go_sem]; rfl) (by simp [go_sem]; rfl)) rfl ⟨by rw [HR.out]; rfl, (Below.refl _ _).alloc (Nat.le_refl _) _⟩
    have g3 : 1000000 < t := by omega
    clear hr
    go_enter Try.func56, Try.ntmps56
    go_wp2_with (go_at_call 87; refine (size_any _ _ ha.1 ha.2).mono ?_; rintro e w' ⟨rfl, rfl⟩)
    refine bodyPost_ret (ret_range rfl _ _ _ _ _ _ rfl rfl (by simp [go_sem]; rfl) (by simp [go_sem]; rfl)) rfl ⟨by rw [HR.out]; rfl, (Below.refl _ _).alloc (Nat.le_refl _) _⟩
  · have HR := Lib.hid (show sinN a t = ((slN (arN a).1 t).1, (slN (arN a).1 t).2, 0) by unfold sinN; rw [if_neg hr])
    have g1 : sz a ≤ 1000000000 := by omega
    have g2 : 1 ≤ t := by omega
    have g3 : t ≤ 1000000 := by omega
    have g4 : -1000000000 ≤ a ∧ a ≤ 1000000000 := by unfold sz at g1; omega
    have hb := arN_bd a
    clear hr
    go_enter Try.func56, Try.ntmps56
    go_wp2_with (first
      | (go_at_call 87; refine (size_any _ _ ha.1 ha.2).mono ?_; rintro e w' ⟨rfl, rfl⟩)
      | (go_at_call 99; refine (around_any _ _ (by omega) (by omega)).mono ?_; rintro e w' ⟨rfl, rfl⟩)
      | (go_at_call 100; refine (slipped_any _ _ _ (by omega) (by omega) g2 g3).mono ?_; rintro e w1 ⟨rfl, hB1⟩; obtain ⟨hc1, hf1⟩ := bcell hB1; have hz1 : w.heap.size + 1 ≤ w1.heap.size := (by have := hB1.size; simp at this; omega); have k0 : w1.cell? ⟨w.heap.size, 0, none⟩ = some (.int .i64 0) := (by rw [hc1 _ _ (by simp)]; simp [go_sem, World.cell?_alloc_past]); have k1 : w1.cell? ⟨w.heap.size, 1, none⟩ = some (.int .i64 0) := (by rw [hc1 _ _ (by simp)]; simp [go_sem, World.cell?_alloc_past]); have k2 : w1.frozen? ⟨w.heap.size, 0, none⟩ = false := (by rw [hf1 _ _ (by simp)]; simp [go_sem, World.frozen?_alloc_past]); have k3 : w1.frozen? ⟨w.heap.size, 1, none⟩ = false := (by rw [hf1 _ _ (by simp)]; simp [go_sem, World.frozen?_alloc_past])))
    obtain ⟨r0, r1⟩ := set2 (w := w1) (b := w.heap.size) (x := .int .i64 0) (y := .int .i64 0) (.int .i64 (slN (arN a).1 t).1) (.int .i64 (slN (arN a).1 t).2) k0 k1
    refine bodyPost_ret (ret_range rfl _ _ _ _ _ _ rfl rfl r0 r1) rfl ⟨by rw [HR.out]; rfl, ?_⟩
    exact ((((Below.refl w.heap.size w).alloc (Nat.le_refl _) _).trans (hB1.mono (by simp))).setCell (by simp) _).setCell (by simp) _

set_option maxHeartbeats 1000000 in
theorem cosine_any (a t : Int) (w : World) (ha : I64 a) (ht : I64 t) :
    Calls Try.prog 57 #[.int .i64 a, .int .i64 t] w fun e w' => e = .returned (.tuple #[.agg #[.int .i64 (cosN a t).1, .int .i64 (cosN a t).2.1], .int .i64 (cosN a t).2.2]) ∧ Below w.heap.size w w' := by
  have s1 := sz_nonneg a
  have s2 := sz_max ha.1 ha.2
  have t1 := ht.1
  have t2 := ht.2
  by_cases hr : 1000000000 < sz a ∨ t < 1 ∨ 1000000 < t
  · have HR := Lib.hid (show cosN a t = (0, 0, 2) by unfold cosN; rw [if_pos hr])
    rcases Int.lt_or_le 1000000000 (sz a) with g1 | g1
    · clear hr
      go_enter Try.func57, Try.ntmps57
      go_wp2_with (go_at_call 87; refine (size_any _ _ ha.1 ha.2).mono ?_; rintro e w' ⟨rfl, rfl⟩)
      refine bodyPost_ret (ret_range rfl _ _ _ _ _ _ rfl rfl (by simp [go_sem]; rfl) (by simp [go_sem]; rfl)) rfl ⟨by rw [HR.out]; rfl, (Below.refl _ _).alloc (Nat.le_refl _) _⟩
    rcases Int.lt_or_le t 1 with g2 | g2
    · clear hr
      go_enter Try.func57, Try.ntmps57
      go_wp2_with (go_at_call 87; refine (size_any _ _ ha.1 ha.2).mono ?_; rintro e w' ⟨rfl, rfl⟩)
      refine bodyPost_ret (ret_range rfl _ _ _ _ _ _ rfl rfl (by simp [go_sem]; rfl) (by simp [go_sem]; rfl)) rfl ⟨by rw [HR.out]; rfl, (Below.refl _ _).alloc (Nat.le_refl _) _⟩
    have g3 : 1000000 < t := by omega
    clear hr
    go_enter Try.func57, Try.ntmps57
    go_wp2_with (go_at_call 87; refine (size_any _ _ ha.1 ha.2).mono ?_; rintro e w' ⟨rfl, rfl⟩)
    refine bodyPost_ret (ret_range rfl _ _ _ _ _ _ rfl rfl (by simp [go_sem]; rfl) (by simp [go_sem]; rfl)) rfl ⟨by rw [HR.out]; rfl, (Below.refl _ _).alloc (Nat.le_refl _) _⟩
  · have HR := Lib.hid (show cosN a t = ((slN (arN a).2 t).1, (slN (arN a).2 t).2, 0) by unfold cosN; rw [if_neg hr])
    have g1 : sz a ≤ 1000000000 := by omega
    have g2 : 1 ≤ t := by omega
    have g3 : t ≤ 1000000 := by omega
    have g4 : -1000000000 ≤ a ∧ a ≤ 1000000000 := by unfold sz at g1; omega
    have hb := arN_bd a
    clear hr
    go_enter Try.func57, Try.ntmps57
    go_wp2_with (first
      | (go_at_call 87; refine (size_any _ _ ha.1 ha.2).mono ?_; rintro e w' ⟨rfl, rfl⟩)
      | (go_at_call 99; refine (around_any _ _ (by omega) (by omega)).mono ?_; rintro e w' ⟨rfl, rfl⟩)
      | (go_at_call 100; refine (slipped_any _ _ _ (by omega) (by omega) g2 g3).mono ?_; rintro e w1 ⟨rfl, hB1⟩; obtain ⟨hc1, hf1⟩ := bcell hB1; have hz1 : w.heap.size + 1 ≤ w1.heap.size := (by have := hB1.size; simp at this; omega); have k0 : w1.cell? ⟨w.heap.size, 0, none⟩ = some (.int .i64 0) := (by rw [hc1 _ _ (by simp)]; simp [go_sem, World.cell?_alloc_past]); have k1 : w1.cell? ⟨w.heap.size, 1, none⟩ = some (.int .i64 0) := (by rw [hc1 _ _ (by simp)]; simp [go_sem, World.cell?_alloc_past]); have k2 : w1.frozen? ⟨w.heap.size, 0, none⟩ = false := (by rw [hf1 _ _ (by simp)]; simp [go_sem, World.frozen?_alloc_past]); have k3 : w1.frozen? ⟨w.heap.size, 1, none⟩ = false := (by rw [hf1 _ _ (by simp)]; simp [go_sem, World.frozen?_alloc_past])))
    obtain ⟨r0, r1⟩ := set2 (w := w1) (b := w.heap.size) (x := .int .i64 0) (y := .int .i64 0) (.int .i64 (slN (arN a).2 t).1) (.int .i64 (slN (arN a).2 t).2) k0 k1
    refine bodyPost_ret (ret_range rfl _ _ _ _ _ _ rfl rfl r0 r1) rfl ⟨by rw [HR.out]; rfl, ?_⟩
    exact ((((Below.refl w.heap.size w).alloc (Nat.le_refl _) _).trans (hB1.mono (by simp))).setCell (by simp) _).setCell (by simp) _

end Go.Proofs.Ytfnmnnbmhfbkbaa

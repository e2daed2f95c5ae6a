/- Contracts of the program, joined: Plain W01 Ret W02 W03 KP Post -/
import Derived.Laws.Bits64
import Derived.IntWalk
import Derived.Test.YtfnmnnbmhfbkbaaChecked
import Derived.WalkKit
import Derived.WalkSpells
import Derived.WalkLawsBesides
import Derived.BigQuiet
import Derived.Deep.QuietTactic
import Derived.Lib.Hide
import Derived.Laws.ResultCell
import Derived.ChangeSame
/-! Plain -/
set_option linter.unusedVariables false
set_option linter.unusedSimpArgs false
namespace Go.Proofs.Ytfnmnnbmhfbkbaa

theorem ret_int {k : IntKind} {a b : Int} (h : a = b) : Ending.returned (.int k a) = .returned (.int k b) := by rw [h]
theorem ret_bool {a b : Bool} (h : a = b) : Ending.returned (.bool a) = .returned (.bool b) := by rw [h]

/-- size: the word of a number without its sign. -/
def sz (n : Int) : Int := (n.natAbs : Int)

/-- The greatest common divisor. -/
def gcdI (a b : Int) : Int := (Int.gcd a b : Int)

theorem sz_nonneg (n : Int) : 0 ≤ sz n := by unfold sz; omega
theorem sz_le {n b : Int} (h1 : -b ≤ n) (h2 : n ≤ b) : sz n ≤ b := by unfold sz; omega
theorem sz_neg_wrap {n : Int} (h1 : -9223372036854775808 ≤ n) (h : n < 0) : IntKind.u64.wrap (-IntKind.u64.wrap n) = sz n := by
  unfold sz
  rw [IntKind.wrap_u64, IntKind.wrap_u64]; omega
theorem sz_pos {n : Int} (h : 0 ≤ n) : n = sz n := by unfold sz; omega
theorem sz_max {n : Int} (h1 : -9223372036854775808 ≤ n) (h2 : n ≤ 9223372036854775807) : sz n ≤ 9223372036854775808 := by unfold sz; omega

theorem gcdI_nonneg (a b : Int) : 0 ≤ gcdI a b := by unfold gcdI; omega
theorem gcdI_zero {a : Int} (h : 0 ≤ a) : gcdI a 0 = a := by unfold gcdI; rw [Int.gcd_zero_right]; omega
theorem gcdI_step {a b : Int} (ha : 0 ≤ a) (hb : 0 ≤ b) : gcdI b (a % b) = gcdI a b := by
  unfold gcdI
  obtain ⟨x, rfl⟩ := Int.eq_ofNat_of_zero_le ha
  obtain ⟨y, rfl⟩ := Int.eq_ofNat_of_zero_le hb
  rw [← Int.natCast_emod, Int.gcd_natCast_natCast, Int.gcd_natCast_natCast, Nat.gcd_comm x y, Nat.gcd_rec y x, Nat.gcd_comm]
theorem gcdI_sz (a b : Int) : gcdI (sz a) (sz b) = gcdI a b := by unfold gcdI sz; rw [Int.gcd_natCast_natCast]; rfl

/-- The error of a fraction: 3 (its form), 2 (too great), 0. -/
def ckF (n d : Int) : Int := if d ≤ 0 then 3 else if gcdI n d ≠ 1 then 3 else if 1000000000 < sz n then 2 else if 1000000000 < d then 2 else 0

/-- A number of an int. -/
def I64 (n : Int) : Prop := -9223372036854775808 ≤ n ∧ n ≤ 9223372036854775807

/-- The first error of fractions. -/
def ckFs : List (Int × Int) → Int
  | [] => 0
  | f :: l => if ckF f.1 f.2 ≠ 0 then ckF f.1 f.2 else ckFs l
theorem ckFs_snoc (l : List (Int × Int)) (f : Int × Int) (h : ckFs l = 0) : ckFs (l ++ [f]) = ckF f.1 f.2 := by
  induction l with
  | nil => simp only [ckFs, List.nil_append]; split <;> omega
  | cons g l ih =>
    simp only [ckFs, List.cons_append] at h ⊢
    split at h
    · contradiction
    · rename_i hg; rw [if_neg hg]; exact ih h
theorem ckFs_app (l m : List (Int × Int)) (h : ckFs l ≠ 0) : ckFs (l ++ m) = ckFs l := by
  induction l with
  | nil => simp [ckFs] at h
  | cons g l ih =>
    simp only [ckFs, List.cons_append] at h ⊢
    split
    · rfl
    · rename_i hg; rw [if_neg hg] at h; exact ih h

/-- A fraction in lowest terms (its parts), or the error 8. -/
def lowN (n d : Int) : Int × Int × Int :=
  if ckF ((if d < 0 then -n else n).tdiv (gcdI n d)) ((if d < 0 then -d else d).tdiv (gcdI n d)) ≠ 0 then (0, 0, 8)
  else ((if d < 0 then -n else n).tdiv (gcdI n d), (if d < 0 then -d else d).tdiv (gcdI n d), 0)
theorem gcdI_pos {n d : Int} (h : d ≠ 0) : 1 ≤ gcdI n d := by
  unfold gcdI
  have : Int.gcd n d ≠ 0 := by intro h0; exact h (Int.gcd_eq_zero_iff.1 h0).2
  omega
theorem gcdI_le {n d : Int} (h : d ≠ 0) : gcdI n d ≤ sz d := by
  unfold gcdI sz
  have : Int.gcd n d ≤ d.natAbs := Nat.le_of_dvd (by omega) (Int.gcd_dvd_natAbs_right n d)
  omega
theorem gcdI_neg_left (n d : Int) : gcdI (-n) d = gcdI n d := by unfold gcdI; rw [Int.neg_gcd]
theorem gcdI_neg_right (n d : Int) : gcdI n (-d) = gcdI n d := by unfold gcdI; rw [Int.gcd_neg]
theorem tdiv_bd {n g B : Int} (h1 : -B ≤ n) (h2 : n ≤ B) (hg : 1 ≤ g) : -B ≤ n.tdiv g ∧ n.tdiv g ≤ B := by
  have h : (n.tdiv g).natAbs ≤ n.natAbs := by rw [Int.natAbs_tdiv]; exact Nat.div_le_self _ _
  omega
theorem lowN_pos_ok {n d g : Int} (hg : g = gcdI n d) (hd : ¬ d < 0) (h : ckF (n.tdiv g) (d.tdiv g) = 0) : lowN n d = (n.tdiv g, d.tdiv g, 0) := by
  unfold lowN; rw [if_neg hd, if_neg hd, ← hg, if_neg (by simpa using h)]
theorem lowN_pos_no {n d g : Int} (hg : g = gcdI n d) (hd : ¬ d < 0) (h : ¬ ckF (n.tdiv g) (d.tdiv g) = 0) : lowN n d = (0, 0, 8) := by
  unfold lowN; rw [if_neg hd, if_neg hd, ← hg, if_pos h]
theorem lowN_neg_ok {n d g : Int} (hg : g = gcdI n d) (hd : d < 0) (h : ckF ((-n).tdiv g) ((-d).tdiv g) = 0) : lowN n d = ((-n).tdiv g, (-d).tdiv g, 0) := by
  unfold lowN; rw [if_pos hd, if_pos hd, ← hg, if_neg (by simpa using h)]
theorem lowN_neg_no {n d g : Int} (hg : g = gcdI n d) (hd : d < 0) (h : ¬ ckF ((-n).tdiv g) ((-d).tdiv g) = 0) : lowN n d = (0, 0, 8) := by
  unfold lowN; rw [if_pos hd, if_pos hd, ← hg, if_pos h]
theorem ckF_zero {n d : Int} (h : ckF n d = 0) : -1000000000 ≤ n ∧ n ≤ 1000000000 ∧ 1 ≤ d ∧ d ≤ 1000000000 ∧ gcdI n d = 1 := by
  unfold ckF sz at h
  (repeat' split at h) <;> first | contradiction | skip
  rename_i h1 h2 h3 h4
  have : gcdI n d = 1 := by simpa using h2
  omega
theorem ckFs_one (a : Int × Int) : ckFs [a] = ckF a.1 a.2 := by simp only [ckFs]; split <;> omega
theorem ckFs_two (a b : Int × Int) : ckFs [a, b] = if ckF a.1 a.2 ≠ 0 then ckF a.1 a.2 else ckF b.1 b.2 := by
  show (if ckF a.1 a.2 ≠ 0 then ckF a.1 a.2 else ckFs [b]) = _
  rw [ckFs_one]
theorem ckFs_two_zero {a b : Int × Int} (h : ckFs [a, b] = 0) : ckF a.1 a.2 = 0 ∧ ckF b.1 b.2 = 0 := by
  rw [ckFs_two] at h
  split at h
  · contradiction
  · rename_i h1; exact ⟨by simpa using h1, h⟩

/-- Bounds of a product. -/
theorem mul_bd {x y A B : Int} (hx : -A ≤ x) (hx' : x ≤ A) (hy : -B ≤ y) (hy' : y ≤ B) : -(A * B) ≤ x * y ∧ x * y ≤ A * B := by
  have hA : 0 ≤ A := by omega
  have hB : 0 ≤ B := by omega
  have h : (x * y).natAbs ≤ (A * B).natAbs := by
    rw [Int.natAbs_mul, Int.natAbs_mul]
    exact Nat.mul_le_mul (by omega) (by omega)
  have h2 : 0 ≤ A * B := Int.mul_nonneg hA hB
  omega
theorem mul_b9 {x y : Int} (hx : -1000000000 ≤ x) (hx' : x ≤ 1000000000) (hy : -1000000000 ≤ y) (hy' : y ≤ 1000000000) : -1000000000000000000 ≤ x * y ∧ x * y ≤ 1000000000000000000 :=
  mul_bd hx hx' hy hy'
theorem mul_pos9 {x y : Int} (hx : 1 ≤ x) (hy : 1 ≤ y) : 1 ≤ x * y := by
  have := Int.mul_pos (show 0 < x by omega) (show 0 < y by omega); omega

/-- The sum, the difference, the product, the quotient of fractions, or the error. -/
def addN (a b c d : Int) : Int × Int × Int := if ckFs [(a, b), (c, d)] ≠ 0 then (0, 0, ckFs [(a, b), (c, d)]) else lowN (a * d + c * b) (b * d)
def subN (a b c d : Int) : Int × Int × Int := if ckFs [(a, b), (c, d)] ≠ 0 then (0, 0, ckFs [(a, b), (c, d)]) else lowN (a * d - c * b) (b * d)
def mulN (a b c d : Int) : Int × Int × Int := if ckFs [(a, b), (c, d)] ≠ 0 then (0, 0, ckFs [(a, b), (c, d)]) else lowN (a * c) (b * d)
def quoN (a b c d : Int) : Int × Int × Int := if ckFs [(a, b), (c, d)] ≠ 0 then (0, 0, ckFs [(a, b), (c, d)]) else if c = 0 then (0, 0, 11) else lowN (a * d) (b * c)
def cmpI (a b : Int) : Int := if a < b then -1 else if b < a then 1 else 0
def cmpN (a b c d : Int) : Int × Int := if ckFs [(a, b), (c, d)] ≠ 0 then (0, ckFs [(a, b), (c, d)]) else (cmpI (a * d) (c * b), 0)

end Go.Proofs.Ytfnmnnbmhfbkbaa

/-! W01 -/
namespace Go.Proofs.Ytfnmnnbmhfbkbaa
open Go.RowKit

set_option maxHeartbeats 400000 in
theorem size_any (n : Int) (w : World) (h1 : -9223372036854775808 ≤ n) (h2 : n ≤ 9223372036854775807) :
    Calls Try.prog 87 #[.int .i64 n] w fun e w' => e = .returned (.int .u64 (sz n)) ∧ w = w' := by
  by_cases h : n < 0
  · go_enter Try.func87, Try.ntmps87
    go_wp2
    go_ret
    exact ⟨ret_int (sz_neg_wrap h1 h), rfl⟩
  · go_enter Try.func87, Try.ntmps87
    go_wp2
    go_ret
    exact ⟨ret_int (sz_pos (by omega)), rfl⟩

theorem size_q (n : Int) {w : World} {k : Nat} (h1 : -9223372036854775808 ≤ n) (h2 : n ≤ 9223372036854775807) :
    Calls Try.prog 87 #[.int .i64 n] (w.drewN k) fun e w'' => e = .returned (.int .u64 (sz n)) ∧ ∃ m, w'' = w.drewN m :=
  Calls.quiet_of_same ((size_any n _ h1 h2).mono fun _ _ hh => ⟨hh.1, hh.2.symm⟩)

set_option maxHeartbeats 400000 in
theorem divisor_any (a b : Int) (w : World) (ha : 0 ≤ a) (ha' : a ≤ 18446744073709551615) (hb : 0 ≤ b) (hb' : b ≤ 18446744073709551615) :
    Calls Try.prog 86 #[.int .u64 a, .int .u64 b] w fun e w' => e = .returned (.int .u64 (gcdI a b)) ∧ ∃ k, w' = w.drewN k := by
  go_enter Try.func86, Try.ntmps86
  go_wp2
  go_loopw [0, 1] (fun x y wr => ∃ p q : Int, 0 ≤ p ∧ p ≤ 18446744073709551615 ∧ 0 ≤ q ∧ q ≤ 18446744073709551615 ∧ x = .int .u64 p ∧ y = .int .u64 q ∧ Hid (gcdI p q = gcdI a b) ∧ ∃ k, wr = w.drewN k) (fun _ y _ => (intOf y).toNat)
  case atStart => exact ⟨a, b, ha, ha', hb, hb', rfl, rfl, rfl, 0, rfl⟩
  case round =>
    obtain ⟨p, q, hp, hp', hq, hq', rfl, rfl, HG, k, rfl⟩ := hrel
    by_cases h0 : q = 0
    · subst h0
      go_wp2
      go_ret
      exact ⟨ret_int (by rw [← HG.out]; exact (gcdI_zero hp).symm), k, rfl⟩
    · have hq1 : 1 ≤ q := by omega
      clear h0
      have hm1 : 0 ≤ p % q := Int.emod_nonneg _ (by omega)
      have hm2 : p % q < q := Int.emod_lt_of_pos _ (by omega)
      have HS := Lib.hid (gcdI_step (a := p) (b := q) hp hq)
      go_wp2
      go_region
      go_wp2
      go_roundw
      case rel => exact ⟨q, p % q, hq, hq', hm1, by omega, rfl, rfl, HS.out.trans HG.out, k + 1, rfl⟩
      case measure => simp [intOf]; omega

theorem bcell {W w1 : World} (hb : Below W.heap.size W w1) : (∀ b o, b < W.heap.size → w1.cell? ⟨b, o, none⟩ = W.cell? ⟨b, o, none⟩) ∧ (∀ b o, b < W.heap.size → w1.frozen? ⟨b, o, none⟩ = W.frozen? ⟨b, o, none⟩) :=
  ⟨fun b o h => hb.cell (p := ⟨b, o, none⟩) h, fun b o h => hb.frozen (p := ⟨b, o, none⟩) h⟩
theorem _root_.Go.RowKit.Below.drewN' {B : Nat} {a w : World} (h : Below B a w) (n : Nat) : Below B a (w.drewN n) := ⟨h.os, h.tape, h.output, h.size, h.block⟩
theorem below_drewN {B : Nat} {a w : World} (h : Below B a w) (n : Nat) : Below B a (w.drewN n) := ⟨h.os, h.tape, h.output, h.size, h.block⟩

set_option maxHeartbeats 1000000 in
theorem checkFrac_any (n d : Int) (w : World) (hn : -9223372036854775808 ≤ n) (hn' : n ≤ 9223372036854775807) (hd : -9223372036854775808 ≤ d) (hd' : d ≤ 9223372036854775807) :
    Calls Try.prog 26 #[.agg #[.int .i64 n, .int .i64 d]] w fun e w' => e = .returned (.int .i64 (ckF n d)) ∧ Below w.heap.size w w' := by
  by_cases h1 : d ≤ 0
  · have HR := Lib.hid (show ckF n d = 3 by unfold ckF; rw [if_pos h1])
    go_enter Try.func26, Try.ntmps26
    go_wp2
    go_quiet (fail)
    go_wp2
    go_ret
    exact ⟨ret_int HR.out.symm, below_drewN ((Below.refl _ _).alloc (Nat.le_refl _) _) _⟩
  · have s1 := sz_nonneg n
    have s2 := sz_max hn hn'
    have s3 := sz_nonneg d
    have s4 := sz_max hd hd'
    have h1' : 0 < d := by omega
    have hg0 := gcdI_nonneg n d
    have hgs := gcdI_nonneg (sz n) (sz d)
    by_cases h2 : gcdI n d = 1
    · have hb : (gcdI (sz n) (sz d) != 1) = false := by rw [gcdI_sz, h2]; rfl
      have HR := Lib.hid (show ckF n d = if 1000000000 < sz n then 2 else if 1000000000 < d then 2 else 0 by unfold ckF; rw [if_neg h1, if_neg (by simp [h2])])
      clear h2
      go_enter Try.func26, Try.ntmps26
      go_wp2
      go_quiet (first
        | (go_at_call 87; exact size_q _ (by omega) (by omega))
        | (go_at_call 86; exact Calls.quiet_of (divisor_any _ _ _ (by omega) (by omega) (by omega) (by omega))))
      go_wp2_with (go_at_call 87; refine (size_any _ _ hn hn').mono ?_; rintro e w' ⟨rfl, rfl⟩)
      all_goals
        go_ret
        exact ⟨ret_int (by rw [HR.out]; split <;> (try split) <;> omega), below_drewN ((Below.refl _ _).alloc (Nat.le_refl _) _) _⟩
    · have hb : (gcdI (sz n) (sz d) != 1) = true := by rw [gcdI_sz]; simpa using h2
      have HR := Lib.hid (show ckF n d = 3 by unfold ckF; rw [if_neg h1, if_pos h2])
      clear h2
      go_enter Try.func26, Try.ntmps26
      go_wp2
      go_quiet (first
        | (go_at_call 87; exact size_q _ (by omega) (by omega))
        | (go_at_call 86; exact Calls.quiet_of (divisor_any _ _ _ (by omega) (by omega) (by omega) (by omega))))
      go_wp2_with fail
      go_ret
      exact ⟨ret_int HR.out.symm, below_drewN ((Below.refl _ _).alloc (Nat.le_refl _) _) _⟩

end Go.Proofs.Ytfnmnnbmhfbkbaa

/-! Ret -/
namespace Go.Proofs.Ytfnmnnbmhfbkbaa
open Go.RowKit

theorem ret_frac {fn : Func} {p u : Tmp} (h : fn.results = #[.cell p 23, .tmp u]) (tmps : Array Value) (w : World) (b : Nat) (x y z : Value)
    (ht : tmps.getD p undef = .pointer (some ⟨b, 0, none⟩)) (hu : tmps.getD u undef = z) (h0 : w.cell? ⟨b, 0, none⟩ = some x) (h1 : w.cell? ⟨b, 1, none⟩ = some y) :
    (results fn tmps).run Try.prog w = .ok (.tuple #[.agg #[x, y], z]) w := by
  rw [results_cell_tmp h, ht, hu]
  simp [go_sem, h0, h1]

theorem ret_range {fn : Func} {p u : Tmp} (h : fn.results = #[.cell p 38, .tmp u]) (tmps : Array Value) (w : World) (b : Nat) (x y z : Value)
    (ht : tmps.getD p undef = .pointer (some ⟨b, 0, none⟩)) (hu : tmps.getD u undef = z) (h0 : w.cell? ⟨b, 0, none⟩ = some x) (h1 : w.cell? ⟨b, 1, none⟩ = some y) :
    (results fn tmps).run Try.prog w = .ok (.tuple #[.agg #[x, y], z]) w := by
  rw [results_cell_tmp h, ht, hu]
  simp [go_sem, h0, h1]

theorem results_cell1 {fn : Func} {p : Tmp} {ty : TypeId} (h : fn.results = #[.cell p ty]) (tmps : Array Value) (P : Program) (w : World) :
    (results fn tmps).run P w = ((asAddr (tmps.getD p undef)).run P w).andThen fun a w₁ => ((loadVar ty a).run P w₁).andThen fun v w₂ => .ok v w₂ := by
  simp only [results, h]
  simp [Sem.run_bind, Result.andThen]
  cases (asAddr (tmps[p]?.getD undef)).run P w with
  | ok a w1 => simp only; cases (loadVar ty a).run P w1 <;> rfl
  | halt a w1 => rfl
theorem ret_range1 {fn : Func} {p : Tmp} (h : fn.results = #[.cell p 38]) (tmps : Array Value) (w : World) (b : Nat) (x y : Value)
    (ht : tmps.getD p undef = .pointer (some ⟨b, 0, none⟩)) (h0 : w.cell? ⟨b, 0, none⟩ = some x) (h1 : w.cell? ⟨b, 1, none⟩ = some y) :
    (results fn tmps).run Try.prog w = .ok (.agg #[x, y]) w := by
  rw [results_cell1 h, ht]
  simp [go_sem, h0, h1]
theorem ret_frac1 {fn : Func} {p : Tmp} (h : fn.results = #[.cell p 23]) (tmps : Array Value) (w : World) (b : Nat) (x y : Value)
    (ht : tmps.getD p undef = .pointer (some ⟨b, 0, none⟩)) (h0 : w.cell? ⟨b, 0, none⟩ = some x) (h1 : w.cell? ⟨b, 1, none⟩ = some y) :
    (results fn tmps).run Try.prog w = .ok (.agg #[x, y]) w := by
  rw [results_cell1 h, ht]
  simp [go_sem, h0, h1]

/-- Two stores side by side. -/
theorem set2 {w : World} {b : Nat} {x y : Value} (u v : Value) (h0 : w.cell? ⟨b, 0, none⟩ = some x) (h1 : w.cell? ⟨b, 1, none⟩ = some y) :
    ((w.setCell ⟨b, 0, none⟩ u).setCell ⟨b, 1, none⟩ v).cell? ⟨b, 0, none⟩ = some u ∧ ((w.setCell ⟨b, 0, none⟩ u).setCell ⟨b, 1, none⟩ v).cell? ⟨b, 1, none⟩ = some v := by
  have e1 : (w.setCell ⟨b, 0, none⟩ u).cell? ⟨b, 0, none⟩ = some u := World.cell?_setCell_same' _ _ _ (by rw [h0]; rfl)
  have e2 : (w.setCell ⟨b, 0, none⟩ u).cell? ⟨b, 1, none⟩ = some y := by rw [World.cell?_setCell_other _ _ _ _ (by simp)]; exact h1
  exact ⟨by rw [World.cell?_setCell_other _ _ _ _ (by simp)]; exact e1, World.cell?_setCell_same' _ _ _ (by rw [e2]; rfl)⟩

end Go.Proofs.Ytfnmnnbmhfbkbaa

/-! W02 -/
namespace Go.Proofs.Ytfnmnnbmhfbkbaa
open Go.RowKit

theorem take_snoc' {α : Type} (l : List α) (k : Nat) (d x : α) (h : k < l.length) (hx : l[k]?.getD d = x) : l.take (k + 1) = l.take k ++ [x] := by
  rw [List.take_succ_eq_append_getElem h, ← hx]; simp [h]

set_option maxHeartbeats 1000000 in
theorem checkFracs_any (b n : Nat) (fs : List (Int × Int)) (w : World) (hb : b < w.heap.size) (hn : fs.length = n) (hn' : n ≤ 1000)
    (hI : ∀ k, k < n → I64 (fs[k]?.getD (0, 0)).1 ∧ I64 (fs[k]?.getD (0, 0)).2)
    (hc : ∀ k, k < n → w.cell? ⟨b, k * 2, none⟩ = some (.int .i64 (fs[k]?.getD (0, 0)).1) ∧ w.cell? ⟨b, k * 2 + 1, none⟩ = some (.int .i64 (fs[k]?.getD (0, 0)).2)) :
    Calls Try.prog 83 #[.slice (some ⟨b, 0, none⟩) n n] w fun e w' => e = .returned (.int .i64 (ckFs fs)) ∧ Below w.heap.size w w' := by
  have HN := Lib.hid hn
  clear hn
  go_enter Try.func83, Try.ntmps83
  go_wp2
  go_loopw [2, 8] (fun r i wr => ∃ k : Nat, k ≤ n ∧ i = .int .i64 k ∧ r = .int .i64 0 ∧ Hid (ckFs (fs.take k) = 0) ∧ Below w.heap.size w wr) (fun _ i _ => n - (intOf i).toNat)
  case atStart => exact ⟨0, by omega, rfl, rfl, by simp [Hid, ckFs], Below.refl _ _⟩
  case round =>
    obtain ⟨k, hk, rfl, rfl, HK, hB⟩ := hrel
    by_cases hlt : k < n
    · obtain ⟨hI1, hI2⟩ := hI k hlt
      obtain ⟨hc1, hc2⟩ := hc k hlt
      have hc1' := (hB.cell (p := ⟨b, k * 2, none⟩) hb).trans hc1
      have hc2' := (hB.cell (p := ⟨b, k * 2 + 1, none⟩) hb).trans hc2
      clear hI hc hc1 hc2
      have hb2 := hB.size
      generalize hf : fs[k]?.getD (0, 0) = f at *
      obtain ⟨p, q⟩ := f
      dsimp only at *
      have HT := Lib.hid (take_snoc' fs k _ _ (by rw [HN.out]; exact hlt) hf)
      clear hf
      by_cases he : ckF p q = 0
      · have he' : (ckF p q != 0) = false := by rw [he]; rfl
        have HE := Lib.hid he
        clear he
        go_wp2_with (go_at_call 26; refine (checkFrac_any _ _ _ hI1.1 hI1.2 hI2.1 hI2.2).mono ?_; rintro e w1 ⟨rfl, hB1⟩)
        go_roundw
        case rel => exact ⟨k + 1, by omega, by go_num, rfl, by rw [HT.out]; exact (ckFs_snoc _ _ HK.out).trans HE.out, (hB.alloc hB.size _).trans (hB1.mono (by simp; omega))⟩
        case measure => simp [intOf]; omega
      · have he' : (ckF p q != 0) = true := by simpa using he
        have HE := Lib.hid he
        clear he
        go_wp2_with (go_at_call 26; refine (checkFrac_any _ _ _ hI1.1 hI1.2 hI2.1 hI2.2).mono ?_; rintro e w1 ⟨rfl, hB1⟩)
        go_ret
        refine ⟨ret_int ?_, (hB.alloc hB.size _).trans (hB1.mono (by simp; omega))⟩
        have h1 := ckFs_snoc (fs.take k) (p, q) HK.out
        rw [← HT.out] at h1
        have h2 := ckFs_app (fs.take (k + 1)) (fs.drop (k + 1)) (by rw [h1]; exact HE.out)
        rw [List.take_append_drop] at h2
        exact (h2.trans h1).symm
    · obtain rfl : k = n := by omega
      go_wp2
      go_ret
      exact ⟨ret_int (by have := HK.out; rw [List.take_of_length_le (by rw [HN.out]; omega)] at this; exact this.symm), hB⟩

set_option maxHeartbeats 1000000 in
theorem lowest_pos (n d : Int) (w : World) (hn : -4000000000000000000 ≤ n) (hn' : n ≤ 4000000000000000000) (hd : 1 ≤ d) (hd' : d ≤ 4000000000000000000) :
    Calls Try.prog 84 #[.int .i64 n, .int .i64 d] w fun e w' => e = .returned (.tuple #[.agg #[.int .i64 (lowN n d).1, .int .i64 (lowN n d).2.1], .int .i64 (lowN n d).2.2]) ∧ Below w.heap.size w w' := by
  have s1 := sz_nonneg n
  have s2 := sz_le hn hn'
  have s3 := sz_nonneg d
  have s4 := sz_le (b := 4000000000000000000) (by omega) hd'
  have g1 := gcdI_pos (n := sz n) (d := sz d) (by unfold sz; omega)
  have g2 := gcdI_le (n := sz n) (d := sz d) (by unfold sz; omega)
  have g3 : sz (sz d) = sz d := by unfold sz; omega
  rw [g3] at g2
  clear g3
  have hdn : ¬ d < 0 := by omega
  have q1 := tdiv_bd hn hn' g1
  have q2 := tdiv_bd (n := d) (B := 4000000000000000000) (by omega) hd' g1
  have HG := Lib.hid (gcdI_sz n d)
  generalize hg : gcdI (sz n) (sz d) = g at *
  have HGG := Lib.hid hg
  clear hg
  go_enter Try.func84, Try.ntmps84
  go_wp2_with (first
    | (go_at_call 87; refine (size_any _ _ (by omega) (by omega)).mono ?_; rintro e w' ⟨rfl, rfl⟩)
    | (go_at_call 86; refine (divisor_any _ _ _ (by omega) (by omega) (by omega) (by omega)).mono ?_; rintro e w' ⟨rfl, kd, rfl⟩; rw [HGG.out]))
  by_cases he : ckF (n.tdiv g) (d.tdiv g) = 0
  · have he' : (ckF (n.tdiv g) (d.tdiv g) != 0) = false := by rw [he]; rfl
    have HE := Lib.hid he
    clear he
    go_region
    go_wp2_with (go_at_call 26; refine (checkFrac_any _ _ _ (by omega) (by omega) (by omega) (by omega)).mono ?_; rintro e w1 ⟨rfl, hB1⟩; obtain ⟨hc1, hf1⟩ := bcell hB1; have hz1 := hB1.size)
    obtain ⟨r0, r1⟩ := set2 (w := w1) (b := w.heap.size) (.int .i64 (n.tdiv g)) (.int .i64 (d.tdiv g)) (by rw [hc1 _ _ (by simp; omega)]; simp [go_sem, World.cell?_alloc_past]; rfl) (by rw [hc1 _ _ (by simp; omega)]; simp [go_sem, World.cell?_alloc_past]; rfl)
    refine bodyPost_ret (ret_frac rfl _ _ _ _ _ _ rfl rfl r0 r1) rfl ⟨?_, ?_⟩
    · rw [lowN_pos_ok HG.out (by omega) HE.out]; rfl
    · exact (((((Below.refl w.heap.size w).alloc (Nat.le_refl _) _).drewN' _).alloc (by simp) _).trans (hB1.mono (by simp; omega))).setCell (Nat.le_refl _) _ |>.setCell (Nat.le_refl _) _
  · have he' : (ckF (n.tdiv g) (d.tdiv g) != 0) = true := by simpa using he
    have HE := Lib.hid he
    clear he
    go_region
    go_wp2_with (go_at_call 26; refine (checkFrac_any _ _ _ (by omega) (by omega) (by omega) (by omega)).mono ?_; rintro e w1 ⟨rfl, hB1⟩; obtain ⟨hc1, hf1⟩ := bcell hB1; have hz1 := hB1.size)
    obtain ⟨r0, r1⟩ := set2 (w := w1) (b := w.heap.size) (.int .i64 0) (.int .i64 0) (by rw [hc1 _ _ (by simp; omega)]; simp [go_sem, World.cell?_alloc_past]; rfl) (by rw [hc1 _ _ (by simp; omega)]; simp [go_sem, World.cell?_alloc_past]; rfl)
    refine bodyPost_ret (ret_frac rfl _ _ _ _ _ _ rfl rfl r0 r1) rfl ⟨?_, ?_⟩
    · rw [lowN_pos_no HG.out (by omega) HE.out]; rfl
    · exact (((((Below.refl w.heap.size w).alloc (Nat.le_refl _) _).drewN' _).alloc (by simp) _).trans (hB1.mono (by simp; omega))).setCell (Nat.le_refl _) _ |>.setCell (Nat.le_refl _) _

set_option maxHeartbeats 1000000 in
theorem lowest_neg (n d : Int) (w : World) (hn : -4000000000000000000 ≤ n) (hn' : n ≤ 4000000000000000000) (hd : -4000000000000000000 ≤ d) (hd' : d ≤ -1) :
    Calls Try.prog 84 #[.int .i64 n, .int .i64 d] w fun e w' => e = .returned (.tuple #[.agg #[.int .i64 (lowN n d).1, .int .i64 (lowN n d).2.1], .int .i64 (lowN n d).2.2]) ∧ Below w.heap.size w w' := by
  have s1 := sz_nonneg (-n)
  have s2 := sz_le (n := -n) (b := 4000000000000000000) (by omega) (by omega)
  have s3 := sz_nonneg (-d)
  have s4 := sz_le (n := -d) (b := 4000000000000000000) (by omega) (by omega)
  have g1 := gcdI_pos (n := sz (-n)) (d := sz (-d)) (by unfold sz; omega)
  have g2 := gcdI_le (n := sz (-n)) (d := sz (-d)) (by unfold sz; omega)
  have g3 : sz (sz (-d)) = sz (-d) := by unfold sz; omega
  rw [g3] at g2
  clear g3
  have hdn : d < 0 := by omega
  have q1 := tdiv_bd (n := -n) (B := 4000000000000000000) (by omega) (by omega) g1
  have q2 := tdiv_bd (n := -d) (B := 4000000000000000000) (by omega) (by omega) g1
  have HG := Lib.hid ((gcdI_sz (-n) (-d)).trans ((gcdI_neg_left _ _).trans (gcdI_neg_right _ _)))
  generalize hg : gcdI (sz (-n)) (sz (-d)) = g at *
  have HGG := Lib.hid hg
  clear hg
  go_enter Try.func84, Try.ntmps84
  go_wp2_with (first
    | (go_at_call 87; refine (size_any _ _ (by omega) (by omega)).mono ?_; rintro e w' ⟨rfl, rfl⟩)
    | (go_at_call 86; refine (divisor_any _ _ _ (by omega) (by omega) (by omega) (by omega)).mono ?_; rintro e w' ⟨rfl, kd, rfl⟩; rw [HGG.out]))
  have HA := Lib.hid (fun (h : ckF ((-n).tdiv g) ((-d).tdiv g) = 0) => lowN_neg_ok HG.out hdn h)
  have HB := Lib.hid (fun (h : ¬ ckF ((-n).tdiv g) ((-d).tdiv g) = 0) => lowN_neg_no HG.out hdn h)
  generalize -n = n' at *
  generalize -d = d' at *
  by_cases he : ckF (n'.tdiv g) (d'.tdiv g) = 0
  · have he' : (ckF (n'.tdiv g) (d'.tdiv g) != 0) = false := by rw [he]; rfl
    have HE := Lib.hid he
    clear he
    go_region
    go_wp2_with (go_at_call 26; refine (checkFrac_any _ _ _ (by omega) (by omega) (by omega) (by omega)).mono ?_; rintro e w1 ⟨rfl, hB1⟩; obtain ⟨hc1, hf1⟩ := bcell hB1; have hz1 := hB1.size)
    obtain ⟨r0, r1⟩ := set2 (w := w1) (b := w.heap.size) (.int .i64 (n'.tdiv g)) (.int .i64 (d'.tdiv g)) (by rw [hc1 _ _ (by simp; omega)]; simp [go_sem, World.cell?_alloc_past]; rfl) (by rw [hc1 _ _ (by simp; omega)]; simp [go_sem, World.cell?_alloc_past]; rfl)
    refine bodyPost_ret (ret_frac rfl _ _ _ _ _ _ rfl rfl r0 r1) rfl ⟨?_, ?_⟩
    · rw [HA.out HE.out]; rfl
    · exact (((((Below.refl w.heap.size w).alloc (Nat.le_refl _) _).drewN' _).alloc (by simp) _).trans (hB1.mono (by simp; omega))).setCell (Nat.le_refl _) _ |>.setCell (Nat.le_refl _) _
  · have he' : (ckF (n'.tdiv g) (d'.tdiv g) != 0) = true := by simpa using he
    have HE := Lib.hid he
    clear he
    go_region
    go_wp2_with (go_at_call 26; refine (checkFrac_any _ _ _ (by omega) (by omega) (by omega) (by omega)).mono ?_; rintro e w1 ⟨rfl, hB1⟩; obtain ⟨hc1, hf1⟩ := bcell hB1; have hz1 := hB1.size)
    obtain ⟨r0, r1⟩ := set2 (w := w1) (b := w.heap.size) (.int .i64 0) (.int .i64 0) (by rw [hc1 _ _ (by simp; omega)]; simp [go_sem, World.cell?_alloc_past]; rfl) (by rw [hc1 _ _ (by simp; omega)]; simp [go_sem, World.cell?_alloc_past]; rfl)
    refine bodyPost_ret (ret_frac rfl _ _ _ _ _ _ rfl rfl r0 r1) rfl ⟨?_, ?_⟩
    · rw [HB.out HE.out]; rfl
    · exact (((((Below.refl w.heap.size w).alloc (Nat.le_refl _) _).drewN' _).alloc (by simp) _).trans (hB1.mono (by simp; omega))).setCell (Nat.le_refl _) _ |>.setCell (Nat.le_refl _) _

theorem lowest_any (n d : Int) (w : World) (hn : -4000000000000000000 ≤ n) (hn' : n ≤ 4000000000000000000) (hd : -4000000000000000000 ≤ d) (hd' : d ≤ 4000000000000000000) (h0 : d ≠ 0) :
    Calls Try.prog 84 #[.int .i64 n, .int .i64 d] w fun e w' => e = .returned (.tuple #[.agg #[.int .i64 (lowN n d).1, .int .i64 (lowN n d).2.1], .int .i64 (lowN n d).2.2]) ∧ Below w.heap.size w w' := by
  by_cases h : d < 0
  · exact lowest_neg n d w hn hn' hd (by omega)
  · exact lowest_pos n d w hn hn' (by omega) hd'

end Go.Proofs.Ytfnmnnbmhfbkbaa

/-! W03 -/
namespace Go.Proofs.Ytfnmnnbmhfbkbaa
open Go.RowKit

theorem checkFracs1 (a b : Int) (g : Nat) (w : World) (hg : g < w.heap.size) (ha : I64 a) (hb : I64 b)
    (h0 : w.cell? ⟨g, 0, none⟩ = some (.int .i64 a)) (h1 : w.cell? ⟨g, 1, none⟩ = some (.int .i64 b)) :
    Calls Try.prog 83 #[.slice (some ⟨g, 0, none⟩) 1 1] w fun e w' => e = .returned (.int .i64 (ckFs [(a, b)])) ∧ Below w.heap.size w w' :=
  checkFracs_any g 1 [(a, b)] w hg rfl (by omega) (fun k hk => by obtain rfl : k = 0 := by omega
                                                                  exact ⟨ha, hb⟩)
    (fun k hk => by obtain rfl : k = 0 := by omega
                    exact ⟨h0, h1⟩)
theorem checkFracs2 (a b c d : Int) (g : Nat) (w : World) (hg : g < w.heap.size) (ha : I64 a) (hb : I64 b) (hc : I64 c) (hd : I64 d)
    (h0 : w.cell? ⟨g, 0, none⟩ = some (.int .i64 a)) (h1 : w.cell? ⟨g, 1, none⟩ = some (.int .i64 b)) (h2 : w.cell? ⟨g, 2, none⟩ = some (.int .i64 c)) (h3 : w.cell? ⟨g, 3, none⟩ = some (.int .i64 d)) :
    Calls Try.prog 83 #[.slice (some ⟨g, 0, none⟩) 2 2] w fun e w' => e = .returned (.int .i64 (ckFs [(a, b), (c, d)])) ∧ Below w.heap.size w w' :=
  checkFracs_any g 2 [(a, b), (c, d)] w hg rfl (by omega)
    (fun k hk => by
      rcases Nat.lt_or_ge k 1 with h | h
      · obtain rfl : k = 0 := by omega
        exact ⟨ha, hb⟩
      · obtain rfl : k = 1 := by omega
        exact ⟨hc, hd⟩)
    (fun k hk => by
      rcases Nat.lt_or_ge k 1 with h | h
      · obtain rfl : k = 0 := by omega
        exact ⟨h0, h1⟩
      · obtain rfl : k = 1 := by omega
        exact ⟨h2, h3⟩)

set_option maxHeartbeats 1000000 in
theorem add_any (a b c d : Int) (w : World) (ha : I64 a) (hb : I64 b) (hc : I64 c) (hd : I64 d) :
    Calls Try.prog 21 #[.agg #[.int .i64 a, .int .i64 b], .agg #[.int .i64 c, .int .i64 d]] w fun e w' => e = .returned (.tuple #[.agg #[.int .i64 (addN a b c d).1, .int .i64 (addN a b c d).2.1], .int .i64 (addN a b c d).2.2]) ∧ Below w.heap.size w w' := by
  by_cases he : ckFs [(a, b), (c, d)] = 0
  · have he' : (ckFs [(a, b), (c, d)] != 0) = false := by rw [he]; rfl
    have HR := Lib.hid (show addN a b c d = lowN (a * d + c * b) (b * d) by unfold addN; rw [if_neg (by simpa using he)])
    obtain ⟨z1, z2⟩ := ckFs_two_zero he
    obtain ⟨a1, a2, b1, b2, _⟩ := ckF_zero z1
    obtain ⟨c1, c2, d1, d2, _⟩ := ckF_zero z2
    dsimp only at a1 a2 b1 b2 c1 c2 d1 d2
    clear z1 z2 he
    have m1 := mul_b9 a1 a2 (y := d) (by omega) (by omega)
    have m2 := mul_b9 c1 c2 (y := b) (by omega) (by omega)
    have m3 := mul_b9 (x := b) (y := d) (by omega) (by omega) (by omega) (by omega)
    have m4 := mul_pos9 b1 d1
    have m5 := mul_b9 a1 a2 c1 c2
    go_enter Try.func21, Try.ntmps21
    go_wp2_with (first
      | (go_at_call 83; refine (checkFracs2 a b c d _ _ (by simp) ha hb hc hd (by simp [go_sem, World.cell?_alloc_past]) (by simp [go_sem, World.cell?_alloc_past]) (by simp [go_sem, World.cell?_alloc_past]) (by simp [go_sem, World.cell?_alloc_past])).mono ?_; rintro e w1 ⟨rfl, hB1⟩; obtain ⟨hc1, hf1⟩ := bcell hB1; have hz1 : w.heap.size + 4 ≤ w1.heap.size := (by have := hB1.size; simp at this; omega); have k0 : w1.cell? ⟨w.heap.size + 1 + 1, 0, none⟩ = some (.int .i64 0) := (by rw [hc1 _ _ (by simp)]; simp [go_sem, World.cell?_alloc_past]); have k1 : w1.cell? ⟨w.heap.size + 1 + 1, 1, none⟩ = some (.int .i64 0) := (by rw [hc1 _ _ (by simp)]; simp [go_sem, World.cell?_alloc_past]); have k2 : w1.frozen? ⟨w.heap.size + 1 + 1, 0, none⟩ = false := (by rw [hf1 _ _ (by simp)]; simp [go_sem, World.frozen?_alloc_past]); have k3 : w1.frozen? ⟨w.heap.size + 1 + 1, 1, none⟩ = false := (by rw [hf1 _ _ (by simp)]; simp [go_sem, World.frozen?_alloc_past]))
      | (go_at_call 84; refine (lowest_any _ _ _ (by omega) (by omega) (by omega) (by omega) (by omega)).mono ?_; rintro e w2 ⟨rfl, hB2⟩; obtain ⟨hc2, hf2⟩ := bcell hB2; have hz2 := hB2.size; have j0 := (hc2 (w.heap.size + 1 + 1) 0 (by omega)).trans k0; have j1 := (hc2 (w.heap.size + 1 + 1) 1 (by omega)).trans k1; have j2 := (hf2 (w.heap.size + 1 + 1) 0 (by omega)).trans k2; have j3 := (hf2 (w.heap.size + 1 + 1) 1 (by omega)).trans k3))
    obtain ⟨r0, r1⟩ := set2 (w := w2) (b := w.heap.size + 1 + 1) (x := .int .i64 0) (y := .int .i64 0) (.int .i64 (lowN (a * d + c * b) (b * d)).1) (.int .i64 (lowN (a * d + c * b) (b * d)).2.1)
      j0 j1
    refine bodyPost_ret (ret_frac rfl _ _ _ _ _ _ rfl rfl r0 r1) rfl ⟨by rw [HR.out]; rfl, ?_⟩
    exact (((((((((Below.refl w.heap.size w).alloc (Nat.le_refl _) _).alloc (by simp) _).alloc (by simp; omega) _).alloc (by simp; omega) _).trans (hB1.mono (by simp; omega))).trans (hB2.mono (by omega))).setCell (by simp; omega) _).setCell (by simp; omega) _)
  · have he' : (ckFs [(a, b), (c, d)] != 0) = true := by simpa using he
    have HR := Lib.hid (show addN a b c d = (0, 0, ckFs [(a, b), (c, d)]) by unfold addN; rw [if_pos he])
    clear he
    go_enter Try.func21, Try.ntmps21
    go_wp2_with (go_at_call 83; refine (checkFracs2 a b c d _ _ (by simp) ha hb hc hd (by simp [go_sem, World.cell?_alloc_past]) (by simp [go_sem, World.cell?_alloc_past]) (by simp [go_sem, World.cell?_alloc_past]) (by simp [go_sem, World.cell?_alloc_past])).mono ?_; rintro e w1 ⟨rfl, hB1⟩; obtain ⟨hc1, hf1⟩ := bcell hB1; have hz1 : w.heap.size + 4 ≤ w1.heap.size := (by have := hB1.size; simp at this; omega); have k0 : w1.cell? ⟨w.heap.size + 1 + 1, 0, none⟩ = some (.int .i64 0) := (by rw [hc1 _ _ (by simp)]; simp [go_sem, World.cell?_alloc_past]); have k1 : w1.cell? ⟨w.heap.size + 1 + 1, 1, none⟩ = some (.int .i64 0) := (by rw [hc1 _ _ (by simp)]; simp [go_sem, World.cell?_alloc_past]); have k2 : w1.frozen? ⟨w.heap.size + 1 + 1, 0, none⟩ = false := (by rw [hf1 _ _ (by simp)]; simp [go_sem, World.frozen?_alloc_past]); have k3 : w1.frozen? ⟨w.heap.size + 1 + 1, 1, none⟩ = false := (by rw [hf1 _ _ (by simp)]; simp [go_sem, World.frozen?_alloc_past]))
    obtain ⟨r0, r1⟩ := set2 (w := w1) (b := w.heap.size + 1 + 1) (x := .int .i64 0) (y := .int .i64 0) (.int .i64 0) (.int .i64 0)
      k0 k1
    refine bodyPost_ret (ret_frac rfl _ _ _ _ _ _ rfl rfl r0 r1) rfl ⟨by rw [HR.out]; rfl, ?_⟩
    exact ((((((((Below.refl w.heap.size w).alloc (Nat.le_refl _) _).alloc (by simp) _).alloc (by simp; omega) _).alloc (by simp; omega) _).trans (hB1.mono (by simp; omega))).setCell (by simp; omega) _).setCell (by simp; omega) _)

set_option maxHeartbeats 1000000 in
theorem sub_any (a b c d : Int) (w : World) (ha : I64 a) (hb : I64 b) (hc : I64 c) (hd : I64 d) :
    Calls Try.prog 22 #[.agg #[.int .i64 a, .int .i64 b], .agg #[.int .i64 c, .int .i64 d]] w fun e w' => e = .returned (.tuple #[.agg #[.int .i64 (subN a b c d).1, .int .i64 (subN a b c d).2.1], .int .i64 (subN a b c d).2.2]) ∧ Below w.heap.size w w' := by
  by_cases he : ckFs [(a, b), (c, d)] = 0
  · have he' : (ckFs [(a, b), (c, d)] != 0) = false := by rw [he]; rfl
    have HR := Lib.hid (show subN a b c d = lowN (a * d - c * b) (b * d) by unfold subN; rw [if_neg (by simpa using he)])
    obtain ⟨z1, z2⟩ := ckFs_two_zero he
    obtain ⟨a1, a2, b1, b2, _⟩ := ckF_zero z1
    obtain ⟨c1, c2, d1, d2, _⟩ := ckF_zero z2
    dsimp only at a1 a2 b1 b2 c1 c2 d1 d2
    clear z1 z2 he
    have m1 := mul_b9 a1 a2 (y := d) (by omega) (by omega)
    have m2 := mul_b9 c1 c2 (y := b) (by omega) (by omega)
    have m3 := mul_b9 (x := b) (y := d) (by omega) (by omega) (by omega) (by omega)
    have m4 := mul_pos9 b1 d1
    have m5 := mul_b9 a1 a2 c1 c2
    go_enter Try.func22, Try.ntmps22
    go_wp2_with (first
      | (go_at_call 83; refine (checkFracs2 a b c d _ _ (by simp) ha hb hc hd (by simp [go_sem, World.cell?_alloc_past]) (by simp [go_sem, World.cell?_alloc_past]) (by simp [go_sem, World.cell?_alloc_past]) (by simp [go_sem, World.cell?_alloc_past])).mono ?_; rintro e w1 ⟨rfl, hB1⟩; obtain ⟨hc1, hf1⟩ := bcell hB1; have hz1 : w.heap.size + 4 ≤ w1.heap.size := (by have := hB1.size; simp at this; omega); have k0 : w1.cell? ⟨w.heap.size + 1 + 1, 0, none⟩ = some (.int .i64 0) := (by rw [hc1 _ _ (by simp)]; simp [go_sem, World.cell?_alloc_past]); have k1 : w1.cell? ⟨w.heap.size + 1 + 1, 1, none⟩ = some (.int .i64 0) := (by rw [hc1 _ _ (by simp)]; simp [go_sem, World.cell?_alloc_past]); have k2 : w1.frozen? ⟨w.heap.size + 1 + 1, 0, none⟩ = false := (by rw [hf1 _ _ (by simp)]; simp [go_sem, World.frozen?_alloc_past]); have k3 : w1.frozen? ⟨w.heap.size + 1 + 1, 1, none⟩ = false := (by rw [hf1 _ _ (by simp)]; simp [go_sem, World.frozen?_alloc_past]))
      | (go_at_call 84; refine (lowest_any _ _ _ (by omega) (by omega) (by omega) (by omega) (by omega)).mono ?_; rintro e w2 ⟨rfl, hB2⟩; obtain ⟨hc2, hf2⟩ := bcell hB2; have hz2 := hB2.size; have j0 := (hc2 (w.heap.size + 1 + 1) 0 (by omega)).trans k0; have j1 := (hc2 (w.heap.size + 1 + 1) 1 (by omega)).trans k1; have j2 := (hf2 (w.heap.size + 1 + 1) 0 (by omega)).trans k2; have j3 := (hf2 (w.heap.size + 1 + 1) 1 (by omega)).trans k3))
    obtain ⟨r0, r1⟩ := set2 (w := w2) (b := w.heap.size + 1 + 1) (x := .int .i64 0) (y := .int .i64 0) (.int .i64 (lowN (a * d - c * b) (b * d)).1) (.int .i64 (lowN (a * d - c * b) (b * d)).2.1)
      j0 j1
    refine bodyPost_ret (ret_frac rfl _ _ _ _ _ _ rfl rfl r0 r1) rfl ⟨by rw [HR.out]; rfl, ?_⟩
    exact (((((((((Below.refl w.heap.size w).alloc (Nat.le_refl _) _).alloc (by simp) _).alloc (by simp; omega) _).alloc (by simp; omega) _).trans (hB1.mono (by simp; omega))).trans (hB2.mono (by omega))).setCell (by simp; omega) _).setCell (by simp; omega) _)
  · have he' : (ckFs [(a, b), (c, d)] != 0) = true := by simpa using he
    have HR := Lib.hid (show subN a b c d = (0, 0, ckFs [(a, b), (c, d)]) by unfold subN; rw [if_pos he])
    clear he
    go_enter Try.func22, Try.ntmps22
    go_wp2_with (go_at_call 83; refine (checkFracs2 a b c d _ _ (by simp) ha hb hc hd (by simp [go_sem, World.cell?_alloc_past]) (by simp [go_sem, World.cell?_alloc_past]) (by simp [go_sem, World.cell?_alloc_past]) (by simp [go_sem, World.cell?_alloc_past])).mono ?_; rintro e w1 ⟨rfl, hB1⟩; obtain ⟨hc1, hf1⟩ := bcell hB1; have hz1 : w.heap.size + 4 ≤ w1.heap.size := (by have := hB1.size; simp at this; omega); have k0 : w1.cell? ⟨w.heap.size + 1 + 1, 0, none⟩ = some (.int .i64 0) := (by rw [hc1 _ _ (by simp)]; simp [go_sem, World.cell?_alloc_past]); have k1 : w1.cell? ⟨w.heap.size + 1 + 1, 1, none⟩ = some (.int .i64 0) := (by rw [hc1 _ _ (by simp)]; simp [go_sem, World.cell?_alloc_past]); have k2 : w1.frozen? ⟨w.heap.size + 1 + 1, 0, none⟩ = false := (by rw [hf1 _ _ (by simp)]; simp [go_sem, World.frozen?_alloc_past]); have k3 : w1.frozen? ⟨w.heap.size + 1 + 1, 1, none⟩ = false := (by rw [hf1 _ _ (by simp)]; simp [go_sem, World.frozen?_alloc_past]))
    obtain ⟨r0, r1⟩ := set2 (w := w1) (b := w.heap.size + 1 + 1) (x := .int .i64 0) (y := .int .i64 0) (.int .i64 0) (.int .i64 0)
      k0 k1
    refine bodyPost_ret (ret_frac rfl _ _ _ _ _ _ rfl rfl r0 r1) rfl ⟨by rw [HR.out]; rfl, ?_⟩
    exact ((((((((Below.refl w.heap.size w).alloc (Nat.le_refl _) _).alloc (by simp) _).alloc (by simp; omega) _).alloc (by simp; omega) _).trans (hB1.mono (by simp; omega))).setCell (by simp; omega) _).setCell (by simp; omega) _)

set_option maxHeartbeats 1000000 in
theorem mul_any (a b c d : Int) (w : World) (ha : I64 a) (hb : I64 b) (hc : I64 c) (hd : I64 d) :
    Calls Try.prog 23 #[.agg #[.int .i64 a, .int .i64 b], .agg #[.int .i64 c, .int .i64 d]] w fun e w' => e = .returned (.tuple #[.agg #[.int .i64 (mulN a b c d).1, .int .i64 (mulN a b c d).2.1], .int .i64 (mulN a b c d).2.2]) ∧ Below w.heap.size w w' := by
  by_cases he : ckFs [(a, b), (c, d)] = 0
  · have he' : (ckFs [(a, b), (c, d)] != 0) = false := by rw [he]; rfl
    have HR := Lib.hid (show mulN a b c d = lowN (a * c) (b * d) by unfold mulN; rw [if_neg (by simpa using he)])
    obtain ⟨z1, z2⟩ := ckFs_two_zero he
    obtain ⟨a1, a2, b1, b2, _⟩ := ckF_zero z1
    obtain ⟨c1, c2, d1, d2, _⟩ := ckF_zero z2
    dsimp only at a1 a2 b1 b2 c1 c2 d1 d2
    clear z1 z2 he
    have m1 := mul_b9 a1 a2 (y := d) (by omega) (by omega)
    have m2 := mul_b9 c1 c2 (y := b) (by omega) (by omega)
    have m3 := mul_b9 (x := b) (y := d) (by omega) (by omega) (by omega) (by omega)
    have m4 := mul_pos9 b1 d1
    have m5 := mul_b9 a1 a2 c1 c2
    go_enter Try.func23, Try.ntmps23
    go_wp2_with (first
      | (go_at_call 83; refine (checkFracs2 a b c d _ _ (by simp) ha hb hc hd (by simp [go_sem, World.cell?_alloc_past]) (by simp [go_sem, World.cell?_alloc_past]) (by simp [go_sem, World.cell?_alloc_past]) (by simp [go_sem, World.cell?_alloc_past])).mono ?_; rintro e w1 ⟨rfl, hB1⟩; obtain ⟨hc1, hf1⟩ := bcell hB1; have hz1 : w.heap.size + 4 ≤ w1.heap.size := (by have := hB1.size; simp at this; omega); have k0 : w1.cell? ⟨w.heap.size + 1 + 1, 0, none⟩ = some (.int .i64 0) := (by rw [hc1 _ _ (by simp)]; simp [go_sem, World.cell?_alloc_past]); have k1 : w1.cell? ⟨w.heap.size + 1 + 1, 1, none⟩ = some (.int .i64 0) := (by rw [hc1 _ _ (by simp)]; simp [go_sem, World.cell?_alloc_past]); have k2 : w1.frozen? ⟨w.heap.size + 1 + 1, 0, none⟩ = false := (by rw [hf1 _ _ (by simp)]; simp [go_sem, World.frozen?_alloc_past]); have k3 : w1.frozen? ⟨w.heap.size + 1 + 1, 1, none⟩ = false := (by rw [hf1 _ _ (by simp)]; simp [go_sem, World.frozen?_alloc_past]))
      | (go_at_call 84; refine (lowest_any _ _ _ (by omega) (by omega) (by omega) (by omega) (by omega)).mono ?_; rintro e w2 ⟨rfl, hB2⟩; obtain ⟨hc2, hf2⟩ := bcell hB2; have hz2 := hB2.size; have j0 := (hc2 (w.heap.size + 1 + 1) 0 (by omega)).trans k0; have j1 := (hc2 (w.heap.size + 1 + 1) 1 (by omega)).trans k1; have j2 := (hf2 (w.heap.size + 1 + 1) 0 (by omega)).trans k2; have j3 := (hf2 (w.heap.size + 1 + 1) 1 (by omega)).trans k3))
    obtain ⟨r0, r1⟩ := set2 (w := w2) (b := w.heap.size + 1 + 1) (x := .int .i64 0) (y := .int .i64 0) (.int .i64 (lowN (a * c) (b * d)).1) (.int .i64 (lowN (a * c) (b * d)).2.1)
      j0 j1
    refine bodyPost_ret (ret_frac rfl _ _ _ _ _ _ rfl rfl r0 r1) rfl ⟨by rw [HR.out]; rfl, ?_⟩
    exact (((((((((Below.refl w.heap.size w).alloc (Nat.le_refl _) _).alloc (by simp) _).alloc (by simp; omega) _).alloc (by simp; omega) _).trans (hB1.mono (by simp; omega))).trans (hB2.mono (by omega))).setCell (by simp; omega) _).setCell (by simp; omega) _)
  · have he' : (ckFs [(a, b), (c, d)] != 0) = true := by simpa using he
    have HR := Lib.hid (show mulN a b c d = (0, 0, ckFs [(a, b), (c, d)]) by unfold mulN; rw [if_pos he])
    clear he
    go_enter Try.func23, Try.ntmps23
    go_wp2_with (go_at_call 83; refine (checkFracs2 a b c d _ _ (by simp) ha hb hc hd (by simp [go_sem, World.cell?_alloc_past]) (by simp [go_sem, World.cell?_alloc_past]) (by simp [go_sem, World.cell?_alloc_past]) (by simp [go_sem, World.cell?_alloc_past])).mono ?_; rintro e w1 ⟨rfl, hB1⟩; obtain ⟨hc1, hf1⟩ := bcell hB1; have hz1 : w.heap.size + 4 ≤ w1.heap.size := (by have := hB1.size; simp at this; omega); have k0 : w1.cell? ⟨w.heap.size + 1 + 1, 0, none⟩ = some (.int .i64 0) := (by rw [hc1 _ _ (by simp)]; simp [go_sem, World.cell?_alloc_past]); have k1 : w1.cell? ⟨w.heap.size + 1 + 1, 1, none⟩ = some (.int .i64 0) := (by rw [hc1 _ _ (by simp)]; simp [go_sem, World.cell?_alloc_past]); have k2 : w1.frozen? ⟨w.heap.size + 1 + 1, 0, none⟩ = false := (by rw [hf1 _ _ (by simp)]; simp [go_sem, World.frozen?_alloc_past]); have k3 : w1.frozen? ⟨w.heap.size + 1 + 1, 1, none⟩ = false := (by rw [hf1 _ _ (by simp)]; simp [go_sem, World.frozen?_alloc_past]))
    obtain ⟨r0, r1⟩ := set2 (w := w1) (b := w.heap.size + 1 + 1) (x := .int .i64 0) (y := .int .i64 0) (.int .i64 0) (.int .i64 0)
      k0 k1
    refine bodyPost_ret (ret_frac rfl _ _ _ _ _ _ rfl rfl r0 r1) rfl ⟨by rw [HR.out]; rfl, ?_⟩
    exact ((((((((Below.refl w.heap.size w).alloc (Nat.le_refl _) _).alloc (by simp) _).alloc (by simp; omega) _).alloc (by simp; omega) _).trans (hB1.mono (by simp; omega))).setCell (by simp; omega) _).setCell (by simp; omega) _)

set_option maxHeartbeats 1000000 in
theorem quo_any (a b c d : Int) (w : World) (ha : I64 a) (hb : I64 b) (hc : I64 c) (hd : I64 d) :
    Calls Try.prog 24 #[.agg #[.int .i64 a, .int .i64 b], .agg #[.int .i64 c, .int .i64 d]] w fun e w' => e = .returned (.tuple #[.agg #[.int .i64 (quoN a b c d).1, .int .i64 (quoN a b c d).2.1], .int .i64 (quoN a b c d).2.2]) ∧ Below w.heap.size w w' := by
  by_cases he : ckFs [(a, b), (c, d)] = 0
  · have he' : (ckFs [(a, b), (c, d)] != 0) = false := by rw [he]; rfl
    by_cases hz : c = 0
    · have HR := Lib.hid (show quoN a b c d = (0, 0, 11) by unfold quoN; rw [if_neg (by simpa using he), if_pos hz])
      have hz' : (c == 0) = true := by simpa using hz
      clear he hz
      go_enter Try.func24, Try.ntmps24
      go_wp2_with (go_at_call 83; refine (checkFracs2 a b c d _ _ (by simp) ha hb hc hd (by simp [go_sem, World.cell?_alloc_past]) (by simp [go_sem, World.cell?_alloc_past]) (by simp [go_sem, World.cell?_alloc_past]) (by simp [go_sem, World.cell?_alloc_past])).mono ?_; rintro e w1 ⟨rfl, hB1⟩; obtain ⟨hc1, hf1⟩ := bcell hB1; have hz1 : w.heap.size + 4 ≤ w1.heap.size := (by have := hB1.size; simp at this; omega); have k0 : w1.cell? ⟨w.heap.size + 1 + 1, 0, none⟩ = some (.int .i64 0) := (by rw [hc1 _ _ (by simp)]; simp [go_sem, World.cell?_alloc_past]); have k1 : w1.cell? ⟨w.heap.size + 1 + 1, 1, none⟩ = some (.int .i64 0) := (by rw [hc1 _ _ (by simp)]; simp [go_sem, World.cell?_alloc_past]); have k2 : w1.frozen? ⟨w.heap.size + 1 + 1, 0, none⟩ = false := (by rw [hf1 _ _ (by simp)]; simp [go_sem, World.frozen?_alloc_past]); have k3 : w1.frozen? ⟨w.heap.size + 1 + 1, 1, none⟩ = false := (by rw [hf1 _ _ (by simp)]; simp [go_sem, World.frozen?_alloc_past]))
      obtain ⟨r0, r1⟩ := set2 (w := w1) (b := w.heap.size + 1 + 1) (x := .int .i64 0) (y := .int .i64 0) (.int .i64 0) (.int .i64 0) k0 k1
      refine bodyPost_ret (ret_frac rfl _ _ _ _ _ _ rfl rfl r0 r1) rfl ⟨by rw [HR.out]; rfl, ?_⟩
      exact ((((((((Below.refl w.heap.size w).alloc (Nat.le_refl _) _).alloc (by simp) _).alloc (by simp; omega) _).alloc (by simp; omega) _).trans (hB1.mono (by simp; omega))).setCell (by simp; omega) _).setCell (by simp; omega) _)
    have hz' : (c == 0) = false := by simpa using hz
    have HR := Lib.hid (show quoN a b c d = lowN (a * d) (b * c) by unfold quoN; rw [if_neg (by simpa using he), if_neg hz])
    obtain ⟨z1, z2⟩ := ckFs_two_zero he
    obtain ⟨a1, a2, b1, b2, _⟩ := ckF_zero z1
    obtain ⟨c1, c2, d1, d2, _⟩ := ckF_zero z2
    dsimp only at a1 a2 b1 b2 c1 c2 d1 d2
    clear z1 z2 he
    have m1 := mul_b9 a1 a2 (y := d) (by omega) (by omega)
    have m2 := mul_b9 c1 c2 (y := b) (by omega) (by omega)
    have m3 := mul_b9 (x := b) (y := d) (by omega) (by omega) (by omega) (by omega)
    have m4 := mul_pos9 b1 d1
    have m6 := mul_b9 (x := b) (by omega) b2 c1 c2
    have m7 : b * c ≠ 0 := by intro h; rcases Int.mul_eq_zero.1 h with h | h <;> omega
    have M7 := Lib.hid m7
    clear m7 hz
    go_enter Try.func24, Try.ntmps24
    go_wp2_with (first
      | (go_at_call 83; refine (checkFracs2 a b c d _ _ (by simp) ha hb hc hd (by simp [go_sem, World.cell?_alloc_past]) (by simp [go_sem, World.cell?_alloc_past]) (by simp [go_sem, World.cell?_alloc_past]) (by simp [go_sem, World.cell?_alloc_past])).mono ?_; rintro e w1 ⟨rfl, hB1⟩; obtain ⟨hc1, hf1⟩ := bcell hB1; have hz1 : w.heap.size + 4 ≤ w1.heap.size := (by have := hB1.size; simp at this; omega); have k0 : w1.cell? ⟨w.heap.size + 1 + 1, 0, none⟩ = some (.int .i64 0) := (by rw [hc1 _ _ (by simp)]; simp [go_sem, World.cell?_alloc_past]); have k1 : w1.cell? ⟨w.heap.size + 1 + 1, 1, none⟩ = some (.int .i64 0) := (by rw [hc1 _ _ (by simp)]; simp [go_sem, World.cell?_alloc_past]); have k2 : w1.frozen? ⟨w.heap.size + 1 + 1, 0, none⟩ = false := (by rw [hf1 _ _ (by simp)]; simp [go_sem, World.frozen?_alloc_past]); have k3 : w1.frozen? ⟨w.heap.size + 1 + 1, 1, none⟩ = false := (by rw [hf1 _ _ (by simp)]; simp [go_sem, World.frozen?_alloc_past]))
      | (go_at_call 84; refine (lowest_any _ _ _ (by omega) (by omega) (by omega) (by omega) M7.out).mono ?_; rintro e w2 ⟨rfl, hB2⟩; obtain ⟨hc2, hf2⟩ := bcell hB2; have hz2 := hB2.size; have j0 := (hc2 (w.heap.size + 1 + 1) 0 (by omega)).trans k0; have j1 := (hc2 (w.heap.size + 1 + 1) 1 (by omega)).trans k1; have j2 := (hf2 (w.heap.size + 1 + 1) 0 (by omega)).trans k2; have j3 := (hf2 (w.heap.size + 1 + 1) 1 (by omega)).trans k3))
    obtain ⟨r0, r1⟩ := set2 (w := w2) (b := w.heap.size + 1 + 1) (x := .int .i64 0) (y := .int .i64 0) (.int .i64 (lowN (a * d) (b * c)).1) (.int .i64 (lowN (a * d) (b * c)).2.1)
      j0 j1
    refine bodyPost_ret (ret_frac rfl _ _ _ _ _ _ rfl rfl r0 r1) rfl ⟨by rw [HR.out]; rfl, ?_⟩
    exact (((((((((Below.refl w.heap.size w).alloc (Nat.le_refl _) _).alloc (by simp) _).alloc (by simp; omega) _).alloc (by simp; omega) _).trans (hB1.mono (by simp; omega))).trans (hB2.mono (by omega))).setCell (by simp; omega) _).setCell (by simp; omega) _)
  · have he' : (ckFs [(a, b), (c, d)] != 0) = true := by simpa using he
    have HR := Lib.hid (show quoN a b c d = (0, 0, ckFs [(a, b), (c, d)]) by unfold quoN; rw [if_pos he])
    clear he
    go_enter Try.func24, Try.ntmps24
    go_wp2_with (go_at_call 83; refine (checkFracs2 a b c d _ _ (by simp) ha hb hc hd (by simp [go_sem, World.cell?_alloc_past]) (by simp [go_sem, World.cell?_alloc_past]) (by simp [go_sem, World.cell?_alloc_past]) (by simp [go_sem, World.cell?_alloc_past])).mono ?_; rintro e w1 ⟨rfl, hB1⟩; obtain ⟨hc1, hf1⟩ := bcell hB1; have hz1 : w.heap.size + 4 ≤ w1.heap.size := (by have := hB1.size; simp at this; omega); have k0 : w1.cell? ⟨w.heap.size + 1 + 1, 0, none⟩ = some (.int .i64 0) := (by rw [hc1 _ _ (by simp)]; simp [go_sem, World.cell?_alloc_past]); have k1 : w1.cell? ⟨w.heap.size + 1 + 1, 1, none⟩ = some (.int .i64 0) := (by rw [hc1 _ _ (by simp)]; simp [go_sem, World.cell?_alloc_past]); have k2 : w1.frozen? ⟨w.heap.size + 1 + 1, 0, none⟩ = false := (by rw [hf1 _ _ (by simp)]; simp [go_sem, World.frozen?_alloc_past]); have k3 : w1.frozen? ⟨w.heap.size + 1 + 1, 1, none⟩ = false := (by rw [hf1 _ _ (by simp)]; simp [go_sem, World.frozen?_alloc_past]))
    obtain ⟨r0, r1⟩ := set2 (w := w1) (b := w.heap.size + 1 + 1) (x := .int .i64 0) (y := .int .i64 0) (.int .i64 0) (.int .i64 0)
      k0 k1
    refine bodyPost_ret (ret_frac rfl _ _ _ _ _ _ rfl rfl r0 r1) rfl ⟨by rw [HR.out]; rfl, ?_⟩
    exact ((((((((Below.refl w.heap.size w).alloc (Nat.le_refl _) _).alloc (by simp) _).alloc (by simp; omega) _).alloc (by simp; omega) _).trans (hB1.mono (by simp; omega))).setCell (by simp; omega) _).setCell (by simp; omega) _)

set_option maxHeartbeats 400000 in
theorem cmpInt_any (a b : Int) (w : World) : Calls Try.prog 85 #[.int .i64 a, .int .i64 b] w fun e w' => e = .returned (.int .i64 (cmpI a b)) ∧ w = w' := by
  rcases Int.lt_trichotomy a b with h | h | h
  · have HR := Lib.hid (show cmpI a b = -1 by unfold cmpI; rw [if_pos h])
    go_enter Try.func85, Try.ntmps85
    go_wp2
    go_ret
    exact ⟨ret_int HR.out.symm, rfl⟩
  · subst h
    have HR := Lib.hid (show cmpI a a = 0 by unfold cmpI; rw [if_neg (by omega), if_neg (by omega)])
    go_enter Try.func85, Try.ntmps85
    go_wp2
    go_ret
    exact ⟨ret_int HR.out.symm, rfl⟩
  · have HR := Lib.hid (show cmpI a b = 1 by unfold cmpI; rw [if_neg (by omega), if_pos h])
    go_enter Try.func85, Try.ntmps85
    go_wp2
    go_ret
    exact ⟨ret_int HR.out.symm, rfl⟩

set_option maxHeartbeats 1000000 in
theorem cmp_any (a b c d : Int) (w : World) (ha : I64 a) (hb : I64 b) (hc : I64 c) (hd : I64 d) :
    Calls Try.prog 25 #[.agg #[.int .i64 a, .int .i64 b], .agg #[.int .i64 c, .int .i64 d]] w fun e w' => e = .returned (.tuple #[.int .i64 (cmpN a b c d).1, .int .i64 (cmpN a b c d).2]) ∧ Below w.heap.size w w' := by
  by_cases he : ckFs [(a, b), (c, d)] = 0
  · have he' : (ckFs [(a, b), (c, d)] != 0) = false := by rw [he]; rfl
    have HR := Lib.hid (show cmpN a b c d = (cmpI (a * d) (c * b), 0) by unfold cmpN; rw [if_neg (by simpa using he)])
    obtain ⟨z1, z2⟩ := ckFs_two_zero he
    obtain ⟨a1, a2, b1, b2, _⟩ := ckF_zero z1
    obtain ⟨c1, c2, d1, d2, _⟩ := ckF_zero z2
    dsimp only at a1 a2 b1 b2 c1 c2 d1 d2
    clear z1 z2 he
    have m1 := mul_b9 a1 a2 (y := d) (by omega) (by omega)
    have m2 := mul_b9 c1 c2 (y := b) (by omega) (by omega)
    go_enter Try.func25, Try.ntmps25
    go_wp2_with (first
      | (go_at_call 83; refine (checkFracs2 a b c d _ _ (by simp) ha hb hc hd (by simp [go_sem, World.cell?_alloc_past]) (by simp [go_sem, World.cell?_alloc_past]) (by simp [go_sem, World.cell?_alloc_past]) (by simp [go_sem, World.cell?_alloc_past])).mono ?_; rintro e w1 ⟨rfl, hB1⟩; obtain ⟨hc1, hf1⟩ := bcell hB1; have hz1 := hB1.size)
      | (go_at_call 85; refine (cmpInt_any _ _ _).mono ?_; rintro e w2 ⟨rfl, rfl⟩))
    go_ret2
    refine ⟨by rw [HR.out]; rfl, ?_⟩
    exact ((((Below.refl w.heap.size w).alloc (Nat.le_refl _) _).alloc (by simp) _).alloc (by simp; omega) _).trans (hB1.mono (by simp; omega))
  · have he' : (ckFs [(a, b), (c, d)] != 0) = true := by simpa using he
    have HR := Lib.hid (show cmpN a b c d = (0, ckFs [(a, b), (c, d)]) by unfold cmpN; rw [if_pos he])
    clear he
    go_enter Try.func25, Try.ntmps25
    go_wp2_with (go_at_call 83; refine (checkFracs2 a b c d _ _ (by simp) ha hb hc hd (by simp [go_sem, World.cell?_alloc_past]) (by simp [go_sem, World.cell?_alloc_past]) (by simp [go_sem, World.cell?_alloc_past]) (by simp [go_sem, World.cell?_alloc_past])).mono ?_; rintro e w1 ⟨rfl, hB1⟩; obtain ⟨hc1, hf1⟩ := bcell hB1; have hz1 := hB1.size)
    go_ret2
    refine ⟨by rw [HR.out]; rfl, ?_⟩
    exact ((((Below.refl w.heap.size w).alloc (Nat.le_refl _) _).alloc (by simp) _).alloc (by simp; omega) _).trans (hB1.mono (by simp; omega))

end Go.Proofs.Ytfnmnnbmhfbkbaa

/-! KP -/
namespace Go.Proofs.Ytfnmnnbmhfbkbaa
open Go.RowKit

/-- A fact that no unfolding opens. -/
structure Bx (p : Prop) : Prop where
  out : p

/-- A pair of ints lies in block b. -/
def HF (w : World) (b : Nat) (x y : Int) : Prop := b < w.heap.size ∧ w.cell? ⟨b, 0, none⟩ = some (.int .i64 x) ∧ w.cell? ⟨b, 1, none⟩ = some (.int .i64 y)
theorem HF.below {w w' : World} {b : Nat} {x y : Int} (h : HF w b x y) (B : Below w.heap.size w w') : HF w' b x y :=
  ⟨Nat.lt_of_lt_of_le h.1 B.size, (B.cell (p := ⟨b, 0, none⟩) h.1).trans h.2.1, (B.cell (p := ⟨b, 1, none⟩) h.1).trans h.2.2⟩
theorem below_alloc1 (w : World) (o : Obj) : Below w.heap.size w (w.alloc o) := (Below.refl _ _).alloc (Nat.le_refl _) _
theorem HF.alloc {w : World} {b : Nat} {x y : Int} (h : HF w b x y) (o : Obj) : HF (w.alloc o) b x y := h.below (below_alloc1 w o)
theorem HF.drewN {w : World} {b : Nat} {x y : Int} (h : HF w b x y) (k : Nat) : HF (w.drewN k) b x y := h
theorem HF.new (w : World) (t : TypeId) (x y : Int) : HF (w.alloc (.cells #[.int .i64 x, .int .i64 y] t)) w.heap.size x y :=
  ⟨by simp, by simp [go_sem], by simp [go_sem]⟩
theorem HF.at {w : World} {b b' : Nat} {x y : Int} (h : HF w b x y) (e : b = b') : HF w b' x y := e ▸ h
/-- All of some pairs lie where they are said to lie. -/
def KP (w : World) : List (Nat × Int × Int) → Prop
  | [] => True
  | p :: l => HF w p.1 p.2.1 p.2.2 ∧ KP w l
theorem KP.below {w w' : World} (B : Below w.heap.size w w') : ∀ {l : List (Nat × Int × Int)}, KP w l → KP w' l
  | [], _ => trivial
  | _ :: _, h => ⟨h.1.below B, KP.below B h.2⟩
theorem KP.alloc {w : World} {l : List (Nat × Int × Int)} (h : KP w l) (o : Obj) : KP (w.alloc o) l := KP.below (below_alloc1 w o) h
theorem KP.nil (w : World) : KP w [] := trivial
theorem KP.new {w w' : World} {l : List (Nat × Int × Int)} (h : KP w l) (B : Below w.heap.size w w') (t : TypeId) (x y : Int) : KP (w'.alloc (.cells #[.int .i64 x, .int .i64 y] t)) ((w'.heap.size, x, y) :: l) :=
  ⟨HF.new w' t x y, (KP.below B h).alloc _⟩
theorem KP.push {w : World} {l : List (Nat × Int × Int)} (h : KP w l) (t : TypeId) (x y : Int) : KP (w.alloc (.cells #[.int .i64 x, .int .i64 y] t)) ((w.heap.size, x, y) :: l) := ⟨HF.new w t x y, h.alloc _⟩
theorem below_call {w w1 w2 : World} {o : Obj} (M : Below w.heap.size w w1) (B : Below (w1.alloc o).heap.size (w1.alloc o) w2) : Below w.heap.size w w2 :=
  (M.alloc M.size o).trans (B.mono (M.alloc M.size o).size)
theorem below_call0 {w w1 w2 : World} (M : Below w.heap.size w w1) (B : Below w1.heap.size w1 w2) : Below w.heap.size w w2 := M.trans (B.mono M.size)
theorem below_step {B : Nat} {w w' : World} (h : B ≤ w.heap.size) (k : Below w.heap.size w w') : Below B w w' := k.mono h

end Go.Proofs.Ytfnmnnbmhfbkbaa

/-! Post -/
namespace Go.Proofs.Ytfnmnnbmhfbkbaa
open Go.ChangeShapes Go.WideShapes Go.RowKit

theorem post_true {H : Type} {enc : TypeId × Value → H} {P : Program} {f : Func} {s : ChangeSpec} {W W' : World} {args : Array Value} {v : Value} {ds gs : List (DataW H)} {pa : List MemPlace}
    (hW : DataW.Whole enc P f.params.toList s.vars false W args.toList ds gs pa)
    (hres : DataW.TrodAll enc P W' W.heap.size (fun _ => false) false f.resultTypes.toList (v.resultList f.resultTypes.size) (s.fn H (ds ++ gs)).results [])
    (hargs : DataW.TrodAll enc P W' 0 (fun b => decide (b < W.heap.size)) true f.params.toList args.toList (s.fn H (ds ++ gs)).args pa)
    (hvars : DataW.TrodVars enc P W' (fun b => decide (b < W.heap.size)) s.vars (s.fn H (ds ++ gs)).vars []) (hb : Below W.heap.size W W') :
    s.post enc P f false true false false W args v W' :=
  ⟨ds, gs, pa, [], pa, [], hW, hres, hargs, hvars, hb.frame _, fun h => nomatch h⟩

theorem wf_I64 {n : Int} (h : (Lit.int .i64 n).wf = true) : I64 n := by
  simp only [Lit.wf, Bool.and_eq_true, decide_eq_true_eq] at h
  exact h

end Go.Proofs.Ytfnmnnbmhfbkbaa

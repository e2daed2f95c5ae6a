import Derived.Test.YtbgajdbpdhipiaaB1
import Derived.Test.YtbgajdbpdhipiaaB2
import Derived.Test.YtbgajdbpdhipiaaB4
import Derived.Test.YtbgajdbpdhipiaaB6
import Derived.Test.YtbgajdbpdhipiaaBC
import Derived.Test.YtbgajdbpdhipiaaBG
import Derived.Test.YtbgajdbpdhipiaaBH
section
set_option linter.unusedVariables false
set_option linter.unusedSimpArgs false
namespace Go.Proofs.Ytbgajdbpdhipiaa.Vg
open Go Go.Proofs.Ytbgajdbpdhipiaa.Ev Go.Proofs.Ytbgajdbpdhipiaa.Vv
theorem Xt {n : Int} (h1 : -9223372036854775808 <= n) (h2 : n <= 9223372036854775807) : w64 n = n := by
 unfold w64 IntKind.wrap
 simp [IntKind.signed, IntKind.bits]
 omega
theorem Yr {i : Nat} (h : i < 1000000000000) : w64 ((i : Int) + 1) = ((i + 1 : Nat) : Int) := by
 rw [Xt (by omega) (by omega)]; omega
theorem X8 {α : Type} {y : List α} {i : Nat} (h : i < y.length) (d : α) : y.drop i = y.getD i d :: y.drop (i + 1) := by
 rw [List.drop_eq_getElem_cons h, List.getD_eq_getElem?_getD, List.getElem?_eq_getElem h]; rfl
def sumB (b : Bool) : Sum Unit Unit := match b with | true => .inr () | false => .inl ()
def sumE (e : Int) : Sum Int Unit := if e = 0 then .inr () else .inl e
def inR (a b n : Int) : Bool := decide (a <= n /\ n <= b)
theorem Qfe {a b n : Int} : inR a b n = true ↔ a <= n /\ n <= b := by unfold inR; exact decide_eq_true_iff
theorem Qvs {a b n : Int} : inR a b n = false ↔ ¬(a <= n /\ n <= b) := by unfold inR; exact decide_eq_false_iff_not
theorem Qq9 (k : Nat) (a b : Int) (xs : List Int) (hl : xs.length < 1000000000000) : ∀ (d fuel i : Nat), xs.length = i + d -> d < fuel ->
 Xf k a b xs fuel (i : Int) = some (sumB ((xs.drop i).all (inR a b))) := by
 intro d
 induction d with
 | zero =>
   intro fuel i h hf
   obtain ⟨g, rfl⟩ : ∃ g, fuel = g + 1 := ⟨fuel - 1, by omega⟩
   rw [Xf.eq_2, if_neg (by omega), List.drop_eq_nil_of_le (by omega)]; rfl
 | succ d ih =>
   intro fuel i h hf
   obtain ⟨g, rfl⟩ : ∃ g, fuel = g + 1 := ⟨fuel - 1, by omega⟩
   rw [Xf.eq_2, if_pos (by omega), if_pos (by omega), Yr (by omega), ih g (i + 1) (by omega) (by omega), X8 (y := xs) (i := i) (by omega) 0]
   simp only [Int.toNat_natCast, List.all_cons]
   by_cases h1 : xs.getD i 0 < a
   ·rw [if_pos h1, show inR a b (xs.getD i 0) = false from Qvs.2 (by omega)]; rfl
   ·rw [if_neg h1]
    by_cases h2 : b < xs.getD i 0
    ·rw [if_pos h2, show inR a b (xs.getD i 0) = false from Qvs.2 (by omega)]; rfl
    ·rw [if_neg h2, show inR a b (xs.getD i 0) = true from Qfe.2 (by omega)]; rfl
theorem Qf8 (k : Nat) (a b : Int) (xs : List Int) (hl : xs.length < k) (hk : xs.length < 1000000000000) : Zh k a b xs = some (xs.all (inR a b)) := by
 unfold Zh
 rw [show Xf k a b xs k 0 = _ from Qq9 k a b xs (by omega) xs.length k 0 (by omega) hl]
 simp only [List.drop_zero]
 cases xs.all (inR a b) <;> rfl
theorem Y8 (k : Nat) (a b x : Int) (hk : 100 < k) (hk2 : k <= 100000000000000000000) : Zh k a b [x] = some (inR a b x) := by
 rw [Qf8 k a b [x] (by simp; omega) (by simp)]; simp
theorem Qkz (k : Nat) (a b x y : Int) (hk : 100 < k) (hk2 : k <= 100000000000000000000) : Zh k a b [x, y] = some (inR a b x && inR a b y) := by
 rw [Qf8 k a b [x, y] (by simp; omega) (by simp)]; simp
theorem Qps (k : Nat) (b : Int) (xs : List Int) (hb : 0 <= b /\ b <= 1000000000000) (hl : xs.length < k) (hk : xs.length < 1000000000000) : Yb k b xs = some (xs.all (inR (-b) b)) := by
 unfold Yb
 rw [Xt (by omega) (by omega), Qf8 k _ _ _ hl hk, Option.bind_some, show (0 : Int) - b = -b by omega]
theorem Qi6 (k : Nat) (b x y : Int) (hb : 0 <= b /\ b <= 1000000000000) (hk : 100 < k) (hk2 : k <= 100000000000000000000) : Yb k b [x, y] = some (inR (-b) b x && inR (-b) b y) := by
 rw [Qps k b [x, y] hb (by simp; omega) (by simp)]; simp
theorem Qul {n d : Int} (hd : 0 < d) : (if n.tmod d < 0 then n.tdiv d - 1 else n.tdiv d) = n / d := by
 have h := Int.mul_tdiv_add_tmod n d
 have h1 : n.tmod d < d := Int.tmod_lt_of_pos n hd
 have h2 : -d < n.tmod d := by
  have := Int.lt_tmod_of_pos n hd
  omega
 split
 ·rename_i hn
  symm
  rw [Int.ediv_eq_iff_of_pos hd]
  constructor <;> (rw [Int.sub_mul, Int.mul_comm] ; omega)
 ·symm
  rw [Int.ediv_eq_iff_of_pos hd]
  constructor <;> (rw [Int.mul_comm]; omega)
theorem Qj6 (k : Nat) {n d : Int} (hn : -1000000000000000000 <= n /\ n <= 1000000000000000000) (hd : 0 < d) : Qbl k n d = some (n / d) := by
 unfold Qbl
 have hq : -1000000000000000000 <= n.tdiv d /\ n.tdiv d <= 1000000000000000000 := by
  have := Int.natAbs_tdiv_le_natAbs n d
  omega
 rw [if_pos (by omega), Xt (n := n.tdiv d) (by omega) (by omega), Xt (n := n.tdiv d - 1) (by omega) (by omega), <- Qul hd]
 split <;> rfl
def Qum (r : Zg) : Bool := inR (-1000000) 1000000 r.At && inR (-1000000) 1000000 r.Value
def late (p : Option Int) (n : Int) : Bool := match p with
 | some m => decide (n <= m)
 | none => false
def chk : Option Int -> List Zg -> Int
 | _, [] => 0
 | p, r :: l => match Qum r with
   | true => match late p r.At with
     | true => 9
     | false => chk (some r.At) l
   | false => 2
def tabE (l : List Zg) : Int := match inR 1 40 l.length with
 | true => chk none l
 | false => 10
def bef (l : List Zg) (i : Nat) : Option Int := if i = 0 then none else some (l.getD (i - 1) default).At
theorem Qy1 (l : List Zg) (i : Nat) : bef l (i + 1) = some (l.getD i default).At := by
 unfold bef; rw [if_neg (by omega)]; rfl
theorem Qy2 (l : List Zg) (i : Nat) (n : Int) : late (bef l i) n = (decide (0 < i) && decide (n <= (l.getD (i - 1) default).At)) := by
 unfold bef
 by_cases h : i = 0
 ·subst h; rfl
 ·rw [if_neg h]
  show decide _ = _
  simp [show 0 < i by omega]
theorem Q1b (k : Nat) (hk : 100 < k) (hk2 : k <= 100000000000000000000) (l : List Zg) (hl : l.length < 1000000000) : ∀ (d fuel i : Nat), l.length = i + d -> d < fuel ->
 Zx k l fuel (i : Int) = some (sumE (chk (bef l i) (l.drop i))) := by
 intro d
 induction d with
 | zero =>
   intro fuel i h hf
   obtain ⟨g, rfl⟩ : ∃ g, fuel = g + 1 := ⟨fuel - 1, by omega⟩
   rw [Zx.eq_2, if_neg (by omega), List.drop_eq_nil_of_le (by omega)]; rfl
 | succ d ih =>
   intro fuel i h hf
   obtain ⟨g, rfl⟩ : ∃ g, fuel = g + 1 := ⟨fuel - 1, by omega⟩
   rw [Zx.eq_2, if_pos (by omega), if_pos (by omega), Qi6 k _ _ _ (by decide) hk hk2, Option.bind_some, Yr (by omega), ih g (i + 1) (by omega) (by omega), X8 (y := l) (i := i) (by omega) default, Qy1]
   simp only [Int.toNat_natCast, chk, Qy2]
   rw [show (inR (-1000000) 1000000 (l.getD i default).At && inR (-1000000) 1000000 (l.getD i default).Value) = Qum (l.getD i default) from rfl]
   cases Qum (l.getD i default) with
   | false => rfl
   | true =>
     rw [if_pos rfl]
     by_cases h0 : 0 < i
     ·rw [if_pos (by omega), Xt (by omega) (by omega), if_pos (by omega), show ((i : Int) - 1).toNat = i - 1 by omega]
      by_cases h1 : (l.getD i default).At <= (l.getD (i - 1) default).At
      ·rw [if_pos h1, decide_eq_true h0, decide_eq_true h1]; rfl
      ·rw [if_neg h1, decide_eq_true h0, decide_eq_false h1]; rfl
     ·rw [if_neg (by omega), decide_eq_false h0]; rfl
theorem Qk0 (k : Nat) (hk : 100 < k) (hk2 : k <= 100000000000000000000) (l : List Zg) (hl : l.length < k) : Y7 k l = some (tabE l) := by
 unfold Y7 tabE
 rw [Y8 k _ _ _ hk hk2, Option.bind_some]
 cases hin : inR 1 40 (l.length : Int) with
 | false => rfl
 | true =>
   have hin := Qfe.1 hin
   rw [if_pos rfl, show Zx k l k 0 = _ from Q1b k hk hk2 l (by omega) l.length k 0 (by omega) hl, Option.bind_some]
   show (match sumE (chk none l) with | .inl r => some r | .inr _ => some 0) = some (chk none l)
   unfold sumE
   by_cases h : chk none l = 0
   ·rw [if_pos h, h]
   ·rw [if_neg h]
structure Tab (l : List Zg) : Prop where
 pos : 0 < l.length
 le : l.length <= 40
 row : ∀ i, i < l.length -> -1000000 <= (l.getD i default).At /\ (l.getD i default).At <= 1000000 /\ -1000000 <= (l.getD i default).Value /\ (l.getD i default).Value <= 1000000
 inc : ∀ i, i + 1 < l.length -> (l.getD i default).At < (l.getD (i + 1) default).At
theorem Qsu : ∀ (l : List Zg) (p : Option Int), chk p l = 0 -> (∀ i, i < l.length -> Qum (l.getD i default) = true) /\ (∀ i, i + 1 < l.length -> (l.getD i default).At < (l.getD (i + 1) default).At) /\ (0 < l.length -> late p (l.getD 0 default).At = false)
 | [], p, h => ⟨fun i hi => by simp at hi, fun i hi => by simp at hi, fun hi => by simp at hi⟩
 | r :: l, p, h => by
   simp only [chk] at h
   cases h1 : Qum r with
   | false => rw [h1] at h; cases h
   | true =>
     rw [h1] at h
     cases h2 : late p r.At with
     | true => rw [h2] at h; cases h
     | false =>
       rw [h2] at h
       obtain ⟨g1, g2, g3⟩ := Qsu l (some r.At) h
       refine ⟨fun i hi => ?_, fun i hi => ?_, fun _ => h2⟩
       ·cases i with
        | zero => exact h1
        | succ i => exact g1 i (by simpa using hi)
       ·cases i with
        | zero =>
          have := g3 (by simp at hi; omega)
          simp only [late, decide_eq_false_iff_not] at this
          show r.At < (l.getD 0 default).At
          omega
        | succ i => exact g2 i (by simp at hi; omega)
theorem Tab.of {l : List Zg} (h : tabE l = 0) : Tab l := by
 unfold tabE at h
 cases h1 : inR 1 40 (l.length : Int) with
 | false => rw [h1] at h; cases h
 | true =>
   rw [h1] at h
   have h1 := Qfe.1 h1
   obtain ⟨g1, g2, _⟩ := Qsu l none h
   refine ⟨by omega, by omega, fun i hi => ?_, g2⟩
   have := g1 i hi
   simp only [Qum, Bool.and_eq_true, Qfe] at this
   omega
def mid (a b : Zg) (t : Int) : Int := a.Value + ((b.Value - a.Value) * (t - a.At)) / (b.At - a.At)
def vrec (a : Zg) (t : Int) : List Zg -> Int
 | [] => a.Value
 | b :: l => if t < b.At then mid a b t else vrec b t l
def val (l : List Zg) (t : Int) : Int := if t < (l.getD 0 default).At then (l.getD 0 default).Value else vrec (l.getD 0 default) t (l.drop 1)
theorem Q1c {x y A B : Int} (h1 : -A <= x /\ x <= A) (h2 : -B <= y /\ y <= B) (hA : 0 <= A) (hB : 0 <= B) : -(A * B) <= x * y /\ x * y <= A * B := by
 have h : (x * y).natAbs <= (A * B).natAbs := by
  rw [Int.natAbs_mul, Int.natAbs_mul]
  exact Nat.mul_le_mul (by omega) (by omega)
 have := Int.mul_nonneg hA hB
 omega
theorem Qzq {p d A : Int} (hp : -A <= p /\ p <= A) (hd : 0 < d) : -A <= p / d /\ p / d <= A := by
 have e := Int.mul_ediv_add_emod p d
 have e1 := Int.emod_nonneg p (show d ≠ 0 by omega)
 have e2 := Int.emod_lt_of_pos p hd
 generalize p / d = q at e
 constructor
 ·rcases Int.lt_or_le q (-A) with hc | hc
  ·have h1 : d * q <= d * (-A - 1) := Int.mul_le_mul_of_nonneg_left (by omega) (by omega)
   have h2 : d * (-A - 1) = d * (-A) - d := by rw [Int.mul_sub, Int.mul_one]
   have h3 : d * (-A) <= 1 * (-A) := Int.mul_le_mul_of_nonpos_right (by omega) (by omega)
   omega
  ·exact hc
 ·rcases Int.lt_or_le A q with hc | hc
  ·have : 1 * q <= d * q := Int.mul_le_mul_of_nonneg_right (by omega) (by omega)
   omega
  ·exact hc
theorem Q1d (k : Nat) {a b : Zg} {t : Int} (ha : -1000000 <= a.At /\ a.At <= 1000000 /\ -1000000 <= a.Value /\ a.Value <= 1000000) (hb : -1000000 <= b.At /\ b.At <= 1000000 /\ -1000000 <= b.Value /\ b.Value <= 1000000) (hab : a.At < b.At) (ht : -1000000 <= t /\ t <= 1000000) :
 Qbl k (w64 ((w64 (b.Value - a.Value)) * (w64 (t - a.At)))) (w64 (b.At - a.At)) = some (((b.Value - a.Value) * (t - a.At)) / (b.At - a.At)) /\ w64 (a.Value + ((b.Value - a.Value) * (t - a.At)) / (b.At - a.At)) = mid a b t := by
 have hp := Q1c (x := b.Value - a.Value) (y := t - a.At) (A := 2000000) (B := 2000000) (by omega) (by omega) (by decide) (by decide)
 have hq := Qzq (d := b.At - a.At) hp (by omega)
 rw [Xt (n := b.Value - a.Value) (by omega) (by omega), Xt (n := t - a.At) (by omega) (by omega), Xt (n := b.At - a.At) (by omega) (by omega)]
 exact ⟨by rw [Xt (by omega) (by omega), Qj6 k (by omega) (by omega)], Xt (by omega) (by omega)⟩
def fst (t : Int) : Nat -> List Zg -> Option Nat
 | _, [] => none
 | i, r :: l => if t < r.At then some i else fst t (i + 1) l
theorem Q1f (k : Nat) (l : List Zg) (t : Int) (hl : l.length < 1000000000) : ∀ (d fuel i : Nat), l.length = i + d -> d < fuel ->
 Qg k l t fuel (i : Int) = some (match fst t i (l.drop i) with | some j => .inl (j : Int) | none => .inr ()) := by
 intro d
 induction d with
 | zero =>
   intro fuel i h hf
   obtain ⟨g, rfl⟩ : ∃ g, fuel = g + 1 := ⟨fuel - 1, by omega⟩
   rw [Qg.eq_2, if_neg (by omega), List.drop_eq_nil_of_le (by omega)]; rfl
 | succ d ih =>
   intro fuel i h hf
   obtain ⟨g, rfl⟩ : ∃ g, fuel = g + 1 := ⟨fuel - 1, by omega⟩
   rw [Qg.eq_2, if_pos (by omega), if_pos (by omega), Yr (by omega), ih g (i + 1) (by omega) (by omega), X8 (y := l) (i := i) (by omega) default]
   simp only [Int.toNat_natCast, fst]
   show ((some (decide (t < (l.getD i default).At))).bind _) = _
   rw [Option.bind_some]
   by_cases h1 : t < (l.getD i default).At
   ·rw [if_pos (by simpa using h1), if_pos h1]
   ·rw [if_neg (by simpa using h1), if_neg h1]
def idxv : Option Nat -> Int
 | some j => (j : Int)
 | none => -1
theorem Qwj (j : Nat) : idxv (some j) = (j : Int) := rfl
theorem Qwk : idxv none = -1 := rfl
theorem Qwl (k : Nat) (l : List Zg) (t : Int) (hl : l.length < 1000000000) (hk : l.length < k) : Qw k l t = some (idxv (fst t 0 l)) := by
 unfold Qw
 rw [show Qg k l t k 0 = _ from Q1f k l t hl l.length k 0 (by omega) hk, Option.bind_some, List.drop_zero]
 cases fst t 0 l <;> rfl
theorem Qsv : ∀ (t : Int) (l : List Zg) (i j : Nat), fst t i l = some j -> i <= j /\ j - i < l.length /\ t < (l.getD (j - i) default).At /\ ∀ m, m < j - i -> (l.getD m default).At <= t
 | t, [], i, j, h => by cases h
 | t, r :: l, i, j, h => by
   simp only [fst] at h
   split at h
   ·injection h with h; subst h
    refine ⟨Nat.le_refl _, by simp, by simpa using ‹t < r.At›, fun m hm => by omega⟩
   ·rename_i hn
    obtain ⟨g1, g2, g3, g4⟩ := Qsv t l (i + 1) j h
    refine ⟨by omega, by simp only [List.length_cons]; omega, ?_, fun m hm => ?_⟩
    ·rw [show j - i = (j - (i + 1)) + 1 by omega]; exact g3
    ·cases m with
     | zero => show r.At <= t; omega
     | succ m => exact g4 m (by omega)
theorem Qsw : ∀ (t : Int) (l : List Zg) (i : Nat), fst t i l = none -> ∀ m, m < l.length -> (l.getD m default).At <= t
 | t, [], i, h, m, hm => by simp at hm
 | t, r :: l, i, h, m, hm => by
   simp only [fst] at h
   split at h
   ·cases h
   ·cases m with
    | zero => show r.At <= t; omega
    | succ m => exact Qsw t l (i + 1) h m (by simpa using hm)
theorem Qwm : ∀ (l : List Zg) (a : Zg) (t : Int) (j : Nat), j < l.length -> t < (l.getD j default).At -> (∀ m, m < j -> (l.getD m default).At <= t) -> vrec a t l = mid ((a :: l).getD j default) (l.getD j default) t
 | [], a, t, j, h, _, _ => by simp at h
 | b :: l, a, t, j, h, h1, h2 => by
   cases j with
   | zero =>
     have h1 : t < b.At := h1
     simp only [vrec]; rw [if_pos h1]; rfl
   | succ j =>
     have := h2 0 (by omega)
     have : b.At <= t := this
     simp only [vrec]
     rw [if_neg (by omega), Qwm l b t j (by simpa using h) h1 (fun m hm => h2 (m + 1) (by omega))]
     rfl
theorem Qsx : ∀ (l : List Zg) (a : Zg) (t : Int), (∀ m, m < l.length -> (l.getD m default).At <= t) -> vrec a t l = ((a :: l).getD l.length default).Value
 | [], a, t, _ => rfl
 | b :: l, a, t, h => by
   have : b.At <= t := h 0 (by simp)
   simp only [vrec]
   rw [if_neg (by omega), Qsx l b t (fun m hm => h (m + 1) (by simpa using hm))]
   rfl
theorem Qiu {l : List Zg} {i : Nat} : (l.drop 1).getD i default = l.getD (i + 1) default := by
 rw [List.getD_eq_getElem?_getD, List.getD_eq_getElem?_getD, List.getElem?_drop, Nat.add_comm]
theorem head_tail {l : List Zg} (h : 0 < l.length) : l.getD 0 default :: l.drop 1 = l := by
 cases l with
 | nil => simp at h
 | cons a l => rfl
theorem Qk1 (k : Nat) (hk : 100 < k) {l : List Zg} (h : Tab l) {t : Int} (ht : -1000000 <= t /\ t <= 1000000) : Qa9 k l t = some (val l t) := by
 unfold Qa9 val
 have hle := h.le
 have hpos := h.pos
 rw [Qwl k l t (by omega) (by omega), Option.bind_some]
 cases hf : fst t 0 l with
 | none =>
   have hn := Qsw t l 0 hf
   have h0 := hn 0 hpos
   rw [Qwk, if_pos rfl, Xt (by omega) (by omega), if_pos (by omega), if_neg (by omega), Qsx _ _ _ (fun m hm => by rw [Qiu]; exact hn (m + 1) (by simp at hm; omega)), head_tail hpos, List.length_drop, show ((l.length : Int) - 1).toNat = l.length - 1 by omega]
 | some j =>
   obtain ⟨_, g2, g3, g4⟩ := Qsv t l 0 j hf
   rw [Nat.sub_zero] at g2 g3 g4
   rw [Qwj, if_neg (show ¬(j : Int) = -1 by omega)]
   cases j with
   | zero =>
     rw [if_pos (show ((0 : Nat) : Int) = 0 from rfl), if_pos (by omega), if_pos g3]; rfl
   | succ j =>
     have h0 := g4 0 (by omega)
     have e1 : ((j + 1 : Nat) : Int) = (j : Int) + 1 := by omega
     rw [e1, if_neg (show ¬(j : Int) + 1 = 0 by omega), Xt (n := (j : Int) + 1 - 1) (by omega) (by omega), if_pos (show 0 <= (j : Int) + 1 - 1 /\ (j : Int) + 1 - 1 < (l.length : Int) by omega), if_pos (show 0 <= (j : Int) + 1 /\ (j : Int) + 1 < (l.length : Int) by omega), show ((j : Int) + 1 - 1).toNat = j by omega, show ((j : Int) + 1).toNat = j + 1 by omega]
     obtain ⟨m1, m2⟩ := Q1d k (h.row j (by omega)) (h.row (j + 1) g2) (h.inc j g2) ht
     rw [m1, Option.bind_some, m2, if_neg (show ¬t < (l.getD 0 default).At by omega), Qwm _ _ _ j (by simp; omega) (by rw [Qiu]; exact g3) (fun m hm => by rw [Qiu]; exact g4 (m + 1) (by omega)), head_tail hpos, Qiu]
def Qt8 (l : List Zg) : Bool := decide (l.length <= 6 \/ 40 < l.length /\ l.length <= 43)
theorem Qsc (k : Nat) (l : List Zg) : J4 k l = some (Qt8 l) := by
 unfold J4 Qt8
 by_cases h : (l.length : Int) <= 6
 ·rw [if_pos h, decide_eq_true (by omega)]
 ·rw [if_neg h]
  by_cases h2 : 40 < (l.length : Int)
  ·rw [if_pos h2]; congr 1; rw [decide_eq_decide]; omega
  ·rw [if_neg h2, decide_eq_false (by omega)]
theorem Q1g {v t d : Int} (ht : 0 <= t) (htd : t <= d) (hd : 0 < d) : (0 <= v -> 0 <= v * t / d /\ v * t / d <= v) /\ (v <= 0 -> v <= v * t / d /\ v * t / d <= 0) := by
 constructor
 ·intro hv
  refine ⟨Int.ediv_nonneg (Int.mul_nonneg hv ht) (by omega), ?_⟩
  have h1 : v * t <= v * d := Int.mul_le_mul_of_nonneg_left htd hv
  have := Int.ediv_le_ediv hd h1
  rwa [Int.mul_ediv_cancel _ (by omega)] at this
 ·intro hv
  constructor
  ·have h1 : v * d <= v * t := Int.mul_le_mul_of_nonpos_left hv htd
   have := Int.ediv_le_ediv hd h1
   rwa [Int.mul_ediv_cancel _ (by omega)] at this
  ·have h1 : v * t <= 0 := Int.mul_nonpos_of_nonpos_of_nonneg hv ht
   have := Int.ediv_le_ediv hd h1
   simpa using this
theorem Qwn (L H : Int) (t : Int) : ∀ (l : List Zg) (a : Zg), a.At <= t -> (∀ r ∈ a :: l, L <= r.Value /\ r.Value <= H) -> L <= vrec a t l /\ vrec a t l <= H
 | [], a, _, h => h a (by simp)
 | b :: l, a, ha, h => by
   simp only [vrec]
   by_cases c : t < b.At
   ·rw [if_pos c]
    have h1 := h a (by simp)
    have h2 := h b (by simp)
    obtain ⟨p1, p2⟩ := Q1g (v := b.Value - a.Value) (t := t - a.At) (d := b.At - a.At) (by omega) (by omega) (by omega)
    unfold mid
    rcases Int.le_total 0 (b.Value - a.Value) with e | e
    ·have := p1 e; omega
    ·have := p2 e; omega
   ·rw [if_neg c]
    exact Qwn L H t l b (by omega) (fun r hr => h r (List.mem_cons_of_mem _ hr))
theorem Qz2 {l : List Zg} (h : Tab l) (t : Int) : -1000000 <= val l t /\ val l t <= 1000000 := by
 have hpos := h.pos
 unfold val
 by_cases c : t < (l.getD 0 default).At
 ·rw [if_pos c]
  have := h.row 0 hpos; omega
 ·rw [if_neg c]
  refine Qwn _ _ t (l.drop 1) _ (by omega) (fun r hr => ?_)
  rw [head_tail hpos] at hr
  obtain ⟨i, hi, rfl⟩ := List.mem_iff_getElem.1 hr
  have := h.row i hi
  rw [List.getD_eq_getElem?_getD, List.getElem?_eq_getElem hi] at this
  exact this.2.2
end Go.Proofs.Ytbgajdbpdhipiaa.Vg
end

section
set_option linter.unusedVariables false
set_option linter.unusedSimpArgs false
namespace Go.Proofs.Ytbgajdbpdhipiaa.Vg
open Go Go.Proofs.Ytbgajdbpdhipiaa.Ev Go.Proofs.Ytbgajdbpdhipiaa.Vv
def letB (n : Int) : Bool := decide (97 <= n /\ n <= 122) || decide (65 <= n /\ n <= 90)
def namB (n : Int) : Bool := letB n || decide (48 <= n /\ n <= 57) || decide (n = 45)
theorem Qjo (k : Nat) (n : Int) : Qas k n = some (letB n) := by
 unfold Qas letB
 by_cases h1 : 97 <= n <;> by_cases h2 : n <= 122 <;> by_cases h3 : 65 <= n <;> simp [h1, h2, h3]
theorem Qnn (k : Nat) (n : Int) : Qa7 k n = some (!namB n) := by
 unfold Qa7 namB
 rw [Qjo, Option.bind_some]
 cases letB n
 ·by_cases h1 : 48 <= n <;> by_cases h2 : n <= 57 <;> simp [h1, h2]
 ·rfl
def bt8 (s : ByteArray) (i : Nat) : Int := bat s (i : Int)
theorem Qno {s : ByteArray} {i : Nat} (h : i < s.size) : bt8 s i = ((s.get! i).toNat : Int) := by
 unfold bt8 bat
 rw [show ((i : Int)).toNat = i from rfl, getElem?_pos s i h]
 dsimp only
 rw [show s.get! i = s[i] from by cases s; exact getElem!_pos _ i h]
theorem Qt5 {s : ByteArray} {i : Nat} (h : i < s.size) (hb : bt8 s i < 128) : Go.Utf8.decode s i = ((bt8 s i).toNat, 1) := by
 rw [Qno h] at hb ⊢
 unfold Go.Utf8.decode
 dsimp only
 rw [if_pos (by rw [Nat.add_zero]; omega)]
 simp
theorem decode_high {s : ByteArray} {i : Nat} (h : i < s.size) (hb : 128 <= bt8 s i) : 128 <= (Go.Utf8.decode s i).1 := by
 rw [Qno h] at hb
 have he : 128 <= Go.Utf8.runeError := by decide
 unfold Go.Utf8.decode
 dsimp only
 rw [if_neg (by rw [Nat.add_zero]; omega)]
 split
 ·split
  ·dsimp only; omega
  ·exact he
 ·split
  ·split
   ·rename_i hh; simp only [Bool.and_eq_true, decide_eq_true_eq] at hh; dsimp only; omega
   ·exact he
  ·split
   ·split
    ·rename_i hh; simp only [Bool.and_eq_true, decide_eq_true_eq] at hh; dsimp only; omega
    ·exact he
   ·exact he
theorem Qr9 {n : Int} (h : 128 <= n) : namB n = false := by
 unfold namB letB
 simp
 omega
def allN (s : ByteArray) : Nat -> Nat -> Bool
 | 0, _ => true
 | d + 1, i => namB (bt8 s i) && allN s d (i + 1)
theorem Qt6 (k : Nat) (s : ByteArray) : ∀ (d fuel i : Nat), s.size = i + d -> d < fuel ->
 ∃ j : Nat, Qp k s true fuel (i : Int) = some (match allN s d i with | true => .inr () | false => .inl (j : Int)) := by
 intro d
 induction d with
 | zero =>
   intro fuel i h hf
   obtain ⟨g, rfl⟩ : ∃ g, fuel = g + 1 := ⟨fuel - 1, by omega⟩
   rw [Qp.eq_2, if_neg (by omega)]
   exact ⟨0, rfl⟩
 | succ d ih =>
   intro fuel i h hf
   obtain ⟨g, rfl⟩ : ∃ g, fuel = g + 1 := ⟨fuel - 1, by omega⟩
   obtain ⟨j, hj⟩ := ih g (i + 1) (by omega) (by omega)
   rw [Qp.eq_2, if_pos (by omega), if_pos (by omega), Qnn, Option.bind_some]
   rw [show ((i : Int)).toNat = i from rfl]
   unfold allN
   by_cases hb : bt8 s i < 128
   ·rw [Qt5 (by omega) hb]
    have h0 : 0 <= bt8 s i := by rw [Qno (by omega)]; omega
    dsimp only
    rw [show (((bt8 s i).toNat : Nat) : Int) = bt8 s i by omega]
    cases hn : namB (bt8 s i) with
    | true =>
      rw [if_neg (by decide), show (i : Int) + ((1 : Nat) : Int) = ((i + 1 : Nat) : Int) by omega, hj]
      exact ⟨j, rfl⟩
    | false => exact ⟨i, by rw [if_pos (by decide)]; rfl⟩
   ·have := decode_high (s := s) (i := i) (by omega) (by omega)
    rw [Qr9 (n := ((Go.Utf8.decode s i).1 : Int)) (by omega), Qr9 (n := bt8 s i) (by omega)]
    exact ⟨i, by rw [if_pos (by decide)]; rfl⟩
def nameB (s : ByteArray) : Bool := match inR 1 12 (s.size : Int) with
 | true => letB (bt8 s 0) && allN s s.size 0
 | false => false
theorem Qt7 (k : Nat) (hk : 100 < k) (hk2 : k <= 100000000000000000000) (s : ByteArray) : Qcj k s = some (nameB s) := by
 unfold Qcj nameB
 rw [Y8 k _ _ _ (by omega) hk2, Option.bind_some]
 cases h : inR 1 12 (s.size : Int) with
 | false => rfl
 | true =>
   have h := Qfe.1 h
   have h0 : bt8 s 0 = ((s.get! 0).toNat : Int) := Qno (by omega)
   have hlt : (s.get! 0).toNat < 256 := (s.get! 0).toNat_lt
   rw [if_pos rfl, if_pos (by omega), Qjo, Option.bind_some]
   rw [show IntKind.i32.wrap (bat s 0) = bt8 s 0 by
    show IntKind.i32.wrap (bt8 s 0) = bt8 s 0
    rw [h0]
    unfold IntKind.wrap
    simp [IntKind.signed, IntKind.bits]
    omega]
   cases letB (bt8 s 0) with
   | false => rfl
   | true =>
     rw [if_pos rfl]
     unfold Xc Xk Xl
     obtain ⟨j, hj⟩ := Qt6 k s s.size k 0 (by omega) (by omega)
     rw [show Qp k s true k 0 = _ from hj]
     cases allN s s.size 0 with
     | true => rfl
     | false =>
       simp only [Option.bind_some]
       rw [decide_eq_true (show (0 : Int) <= (j : Int) by omega)]; rfl
def mOK (m : Qd) : Bool := inR (-25920000) 25920000 m.Least && (inR (-25920000) 25920000 m.Most && (inR 0 324000 m.Low && (inR 0 324000 m.High && inR 1 1000000 m.Speed)))
def mntE (m : Qd) : Int := match mOK m with
 | true => if m.Most < m.Least then 9 else if m.High < m.Low then 9 else if tabE m.Refraction = 0 then tabE m.Drift else tabE m.Refraction
 | false => 2
theorem Qkw (k : Nat) (hk : 100 < k) (hk2 : k <= 100000000000000000000) (m : Qd) (h1 : m.Refraction.length < k) (h2 : m.Drift.length < k) : Y4 k m = some (mntE m) := by
 unfold Y4 mntE mOK
 rw [Qi6 k _ _ _ (by decide) hk hk2, Option.bind_some]
 cases inR (-25920000) 25920000 m.Least with
 | false => rfl
 | true =>
   cases inR (-25920000) 25920000 m.Most with
   | false => rfl
   | true =>
     rw [show (true && true) = true from rfl, if_pos rfl, Qkz k _ _ _ _ hk hk2, Option.bind_some]
     cases inR 0 324000 m.Low with
     | false => rfl
     | true =>
       cases inR 0 324000 m.High with
       | false => rfl
       | true =>
         rw [show (true && true) = true from rfl, if_pos rfl, Y8 k _ _ _ hk hk2, Option.bind_some]
         cases inR 1 1000000 m.Speed with
         | false => rfl
         | true =>
           rw [if_pos rfl, Qk0 k hk hk2 _ h1, Qk0 k hk hk2 _ h2, Option.bind_some, Option.bind_some]
           show _ = some (if m.Most < m.Least then 9 else if m.High < m.Low then 9 else if tabE m.Refraction = 0 then tabE m.Drift else tabE m.Refraction)
           split
           ·rfl
           ·split
            ·rfl
            ·split <;> rfl
structure Mnt (m : Qd) : Prop where
 lo : -25920000 <= m.Least
 mid : m.Least <= m.Most
 hi : m.Most <= 25920000
 h0 : 0 <= m.Low /\ m.Low <= m.High /\ m.High <= 324000
 sp : 1 <= m.Speed /\ m.Speed <= 1000000
 re : Tab m.Refraction
 dr : Tab m.Drift
theorem Mnt.of {m : Qd} (h : mntE m = 0) : Mnt m := by
 unfold mntE at h
 cases h1 : mOK m with
 | false => rw [h1] at h; cases h
 | true =>
   rw [h1] at h
   have h : (if m.Most < m.Least then (9 : Int) else if m.High < m.Low then 9 else if tabE m.Refraction = 0 then tabE m.Drift else tabE m.Refraction) = 0 := h
   simp only [mOK, Bool.and_eq_true, Qfe] at h1
   split at h
   ·omega
   ·split at h
    ·omega
    ·split at h
     ·exact ⟨by omega, by omega, by omega, by omega, by omega, Tab.of ‹_›, Tab.of h⟩
     ·omega
def tOK (t : Qa) : Bool := inR 0 1295999 t.Azimuth && (inR 0 324000 t.Height && (inR 0 10000000 t.From && (inR 0 10000000 t.To && inR 1 10000 t.Dwell)))
def tgtE (t : Qa) : Int := match nameB t.Name with
 | true => match tOK t with
   | true => if t.To <= t.From then 9 else 0
   | false => 2
 | false => 4
theorem Qjn (k : Nat) (hk : 100 < k) (hk2 : k <= 100000000000000000000) (t : Qa) : Yj k t = some (tgtE t) := by
 unfold Yj tgtE tOK
 rw [Qt7 k hk hk2, Option.bind_some]
 cases nameB t.Name with
 | false => rfl
 | true =>
   rw [if_pos rfl, Y8 k _ _ _ hk hk2, Option.bind_some]
   cases inR 0 1295999 t.Azimuth with
   | false => rfl
   | true =>
     rw [if_pos rfl, Y8 k _ _ _ hk hk2, Option.bind_some]
     cases inR 0 324000 t.Height with
     | false => rfl
     | true =>
       rw [if_pos rfl, Qkz k _ _ _ _ hk hk2, Option.bind_some]
       cases inR 0 10000000 t.From with
       | false => rfl
       | true =>
         cases inR 0 10000000 t.To with
         | false => rfl
         | true =>
           rw [show (true && true) = true from rfl, if_pos rfl, Y8 k _ _ _ hk hk2, Option.bind_some]
           cases inR 1 10000 t.Dwell with
           | false => rfl
           | true =>
             show (if t.To <= t.From then some 9 else some 0) = some (if t.To <= t.From then 9 else 0)
             split <;> rfl
structure Tgt (t : Qa) : Prop where
 az : 0 <= t.Azimuth /\ t.Azimuth < 1296000
 he : 0 <= t.Height /\ t.Height <= 324000
 fr : 0 <= t.From /\ t.From < t.To /\ t.To <= 10000000
 dw : 1 <= t.Dwell /\ t.Dwell <= 10000
theorem Tgt.of {t : Qa} (h : tgtE t = 0) : Tgt t := by
 unfold tgtE at h
 cases h0 : nameB t.Name with
 | false => rw [h0] at h; cases h
 | true =>
   rw [h0] at h
   cases h1 : tOK t with
   | false => rw [h1] at h; cases h
   | true =>
     rw [h1] at h
     have h : (if t.To <= t.From then (9 : Int) else 0) = 0 := h
     simp only [tOK, Bool.and_eq_true, Qfe] at h1
     split at h
     ·omega
     ·exact ⟨by omega, by omega, by omega, by omega⟩
def apA (m : Qd) (t : Qa) (d : Int) : Int := (t.Azimuth + val m.Drift d) % 1296000
def apH (m : Qd) (t : Qa) : Int := t.Height + val m.Refraction t.Height
theorem Q2u (m : Qd) (t : Qa) (d : Int) : 0 <= apA m t d /\ apA m t d < 1296000 := by unfold apA; omega
theorem Qhp (k : Nat) (hk : 100 < k) {m : Qd} {t : Qa} {d : Int} (hm : Mnt m) (ht : Tgt t) (hd : 0 <= d /\ d <= 100000) : Qap k m t d = some ⟨apA m t d, apH m t⟩ := by
 unfold Qap
 have hz := ht.az
 have hh := ht.he
 have v1 := Qz2 hm.dr d
 have v2 := Qz2 hm.re t.Height
 rw [Qk1 k hk hm.dr (by omega), Option.bind_some, Xt (n := t.Azimuth + val m.Drift d) (by omega) (by omega), Qj6 k (by omega) (by decide), Option.bind_some, Qk1 k hk hm.re (by omega), Option.bind_some, Xt (n := t.Height + _) (by omega) (by omega), Xt (n := (t.Azimuth + val m.Drift d) / 1296000 * 1296000) (by omega) (by omega), Xt (by omega) (by omega)]
 unfold apA apH
 rw [show t.Azimuth + val m.Drift d - (t.Azimuth + val m.Drift d) / 1296000 * 1296000 = (t.Azimuth + val m.Drift d) % 1296000 by omega]
def ups (a most : Int) : Nat -> Int -> List Int
 | 0, _ => []
 | d + 1, x => if a + x * 1296000 <= most then x :: ups a most d (x + 1) else []
def flt (a least most : Int) : Nat -> Int -> List Int
 | 0, _ => []
 | d + 1, x => match inR least most (a + x * 1296000) with
   | true => x :: flt a least most d (x + 1)
   | false => flt a least most d (x + 1)
theorem Qsa (a least most : Int) : ∀ (d : Nat) (x : Int), most < a + x * 1296000 -> flt a least most d x = []
 | 0, x, _ => rfl
 | d + 1, x, h => by
   simp only [flt]
   rw [show inR least most (a + x * 1296000) = false from Qvs.2 (by omega)]
   exact Qsa a least most d (x + 1) (by omega)
theorem Qvt (a least most : Int) : ∀ (d : Nat) (x : Int), least <= a + x * 1296000 -> flt a least most d x = ups a most d x
 | 0, x, _ => rfl
 | d + 1, x, h => by
   simp only [flt, ups]
   by_cases c : a + x * 1296000 <= most
   ·rw [if_pos c, show inR least most (a + x * 1296000) = true from Qfe.2 ⟨h, c⟩]
    show x :: _ = _
    rw [Qvt a least most d (x + 1) (by omega)]
   ·rw [if_neg c, show inR least most (a + x * 1296000) = false from Qvs.2 (by omega)]
    exact Qsa a least most d (x + 1) (by omega)
theorem Qsb (a least most : Int) : ∀ (n d : Nat) (x : Int), a + (x + n - 1) * 1296000 < least -> flt a least most (n + d) x = flt a least most d (x + n)
 | 0, d, x, _ => by rw [Nat.zero_add]; congr 1; omega
 | n + 1, d, x, h => by
   rw [show n + 1 + d = (n + d) + 1 by omega]
   simp only [flt]
   rw [show inR least most (a + x * 1296000) = false from Qvs.2 (by omega)]
   show flt a least most (n + d) (x + 1) = _
   rw [Qsb a least most n d (x + 1) (by omega)]
   congr 1; omega
def trn (m : Qd) (a : Int) : List Int := flt a m.Least m.Most 43 (-21)
theorem Q0x {m : Qd} (hm : Mnt m) {a : Int} (ha : 0 <= a /\ a < 1296000) : trn m a = ups a m.Most (22 - -((a - m.Least) / 1296000)).toNat (-((a - m.Least) / 1296000)) := by
 have h1 := hm.lo
 have h2 := hm.hi
 have h3 := hm.mid
 obtain ⟨x, hx⟩ : ∃ x : Int, x = -((a - m.Least) / 1296000) := ⟨_, rfl⟩
 obtain ⟨n, hn⟩ : ∃ n : Nat, (n : Int) = x + 21 := ⟨(x + 21).toNat, by omega⟩
 rw [<- hx]
 unfold trn
 rw [show 43 = n + (22 - x).toNat by omega, Qsb a m.Least m.Most n _ (-21) (by omega), show (-21 : Int) + n = x by omega]
 exact Qvt a m.Least m.Most _ x (by omega)
theorem Q2v (k : Nat) (m : Qd) (t : Qa) (p : A26) (hm : Mnt m) (ha : 0 <= p.e0 /\ p.e0 < 1296000) : ∀ (d fuel : Nat) (y6 y7 : List Int) (x : Int), x + d = 22 -> -30 <= x -> d < fuel -> y6.length + d <= 1000 -> y7.length + d <= 1000 ->
 Jb k m t p fuel y6 y7 x = some (y6 ++ ups p.e0 m.Most d x, y7 ++ (ups p.e0 m.Most d x).map fun x => p.e0 + x * 1296000) := by
 have h2 := hm.hi
 intro d
 induction d with
 | zero =>
   intro fuel y6 y7 x hx hx2 hf h6 h7
   obtain ⟨g, rfl⟩ : ∃ g, fuel = g + 1 := ⟨fuel - 1, by omega⟩
   rw [Jb.eq_2, Xt (n := x * 1296000) (by omega) (by omega), Xt (n := p.e0 + _) (by omega) (by omega), if_neg (by omega)]
   simp [ups]
 | succ d ih =>
   intro fuel y6 y7 x hx hx2 hf h6 h7
   obtain ⟨g, rfl⟩ : ∃ g, fuel = g + 1 := ⟨fuel - 1, by omega⟩
   rw [Jb.eq_2, Xt (n := x * 1296000) (by omega) (by omega), Xt (n := p.e0 + _) (by omega) (by omega)]
   simp only [ups]
   by_cases c : p.e0 + x * 1296000 <= m.Most
   ·rw [if_pos c, if_pos (by simp; omega), if_pos (by simp; omega), Xt (n := x + 1) (by omega) (by omega), ih g _ _ (x + 1) (by omega) (by omega) (by omega) (by simp; omega) (by simp; omega), if_pos c]
    simp
   ·rw [if_neg c, if_neg c]; simp
def stpE (m : Qd) (t : Qa) (d : Int) : Int := match inR m.Low m.High (apH m t) with
 | true => if (trn m (apA m t d)).length = 0 then 12 else 0
 | false => 26
def posL (m : Qd) (t : Qa) (d : Int) : List Int := (trn m (apA m t d)).map fun x => apA m t d + x * 1296000
def Q2w : Xe := ⟨⟨ByteArray.empty, 0, 0, 0, 0, 0⟩, [], []⟩
theorem Qmh (k : Nat) (hk : 100 < k) (hk2 : k <= 100000000000000000000) {m : Qd} {t : Qa} {d : Int} (hm : Mnt m) (ht : Tgt t) (hd : 0 <= d /\ d <= 100000) :
 Qbo k m t d = some (if stpE m t d = 0 then (⟨t, trn m (apA m t d), posL m t d⟩, 0) else (Q2w, stpE m t d)) := by
 unfold Qbo stpE
 rw [Qhp k hk hm ht hd, Option.bind_some, Y8 k _ _ _ hk hk2, Option.bind_some]
 cases inR m.Low m.High (apH m t) with
 | false => rfl
 | true =>
   have h1 := hm.lo
   have h2 := hm.hi
   have h3 := hm.mid
   have ha := Q2u m t d
   unfold Qee
   dsimp only
   rw [if_pos rfl, Xt (n := m.Least - _) (by omega) (by omega), Xt (n := 0 - _) (by omega) (by omega), Qj6 k (by omega) (by decide), Option.bind_some, Option.bind_some, Xt (by omega) (by omega)]
   have e : (0 : Int) - (0 - (m.Least - apA m t d)) / 1296000 = -((apA m t d - m.Least) / 1296000) := by
    rw [show (0 : Int) - (m.Least - apA m t d) = apA m t d - m.Least by omega]; omega
   rw [e, Q2v k m t ⟨apA m t d, apH m t⟩ hm ha (22 - -((apA m t d - m.Least) / 1296000)).toNat k [] [] _ (by omega) (by omega) (by omega) (by simp; omega) (by simp; omega), Option.bind_some]
   simp only [List.nil_append]
   rw [<- Q0x hm ha]
   by_cases c : (trn m (apA m t d)).length = 0
   ·rw [if_pos (by omega)]
    simp only [if_pos c]
    rfl
   ·rw [if_neg (by omega)]
    simp only [if_neg c]
    rfl
def Qmi (m : Qd) : Bool := Qt8 m.Refraction && Qt8 m.Drift
theorem Qvu (k : Nat) (m : Qd) : Yp k m = some (Qmi m) := by
 unfold Yp Qmi
 rw [Qsc, Qsc]
 cases Qt8 m.Refraction <;> rfl
theorem Qvv {m : Qd} (h : Qmi m = true) : m.Refraction.length <= 43 /\ m.Drift.length <= 43 := by
 unfold Qmi Qt8 at h
 rw [Bool.and_eq_true, decide_eq_true_iff, decide_eq_true_iff] at h
 omega
theorem Qvw (a least most : Int) : ∀ (d : Nat) (x : Int), (flt a least most d x).length <= d
 | 0, x => Nat.le_refl _
 | d + 1, x => by
   simp only [flt]
   have := Qvw a least most d (x + 1)
   split
   ·simp only [List.length_cons]; omega
   ·omega
theorem Qi7 (m : Qd) (a : Int) : (trn m a).length <= 43 := Qvw _ _ _ _ _
end Go.Proofs.Ytbgajdbpdhipiaa.Vg
end

section
set_option linter.unusedVariables false
set_option linter.unusedSimpArgs false
namespace Go.Proofs.Ytbgajdbpdhipiaa.Vg
open Go Go.Proofs.Ytbgajdbpdhipiaa.Ev Go.Proofs.Ytbgajdbpdhipiaa.Vv
abbrev At2 := A26
def Qrc (t o : Qa) : Bool := decide (o.Name = t.Name)
def tgE (m : Qd) (d : Int) (b : List Qa) (t : Qa) : Int := if tgtE t = 0 then (if b.any (Qrc t) = true then 5 else stpE m t d) else tgtE t
def errs (m : Qd) (d : Int) (l : List Qa) : Nat -> Nat -> Option (Int × Int)
 | 0, _ => none
 | n + 1, i => if tgE m d (l.take i) (l.getD i default) = 0 then errs m d l n (i + 1) else some ((i : Int), tgE m d (l.take i) (l.getD i default))
def trE (m : Qd) (l : List Qa) (p : At2) : Int × Int :=
 if mntE m = 0 then (if inR 0 100000 p.e0 = true then (if inR m.Least m.Most p.e1 = true then (if 20 < l.length then (0, 8) else (errs m p.e0 l l.length 0).getD (0, 0)) else (0, 2)) else (0, 2)) else (0, mntE m)
def stp (m : Qd) (d : Int) (t : Qa) : Xe := ⟨t, trn m (apA m t d), posL m t d⟩
theorem Q24 (k : Nat) (l : List Qa) (t : Qa) (hl : l.length < 1000000000) : ∀ (d fuel i : Nat), l.length = i + d -> d < fuel ->
 ∃ j : Nat, Qe k l (t.Name, t.Azimuth, t.Height, t.From, t.To, t.Dwell) fuel (i : Int) = some (match (l.drop i).any (Qrc t) with | true => .inl (j : Int) | false => .inr ()) := by
 intro d
 induction d with
 | zero =>
   intro fuel i h hf
   obtain ⟨g, rfl⟩ : ∃ g, fuel = g + 1 := ⟨fuel - 1, by omega⟩
   rw [Qe.eq_2, if_neg (by omega), List.drop_eq_nil_of_le (by omega)]
   exact ⟨0, rfl⟩
 | succ d ih =>
   intro fuel i h hf
   obtain ⟨g, rfl⟩ : ∃ g, fuel = g + 1 := ⟨fuel - 1, by omega⟩
   obtain ⟨j, hj⟩ := ih g (i + 1) (by omega) (by omega)
   rw [Qe.eq_2, if_pos (by omega), if_pos (by omega), Yr (by omega), hj, X8 (y := l) (i := i) (by omega) default]
   simp only [Int.toNat_natCast, List.any_cons]
   show ∃ j : Nat, ((some (Qrc t (l.getD i default))).bind _) = _
   rw [Option.bind_some]
   cases Qrc t (l.getD i default) with
   | true => exact ⟨i, by rw [if_pos rfl]; rfl⟩
   | false => exact ⟨j, by rw [if_neg (by decide)]; rfl⟩
theorem Quo (k : Nat) (hk : 100 < k) (hk2 : k <= 100000000000000000000) (b : List Qa) (hb : b.length < k) (hb2 : b.length <= 1000) (t : Qa) : Qae k b t = some (if tgtE t = 0 then (if b.any (Qrc t) = true then 5 else 0) else tgtE t) := by
 unfold Qae
 rw [Qjn k hk hk2, Option.bind_some]
 by_cases h : tgtE t = 0
 ·rw [if_pos h, if_pos h]
  unfold Qu Qx
  obtain ⟨j, hj⟩ := Q24 k b t (by omega) b.length k 0 (by omega) hb
  rw [show Qe k b (t.Name, t.Azimuth, t.Height, t.From, t.To, t.Dwell) k 0 = _ from hj, List.drop_zero]
  cases b.any (Qrc t) with
  | true =>
    simp only [Option.bind_some]
    rw [decide_eq_true (show (0 : Int) <= (j : Int) by omega)]; rfl
  | false => rfl
 ·rw [if_neg h, if_neg h]
theorem Q1j {α : Type} (l : List α) (i : Nat) : sl l 0 i = l.take i := by unfold sl; rfl
theorem Q25 (k : Nat) (hk : 100 < k) (hk2 : k <= 100000000000000000000) {m : Qd} (hm : Mnt m) (l : List Qa) (p : At2) (hp : 0 <= p.e0 /\ p.e0 <= 100000) (hl : l.length <= 20) : ∀ (d fuel i : Nat) (y : List Xe), l.length = i + d -> d < fuel -> y.length = i ->
 Xu k m l p fuel y (i : Int) = some (match errs m p.e0 l d i with | some e => .inl e | none => .inr (y ++ (l.drop i).map (stp m p.e0))) := by
 intro d
 induction d with
 | zero =>
   intro fuel i y h hf hy
   obtain ⟨g, rfl⟩ : ∃ g, fuel = g + 1 := ⟨fuel - 1, by omega⟩
   rw [Xu.eq_2, if_neg (by omega), List.drop_eq_nil_of_le (by omega)]
   simp [errs]
 | succ d ih =>
   intro fuel i y h hf hy
   obtain ⟨g, rfl⟩ : ∃ g, fuel = g + 1 := ⟨fuel - 1, by omega⟩
   rw [Xu.eq_2, if_pos (by omega), if_pos (by omega), if_pos (by omega), Q1j, Quo k hk hk2 _ (by rw [List.length_take]; omega) (by rw [List.length_take]; omega), Option.bind_some, Yr (by omega), X8 (y := l) (i := i) (by omega) default]
   simp only [Int.toNat_natCast, errs]
   by_cases h1 : tgtE (l.getD i default) = 0
   ·rw [if_pos h1]
    by_cases h2 : (l.take i).any (Qrc (l.getD i default)) = true
    ·have e : tgE m p.e0 (l.take i) (l.getD i default) = 5 := by unfold tgE; rw [if_pos h1, if_pos h2]
     rw [if_pos h2, e]; rfl
    ·have e : tgE m p.e0 (l.take i) (l.getD i default) = stpE m (l.getD i default) p.e0 := by unfold tgE; rw [if_pos h1, if_neg h2]
     rw [if_neg h2, if_pos rfl, Qmh k hk hk2 hm (Tgt.of h1) hp, Option.bind_some, e]
     by_cases h3 : stpE m (l.getD i default) p.e0 = 0
     ·rw [if_pos h3, if_pos h3, if_pos rfl, if_pos (by simp; omega), ih g (i + 1) _ (by omega) (by omega) (by simp; omega)]
      congr 1
      cases errs m p.e0 l d (i + 1) with
      | some e => rfl
      | none => simp [stp]
     ·rw [if_neg h3, if_neg h3, if_neg h3]
   ·have e : tgE m p.e0 (l.take i) (l.getD i default) = tgtE (l.getD i default) := by unfold tgE; rw [if_neg h1]
    rw [if_neg h1, if_neg h1, e, if_neg h1]
theorem Qnm (m : Qd) (d : Int) (l : List Qa) : ∀ (n i : Nat) (e : Int × Int), errs m d l n i = some e -> e.2 ≠ 0
 | 0, i, e, h => by cases h
 | n + 1, i, e, h => by
   simp only [errs] at h
   split at h
   ·exact Qnm m d l n (i + 1) e h
   ·injection h with h; subst h; assumption
theorem Qkv (m : Qd) (d : Int) (l : List Qa) : ∀ (n i : Nat), errs m d l n i = none -> ∀ j, i <= j -> j < i + n -> tgE m d (l.take j) (l.getD j default) = 0
 | 0, i, h, j, h1, h2 => by omega
 | n + 1, i, h, j, h1, h2 => by
   simp only [errs] at h
   split at h
   ·by_cases e : j = i
    ·subst e; assumption
    ·exact Qkv m d l n (i + 1) h j (by omega) (by omega)
   ·cases h
theorem Qi0 (k : Nat) (hk : 100 < k) (hk2 : k <= 100000000000000000000) (m : Qd) (h1 : m.Refraction.length < k) (h2 : m.Drift.length < k) (l : List Qa) (p : At2) :
 Qaz k m l p = some ((if (trE m l p).2 = 0 then ⟨p.e1, l.map (stp m p.e0)⟩ else ⟨0, []⟩), trE m l p) := by
 unfold Qaz trE Wh
 rw [Qkw k hk hk2 m h1 h2, Option.bind_some, Y8 k _ _ _ hk hk2, Y8 k _ _ _ hk hk2]
 simp only [Option.bind_some]
 by_cases c1 : mntE m = 0
 ·simp only [if_pos c1]
  by_cases c2 : inR 0 100000 p.e0 = true
  ·simp only [if_pos c2, Option.bind_some, if_true]
   by_cases c3 : inR m.Least m.Most p.e1 = true
   ·simp only [if_pos c3]
    by_cases c4 : 20 < l.length
    ·rw [if_pos (by omega)]
     simp only [if_pos c4]
     rfl
    ·rw [if_neg (by omega), show Xu k m l p k [] 0 = _ from Q25 k hk hk2 (Mnt.of c1) l p (Qfe.1 c2) (by omega) l.length k 0 [] (by omega) (by omega) rfl, Option.bind_some]
     simp only [if_neg c4]
     cases he : errs m p.e0 l l.length 0 with
     | some e =>
       have := Qnm m p.e0 l _ _ e he
       show some (_, _, _) = some ((if e.2 = 0 then _ else _), e)
       rw [if_neg this]
     | none =>
       show some (_, _, _) = some ((if (0 : Int) = 0 then _ else _), (0, 0))
       rw [if_pos rfl]; rfl
   ·simp only [if_neg c3]
    rfl
  ·simp only [if_neg c2, Option.bind_some]
   rfl
 ·simp only [if_neg c1]
structure Tr (m : Qd) (l : List Qa) (p : At2) : Prop where
 mnt : Mnt m
 day : 0 <= p.e0 /\ p.e0 <= 100000
 beg : m.Least <= p.e1 /\ p.e1 <= m.Most
 len : l.length <= 20
 tgt : ∀ i, i < l.length -> Tgt (l.getD i default) /\ stpE m (l.getD i default) p.e0 = 0
theorem Tr.of {m : Qd} {l : List Qa} {p : At2} (h : (trE m l p).2 = 0) : Tr m l p := by
 unfold trE at h
 split at h
 ·rename_i c1
  split at h
  ·rename_i c2
   split at h
   ·rename_i c3
    split at h
    ·cases h
    ·rename_i c4
     cases he : errs m p.e0 l l.length 0 with
     | some e => rw [he] at h; exact absurd h (Qnm m p.e0 l _ _ e he)
     | none =>
       refine ⟨Mnt.of c1, Qfe.1 c2, Qfe.1 c3, by omega, fun i hi => ?_⟩
       have := Qkv m p.e0 l _ _ he i (by omega) (by omega)
       unfold tgE at this
       split at this
       ·rename_i g1
        split at this
        ·cases this
        ·exact ⟨Tgt.of g1, this⟩
       ·contradiction
   ·cases h
  ·cases h
 ·contradiction
def Qoz (x : Qad) : Bool := x.Targets.all (fun t => decide (t.Name.size <= 30)) && (Qmi x.Mount && decide (x.Targets.length <= 5 \/ 20 < x.Targets.length /\ x.Targets.length <= 23))
theorem Qwu {i : Nat} (h : i < 9223372036854775807) : w64 ((i : Int) + 1) = ((i + 1 : Nat) : Int) := by
 rw [Xt (by omega) (by omega)]; omega
theorem Q1k (k : Nat) (x : Qad) (hl : x.Targets.length <= 9223372036854775807) : ∀ (d fuel i : Nat), x.Targets.length = i + d -> d < fuel ->
 Zu k x fuel (i : Int) = some (sumB ((x.Targets.drop i).all (fun t => decide (t.Name.size <= 30)))) := by
 intro d
 induction d with
 | zero =>
   intro fuel i h hf
   obtain ⟨g, rfl⟩ : ∃ g, fuel = g + 1 := ⟨fuel - 1, by omega⟩
   rw [Zu.eq_2, if_neg (by omega), List.drop_eq_nil_of_le (by omega)]; rfl
 | succ d ih =>
   intro fuel i h hf
   obtain ⟨g, rfl⟩ : ∃ g, fuel = g + 1 := ⟨fuel - 1, by omega⟩
   rw [Zu.eq_2, if_pos (by omega), if_pos (by omega), Qwu (by omega), ih g (i + 1) (by omega) (by omega), X8 (y := x.Targets) (i := i) (by omega) default]
   simp only [Int.toNat_natCast, List.all_cons]
   by_cases c : 30 < ((x.Targets.getD i default).Name.size : Int)
   ·rw [if_pos c, decide_eq_false (by omega)]; rfl
   ·rw [if_neg c, decide_eq_true (show (x.Targets.getD i default).Name.size <= 30 by omega)]; rfl
theorem short_any (k : Nat) (x : Qad) (hl : x.Targets.length < k) (hk : x.Targets.length <= 9223372036854775807) : Yq k x = some (Qoz x) := by
 unfold Yq Qoz
 rw [show Zu k x k 0 = _ from Q1k k x (by omega) x.Targets.length k 0 (by omega) hl, List.drop_zero, Option.bind_some, Qvu]
 cases x.Targets.all (fun t => decide (t.Name.size <= 30)) with
 | false => rfl
 | true =>
   simp only [sumB, Option.bind_some]
   cases Qmi x.Mount with
   | false => rfl
   | true =>
     rw [if_pos rfl]
     by_cases c1 : (x.Targets.length : Int) <= 5
     ·rw [if_pos c1, decide_eq_true (show x.Targets.length <= 5 \/ 20 < x.Targets.length /\ x.Targets.length <= 23 by omega)]; rfl
     ·rw [if_neg c1]
      by_cases c2 : 20 < (x.Targets.length : Int)
      ·rw [if_pos c2]
       congr 1
       show decide _ = decide _
       rw [decide_eq_decide]; omega
      ·rw [if_neg c2, decide_eq_false (show ¬(x.Targets.length <= 5 \/ 20 < x.Targets.length /\ x.Targets.length <= 23) by omega)]; rfl
theorem Qqn {x : Qad} (h : Qoz x = true) : x.Mount.Refraction.length <= 43 /\ x.Mount.Drift.length <= 43 /\ x.Targets.length <= 23 := by
 unfold Qoz at h
 rw [Bool.and_eq_true, Bool.and_eq_true] at h
 obtain ⟨a, b⟩ := Qvv h.2.1
 have := of_decide_eq_true h.2.2
 omega
end Go.Proofs.Ytbgajdbpdhipiaa.Vg
end

section
set_option linter.unusedVariables false
set_option linter.unusedSimpArgs false
namespace Go.Proofs.Ytbgajdbpdhipiaa.Vg
open Go Go.Proofs.Ytbgajdbpdhipiaa.Ev Go.Proofs.Ytbgajdbpdhipiaa.Vv
def absI (n : Int) : Int := if n < 0 then -n else n
def cst (a b : Int) : Int := if 648000 < absI (b - a) then absI (b - a) + 10000000000 else absI (b - a)
def small (a : Int) : Prop := -1000000000000 <= a /\ a <= 1000000000000
theorem Qm6 {a b : Int} {A : Int} (ha : -A <= a /\ a <= A) (hb : -A <= b /\ b <= A) : 0 <= absI (b - a) /\ absI (b - a) <= 2 * A := by unfold absI; split <;> omega
theorem Qe2 (k : Nat) {a b : Int} (ha : small a) (hb : small b) : Jw k a b = some (absI (b - a), decide (648000 < absI (b - a))) := by
 unfold Jw
 unfold small at ha hb
 have e : maxI (w64 (b - a)) (w64 (a - b)) = absI (b - a) := by
  rw [Xt (n := b - a) (by omega) (by omega), Xt (n := a - b) (by omega) (by omega)]
  unfold maxI absI
  split <;> split <;> omega
 rw [e]
theorem Qhj (k : Nat) {a b : Int} (ha : small a) (hb : small b) : Ja k a b = some (cst a b) := by
 unfold Ja cst
 have h := Qm6 ha hb
 rw [Qe2 k ha hb, Option.bind_some]
 by_cases c : 648000 < absI (b - a)
 ·rw [if_pos (by simpa using c), if_pos c, Xt (by omega) (by omega)]
 ·rw [if_neg (by simpa using c), if_neg c]
def near (a : Int) : Prop := -25920000 <= a /\ a <= 25920000
theorem near.small {a : Int} (h : near a) : small a := by unfold near at h; unfold Vg.small; omega
theorem Qlx {a b : Int} (ha : near a) (hb : near b) : 0 <= cst a b /\ cst a b <= 11000000000 := by
 have h := Qm6 (A := 25920000) ha hb
 unfold cst; split <;> omega
def pos (m : Qd) (t : Qa) (d x : Int) : Int := apA m t d + x * 1296000
theorem Qch (a least most : Int) : ∀ (n : Nat) (x y : Int), y ∈ flt a least most n x -> least <= a + y * 1296000 /\ a + y * 1296000 <= most
 | 0, x, y, h => by cases h
 | n + 1, x, y, h => by
   simp only [flt] at h
   cases c : inR least most (a + x * 1296000) with
   | true =>
     rw [c] at h
     rcases List.mem_cons.1 h with rfl | h
     ·exact Qfe.1 c
     ·exact Qch a least most n (x + 1) y h
   | false => rw [c] at h; exact Qch a least most n (x + 1) y h
theorem Qr8 {m : Qd} (hm : Mnt m) {t : Qa} {d x : Int} (h : x ∈ trn m (apA m t d)) : m.Least <= pos m t d x /\ pos m t d x <= m.Most := Qch _ _ _ _ _ _ h
theorem Qic {m : Qd} (hm : Mnt m) {t : Qa} {d x : Int} (h : x ∈ trn m (apA m t d)) : near (pos m t d x) := by
 have := Qr8 hm h
 have h1 := hm.lo
 have h2 := hm.hi
 unfold near; omega
def chL (m : Qd) (d : Int) : List Qa -> List Int -> Option (List Int)
 | [], _ => some []
 | _ :: _, [] => none
 | t :: l, x :: xs => if x ∈ trn m (apA m t d) then (chL m d l xs).map (pos m t d x :: ·) else none
theorem Quv (k : Nat) (xs : List Int) (v : Int) (hl : xs.length < 1000000000) : ∀ (d fuel i : Nat), xs.length = i + d -> d < fuel ->
 (v ∈ xs.drop i -> ∃ j : Nat, Zc k xs v fuel (i : Int) = some (.inl (j : Int)) /\ j < xs.length /\ xs.getD j 0 = v) /\ (¬v ∈ xs.drop i -> Zc k xs v fuel (i : Int) = some (.inr ())) := by
 intro d
 induction d with
 | zero =>
   intro fuel i h hf
   obtain ⟨g, rfl⟩ : ∃ g, fuel = g + 1 := ⟨fuel - 1, by omega⟩
   rw [Zc.eq_2, if_neg (by omega), List.drop_eq_nil_of_le (by omega)]
   exact ⟨fun h => absurd h (by simp), fun _ => rfl⟩
 | succ d ih =>
   intro fuel i h hf
   obtain ⟨g, rfl⟩ : ∃ g, fuel = g + 1 := ⟨fuel - 1, by omega⟩
   obtain ⟨h1, h2⟩ := ih g (i + 1) (by omega) (by omega)
   rw [Zc.eq_2, if_pos (by omega), if_pos (by omega), Yr (by omega), X8 (y := xs) (i := i) (by omega) 0]
   simp only [Int.toNat_natCast]
   by_cases c : v = xs.getD i 0
   ·rw [if_pos c]
    exact ⟨fun _ => ⟨i, rfl, by omega, c.symm⟩, fun hn => absurd (by rw [c]; exact List.mem_cons_self) hn⟩
   ·rw [if_neg c]
    exact ⟨fun hm => h1 ((List.mem_cons.1 hm).resolve_left c), fun hn => h2 (fun hm => hn (List.mem_cons_of_mem _ hm))⟩
theorem set_mid {α : Type} (p : List α) (d : Nat) (z v : α) : (p ++ List.replicate (d + 1) z).set p.length v = (p ++ [v]) ++ List.replicate d z := by
 rw [List.replicate_succ, List.set_append_right _ _ (Nat.le_refl _), Nat.sub_self]
 simp
theorem Qrt {α : Type} {p : List α} {d i : Nat} {z v : α} (h : p.length = i) : (p ++ List.replicate (d + 1) z).set i v = (p ++ [v]) ++ List.replicate d z := by subst h; exact set_mid p d z v
theorem Qcr {ps : List Int} (hp : ∀ p ∈ ps, near p) {i : Nat} (h : i < ps.length) : near (ps.getD i 0) := hp _ (by rw [List.getD_eq_getElem?_getD, List.getElem?_eq_getElem h]; exact List.getElem_mem _)
theorem Qze (k : Nat) (hk : 100 < k) {m : Qd} {l : List Qa} {p : At2} (h : Tr m l p) (xs : List Int) (hx : xs.length = l.length) (b : Int) : ∀ (d fuel i : Nat) (y : List Int), l.length = i + d -> d < fuel -> y.length = i ->
 Zw k ⟨b, l.map (stp m p.e0)⟩ xs fuel (y ++ List.replicate d 0) (i : Int) = some (match chL m p.e0 (l.drop i) (xs.drop i) with | some ps => .inr (y ++ ps) | none => .inl ()) := by
 have hlen := h.len
 intro d
 induction d with
 | zero =>
   intro fuel i y hi hf hy
   obtain ⟨g, rfl⟩ : ∃ g, fuel = g + 1 := ⟨fuel - 1, by omega⟩
   rw [Zw.eq_2, if_neg (by omega), List.drop_eq_nil_of_le (by omega)]
   simp [chL]
 | succ d ih =>
   intro fuel i y hi hf hy
   obtain ⟨g, rfl⟩ : ∃ g, fuel = g + 1 := ⟨fuel - 1, by omega⟩
   have hs : (l.map (stp m p.e0)).getD i default = stp m p.e0 (l.getD i default) := by
    rw [List.getD_eq_getElem?_getD, List.getElem?_map, List.getD_eq_getElem?_getD, List.getElem?_eq_getElem (by omega)]; rfl
   rw [Zw.eq_2, if_pos (by omega), if_pos (by omega), if_pos (by simp; omega), Yr (by omega), X8 (y := l) (i := i) (by omega) default, X8 (y := xs) (i := i) (by omega) 0]
   simp only [Int.toNat_natCast, hs]
   show ((Jv k (trn m (apA m (l.getD i default) p.e0)) (xs.getD i 0)).bind _) = _
   unfold Jv
   have hlt := Qi7 m (apA m (l.getD i default) p.e0)
   obtain ⟨g1, g2⟩ := Quv k (trn m (apA m (l.getD i default) p.e0)) (xs.getD i 0) (by omega) (trn m (apA m (l.getD i default) p.e0)).length k 0 (by omega) (by omega)
   rw [List.drop_zero] at g1 g2
   simp only [chL]
   by_cases c : xs.getD i 0 ∈ trn m (apA m (l.getD i default) p.e0)
   ·obtain ⟨j, e1, e2, e3⟩ := g1 c
    have hp : (posL m (l.getD i default) p.e0).getD j 0 = pos m (l.getD i default) p.e0 (xs.getD i 0) := by
     unfold posL
     rw [List.getD_eq_getElem?_getD, List.getElem?_map, List.getElem?_eq_getElem e2]
     rw [List.getD_eq_getElem?_getD, List.getElem?_eq_getElem e2] at e3
     show apA m _ _ + _ * 1296000 = _
     rw [show (trn m (apA m (l.getD i default) p.e0))[j] = xs.getD i 0 from e3]; rfl
    have hpl : (posL m (l.getD i default) p.e0).length = (trn m (apA m (l.getD i default) p.e0)).length := by unfold posL; rw [List.length_map]
    rw [show Zc k (trn m (apA m (l.getD i default) p.e0)) (xs.getD i 0) k 0 = _ from e1, Option.bind_some]
    dsimp only
    rw [Option.bind_some, if_neg (by omega), if_pos (by show 0 <= (j : Int) /\ (j : Int) < ((posL m (l.getD i default) p.e0).length : Int); omega), if_pos (by simp; omega), Qrt hy, ih g (i + 1) _ (by omega) (by omega) (by simp; omega), if_pos c, show (stp m p.e0 (l.getD i default)).positions.getD ((j : Int)).toNat 0 = _ from hp]
    cases chL m p.e0 (l.drop (i + 1)) (xs.drop (i + 1)) with
    | none => rfl
    | some ps => simp
   ·rw [show Zc k (trn m (apA m (l.getD i default) p.e0)) (xs.getD i 0) k 0 = _ from g2 c, Option.bind_some]
    dsimp only
    rw [Option.bind_some, if_pos (by decide), if_neg c]
theorem Qtu (k : Nat) (hk : 100 < k) {m : Qd} {l : List Qa} {p : At2} (h : Tr m l p) (xs : List Int) (b : Int) (hxl : xs.length < 9223372036854775807) : Y9 k ⟨b, l.map (stp m p.e0)⟩ xs = some (if xs.length = l.length then (match chL m p.e0 l xs with | some ps => (ps, (0 : Int)) | none => ([], 6)) else ([], 10)) := by
 unfold Y9
 have hlen := h.len
 by_cases c : xs.length = l.length
 ·rw [if_pos (by simp [c]), if_pos (by omega), if_pos c]
  have := Qze k hk h xs c b l.length k 0 [] (by omega) (by omega) rfl
  rw [List.nil_append, List.drop_zero, List.drop_zero] at this
  rw [show ((xs.length : Int)).toNat = l.length by omega, show Zw k ⟨b, l.map (stp m p.e0)⟩ xs k (List.replicate l.length 0) 0 = _ from this, Option.bind_some]
  cases chL m p.e0 l xs <;> rfl
 ·rw [if_neg (by simp; omega), if_neg c]
theorem Qm7 {m : Qd} (hm : Mnt m) {d : Int} : ∀ {l : List Qa} {xs ps : List Int}, chL m d l xs = some ps -> (∀ p ∈ ps, near p) /\ ps.length = l.length
 | [], xs, ps, h => by simp only [chL, Option.some.injEq] at h; subst h; exact ⟨fun p hp => absurd hp (by simp), rfl⟩
 | t :: l, [], ps, h => by cases h
 | t :: l, x :: xs, ps, h => by
   simp only [chL] at h
   split at h
   ·rename_i c
    cases hc : chL m d l xs with
    | none => rw [hc] at h; cases h
    | some qs =>
      rw [hc] at h
      simp only [Option.map_some, Option.some.injEq] at h
      subst h
      obtain ⟨g1, g2⟩ := Qm7 hm hc
      refine ⟨fun p hp => ?_, by simp [g2]⟩
      rcases List.mem_cons.1 hp with rfl | hp
      ·exact Qic hm c
      ·exact g1 p hp
   ·cases h
def sumC : Int -> List Int -> Int
 | _, [] => 0
 | f, p :: ps => cst f p + sumC p ps
def chE (m : Qd) (l : List Qa) (p : At2) (xs : List Int) : Int × Int := if xs.length = l.length then (match chL m p.e0 l xs with | some ps => (sumC p.e1 ps, 0) | none => (0, 6)) else (0, 10)
theorem Qet {m : Qd} {l : List Qa} {p : At2} (h : Tr m l p) : near p.e1 := by
 have h1 := h.mnt.lo
 have h2 := h.mnt.hi
 have h3 := h.beg
 unfold near; omega
theorem Qvo (m : Qd) (a x : Int) (h : x ∈ trn m a) : -30 <= x /\ x <= 30 := by
 have key : ∀ (n : Nat) (z : Int), x ∈ flt a m.Least m.Most n z -> z <= x /\ x < z + n := by
  intro n
  induction n with
  | zero => intro z h; cases h
  | succ n ih =>
    intro z h
    simp only [flt] at h
    split at h
    ·rcases List.mem_cons.1 h with rfl | h
     ·omega
     ·have := ih (z + 1) h; omega
    ·have := ih (z + 1) h; omega
 have := key 43 (-21) h
 omega
end Go.Proofs.Ytbgajdbpdhipiaa.Vg
end

section
set_option linter.unusedVariables false
set_option linter.unusedSimpArgs false
namespace Go.Proofs.Ytbgajdbpdhipiaa.Vg
open Go Go.Proofs.Ytbgajdbpdhipiaa.Ev Go.Proofs.Ytbgajdbpdhipiaa.Vv
abbrev MAXI : Int := 9223372036854775807
theorem Qxz (x y z : Int) : z <= minI x y ↔ z <= x /\ z <= y := by unfold minI; split <;> omega
theorem Q4q {α : Type} (xs : List α) {i : Nat} (h : xs.length <= i) : xs.drop i = [] := List.drop_eq_nil_of_le h
theorem Qea {xs : List Int} {i : Nat} (h : i < xs.length) : xs.getD i 0 ∈ xs := by
 rw [List.getD_eq_getElem?_getD, List.getElem?_eq_getElem h]; exact List.getElem_mem _
def hg (to : Int) : Int -> List Int -> List Int -> Int
 | acc, f :: fs, b :: bs => hg to (minI acc (b + cst f to)) fs bs
 | acc, _, _ => acc
def allB (to v : Int) : List Int -> List Int -> Bool
 | f :: fs, b :: bs => decide (v <= b + cst f to) && allB to v fs bs
 | _, _ => true
theorem Q33 (to v : Int) : ∀ (fs bs : List Int) (acc : Int), v <= hg to acc fs bs ↔ v <= acc /\ allB to v fs bs = true
 | [], bs, acc => by simp [hg, allB]
 | f :: fs, [], acc => by simp [hg, allB]
 | f :: fs, b :: bs, acc => by
   simp only [hg, allB]
   rw [Q33 to v fs bs, Qxz, Bool.and_eq_true, decide_eq_true_iff]
   constructor
   ·intro ⟨⟨a, b⟩, c⟩; exact ⟨a, b, c⟩
   ·intro ⟨a, b, c⟩; exact ⟨⟨a, b⟩, c⟩
theorem Qth {to v f b : Int} : ∀ (fs bs : List Int), allB to v fs bs = true -> (f, b) ∈ fs.zip bs -> v <= b + cst f to
 | [], bs, _, hm => by simp at hm
 | g :: fs, [], _, hm => by simp at hm
 | g :: fs, c :: bs, ha, hm => by
   simp only [allB, Bool.and_eq_true, decide_eq_true_iff] at ha
   rw [List.zip_cons_cons, List.mem_cons] at hm
   rcases hm with hm | hm
   ·injection hm with e1 e2; subst e1; subst e2; exact ha.1
   ·exact Qth fs bs ha.2 hm
theorem Q0g (to : Int) (fs bs : List Int) (acc f b : Int) (h : (f, b) ∈ fs.zip bs) : hg to acc fs bs <= b + cst f to :=
 Qth fs bs ((Q33 to (hg to acc fs bs) fs bs acc).1 (Int.le_refl _)).2 h
def shp (m : Qd) (d : Int) : List Qa -> List (List Int) -> Bool
 | t :: l, r :: rs => decide (r.length = (trn m (apA m t d)).length) && shp m d l rs
 | _, _ => true
def Qp9 (ps : List (List Int)) : Bool := ps.all fun r => r.all (inR (-1000000000000) 1000000000000)
def ptE (m : Qd) (d : Int) (l : List Qa) (ps : List (List Int)) : Int :=
 if ps.length = l.length then (if shp m d l ps = true then (if Qp9 ps = true then 0 else 2) else 10) else 10
theorem Qoq {m : Qd} {d : Int} {l : List Qa} {i : Nat} (h : i < l.length) : (l.map (stp m d)).getD i default = stp m d (l.getD i default) := by
 rw [List.getD_eq_getElem?_getD, List.getElem?_map, List.getD_eq_getElem?_getD, List.getElem?_eq_getElem h]; rfl
theorem Qgc (m : Qd) (t : Qa) (d : Int) : (posL m t d).length = (trn m (apA m t d)).length := by unfold posL; rw [List.length_map]
theorem Qep {m : Qd} (hm : Mnt m) {t : Qa} {d : Int} : ∀ p ∈ posL m t d, near p := by
 intro p hp
 obtain ⟨x, hx, rfl⟩ := List.mem_map.1 hp
 exact Qic hm hx
theorem Qkf {p r : List Int} {a v : Int} {i : Nat} (h : p.length = i) : (p ++ a :: r).set i v = p ++ v :: r := by
 subst h
 rw [List.set_append_right _ _ (Nat.le_refl _), Nat.sub_self]; rfl
theorem Qti {p r : List Int} {a : Int} {i : Nat} (h : p.length = i) : (p ++ a :: r).getD i 0 = a := by
 subst h
 rw [List.getD_eq_getElem?_getD, List.getElem?_append_right (Nat.le_refl _), Nat.sub_self]; rfl
theorem Q12 (k : Nat) (T : Xp) (ps : List (List Int)) (n : Nat) (hn : 0 < n /\ n <= 1000) (i : Nat) (fs bs : List Int) (to : Int) (hF : (T.stops.getD (n - 1) default).positions = fs) (hB : ps.getD (n - 1) default = bs) (hT : ((T.stops.getD n default).positions).getD i 0 = to)
 (hfb : fs.length = bs.length) (hbl : bs.length <= 50) (hf : ∀ f ∈ fs, near f) (hb : ∀ b ∈ bs, -1000000000000 <= b /\ b <= 1000000000000) (ht : near to) : ∀ (d fuel j : Nat) (pre rest : List Int) (acc : Int), bs.length = j + d -> d < fuel -> pre.length = i ->
 Zp k T (n : Int) ps (i : Int) fuel (pre ++ acc :: rest) (j : Int) = some (pre ++ hg to acc (fs.drop j) (bs.drop j) :: rest) := by
 have hw : w64 ((n : Int) - 1) = ((n - 1 : Nat) : Int) := by rw [Xt (by omega) (by omega)]; omega
 intro d
 induction d with
 | zero =>
   intro fuel j pre rest acc h hfu hp
   obtain ⟨g, rfl⟩ : ∃ g, fuel = g + 1 := ⟨fuel - 1, by omega⟩
   rw [Zp.eq_2, hw]
   simp only [Int.toNat_natCast, hB]
   rw [if_neg (by omega), Q4q (fs) (by omega)]
   simp [hg]
 | succ d ih =>
   intro fuel j pre rest acc h hfu hp
   obtain ⟨g, rfl⟩ : ∃ g, fuel = g + 1 := ⟨fuel - 1, by omega⟩
   have hfj : near (fs.getD j 0) := Qcr hf (by omega)
   have hbj := hb (bs.getD j 0) (Qea (by omega))
   have hc := Qlx hfj ht
   rw [Zp.eq_2, hw]
   simp only [Int.toNat_natCast, hB, hF, hT]
   rw [if_pos (by omega), if_pos (by omega), if_pos (by simp; omega), if_pos (by omega), Qhj k hfj.small ht.small, Option.bind_some, Xt (n := bs.getD j 0 + _) (by omega) (by omega), Qti hp, Qkf hp, Yr (by omega), ih g (j + 1) pre rest _ (by omega) (by omega) hp, X8 (y := fs) (i := j) (by omega) 0, X8 (y := bs) (i := j) (by omega) 0]
   rfl
theorem Q13 (k : Nat) (hk : 100 < k) (T : Xp) (ps : List (List Int)) (n : Nat) (hn : 0 < n /\ n <= 1000) (fs bs tos : List Int) (hF : (T.stops.getD (n - 1) default).positions = fs) (hB : ps.getD (n - 1) default = bs) (hT : (T.stops.getD n default).positions = tos)
 (hfb : fs.length = bs.length) (hbl : bs.length <= 50) (hf : ∀ f ∈ fs, near f) (hb : ∀ b ∈ bs, -1000000000000 <= b /\ b <= 1000000000000) (ht : ∀ t ∈ tos, near t) (htl : tos.length <= 50) : ∀ (d fuel i : Nat) (pre : List Int), tos.length = i + d -> d < fuel -> pre.length = i ->
 Zq k T (n : Int) ps fuel (pre ++ List.replicate d 0) (i : Int) = some (pre ++ (tos.drop i).map fun to => hg to MAXI fs bs) := by
 intro d
 induction d with
 | zero =>
   intro fuel i pre h hfu hp
   obtain ⟨g, rfl⟩ : ∃ g, fuel = g + 1 := ⟨fuel - 1, by omega⟩
   rw [Zq.eq_2]
   simp only [Int.toNat_natCast, hT]
   rw [if_neg (by omega), List.drop_eq_nil_of_le (by omega)]; simp
 | succ d ih =>
   intro fuel i pre h hfu hp
   obtain ⟨g, rfl⟩ : ∃ g, fuel = g + 1 := ⟨fuel - 1, by omega⟩
   rw [Zq.eq_2]
   simp only [Int.toNat_natCast, hT]
   rw [if_pos (by omega), if_pos (by omega), if_pos (by simp; omega), List.replicate_succ, Qkf hp, show Zp k T (n : Int) ps (i : Int) k (pre ++ MAXI :: List.replicate d 0) 0 = _ from Q12 k T ps n hn i fs bs (tos.getD i 0) hF hB (by rw [hT]) hfb hbl hf hb (Qcr ht (by omega)) bs.length k 0 pre (List.replicate d 0) MAXI (by omega) (by omega) hp, Option.bind_some, List.drop_zero, List.drop_zero, Yr (by omega), show pre ++ hg (tos.getD i 0) MAXI fs bs :: List.replicate d 0 = (pre ++ [hg (tos.getD i 0) MAXI fs bs]) ++ List.replicate d 0 by simp, ih g (i + 1) _ (by omega) (by omega) (by simp; omega), X8 (y := tos) (i := i) (by omega) 0]
   simp
theorem Qzh (k : Nat) (hk : 100 < k) (T : Xp) (i : Nat) (to : Int) (hT : ((T.stops.getD 0 default).positions).getD i 0 = to) (hb : near T.begin) (ht : near to) (pre rest : List Int) (acc : Int) (hp : pre.length = i) :
 Z8 k T 0 (i : Int) k (pre ++ acc :: rest) 0 = some (pre ++ hg to acc [T.begin] [0] :: rest) := by
 obtain ⟨g, rfl⟩ : ∃ g, k = g + 2 := ⟨k - 2, by omega⟩
 have hc := Qlx hb ht
 rw [Z8.eq_2, if_pos (by decide), if_pos (by decide), if_pos (by decide), if_pos (by simp; omega), if_pos (by simp)]
 simp only [Int.toNat_natCast, Int.toNat_zero, hT]
 show ((Ja (g + 2) T.begin to).bind _) = _
 rw [Qhj (g + 2) hb.small ht.small, Option.bind_some, Qti hp, Qkf hp, show w64 (([0] : List Int).getD 0 0 + cst T.begin to) = 0 + cst T.begin to from Xt (by show _ <= 0 + _; omega) (by show 0 + _ <= _; omega), show w64 (0 + 1) = 1 from by decide, Z8.eq_2, if_neg (by decide)]
 rfl
theorem Qzi (k : Nat) (hk : 100 < k) (T : Xp) (tos : List Int) (hT : (T.stops.getD 0 default).positions = tos) (hb : near T.begin) (ht : ∀ t ∈ tos, near t) (htl : tos.length <= 50) : ∀ (d fuel i : Nat) (pre : List Int), tos.length = i + d -> d < fuel -> pre.length = i ->
 Zr k T 0 fuel (pre ++ List.replicate d 0) (i : Int) = some (pre ++ (tos.drop i).map fun to => hg to MAXI [T.begin] [0]) := by
 intro d
 induction d with
 | zero =>
   intro fuel i pre h hfu hp
   obtain ⟨g, rfl⟩ : ∃ g, fuel = g + 1 := ⟨fuel - 1, by omega⟩
   rw [Zr.eq_2]
   simp only [Int.toNat_natCast, Int.toNat_zero, hT]
   rw [if_neg (by omega), List.drop_eq_nil_of_le (by omega)]; simp
 | succ d ih =>
   intro fuel i pre h hfu hp
   obtain ⟨g, rfl⟩ : ∃ g, fuel = g + 1 := ⟨fuel - 1, by omega⟩
   rw [Zr.eq_2]
   simp only [Int.toNat_natCast, Int.toNat_zero, hT]
   rw [if_pos (by omega), if_pos (by omega), if_pos (by simp; omega), List.replicate_succ, Qkf hp, Qzh k hk T i (tos.getD i 0) (by rw [hT]) hb (Qcr ht (by omega)) pre (List.replicate d 0) MAXI hp, Option.bind_some, Yr (by omega), show pre ++ hg (tos.getD i 0) MAXI [T.begin] [0] :: List.replicate d 0 = (pre ++ [hg (tos.getD i 0) MAXI [T.begin] [0]]) ++ List.replicate d 0 by simp, ih g (i + 1) _ (by omega) (by omega) (by simp; omega), X8 (y := tos) (i := i) (by omega) 0]
   simp
def Qh3 (m : Qd) (p : At2) (l : List Qa) (n : Nat) : List Int := if n = 0 then [p.e1] else posL m (l.getD (n - 1) default) p.e0
def Qfv (ps : List (List Int)) (n : Nat) : List Int := if n = 0 then [0] else ps.getD (n - 1) default
theorem Quw (m : Qd) (p : At2) (l : List Qa) (n : Nat) : Qh3 m p l (n + 1) = posL m (l.getD n default) p.e0 := by unfold Qh3; rw [if_neg (by omega)]; rfl
theorem Qux (ps : List (List Int)) (n : Nat) : Qfv ps (n + 1) = ps.getD n default := by unfold Qfv; rw [if_neg (by omega)]; rfl
theorem Qx0 {m : Qd} {d : Int} : ∀ {l : List Qa} {ps : List (List Int)}, shp m d l ps = true -> ps.length = l.length -> ∀ i, i < l.length -> (ps.getD i default).length = (posL m (l.getD i default) d).length
 | [], _, _, _, i, h => by simp at h
 | t :: l, [], _, hl, i, h => by simp at hl
 | t :: l, r :: rs, hs, hl, i, h => by
   simp only [shp, Bool.and_eq_true, decide_eq_true_iff] at hs
   cases i with
   | zero => rw [Qgc]; exact hs.1
   | succ i => exact Qx0 hs.2 (by simpa using hl) i (by simpa using h)
theorem Qx1 {ps : List (List Int)} (h : Qp9 ps = true) {i : Nat} (hi : i < ps.length) : ∀ b ∈ ps.getD i default, -1000000000000 <= b /\ b <= 1000000000000 := by
 intro b hb
 unfold Qp9 at h
 have h1 := List.all_eq_true.1 h _ (show ps.getD i default ∈ ps by rw [List.getD_eq_getElem?_getD, List.getElem?_eq_getElem hi]; exact List.getElem_mem _)
 exact Qfe.1 (List.all_eq_true.1 h1 b hb)
structure Pt (m : Qd) (l : List Qa) (p : At2) (ps : List (List Int)) : Prop where
 tr : Tr m l p
 len : ps.length = l.length
 shape : shp m p.e0 l ps = true
 small : Qp9 ps = true
theorem Pt.row {m : Qd} {l : List Qa} {p : At2} {ps : List (List Int)} (h : Pt m l p ps) {i : Nat} (hi : i < l.length) : (ps.getD i default).length = (posL m (l.getD i default) p.e0).length /\ (posL m (l.getD i default) p.e0).length <= 43 := by
 have := Qx0 h.shape h.len i hi
 have h2 := Qgc m (l.getD i default) p.e0
 have h3 := Qi7 m (apA m (l.getD i default) p.e0)
 omega
theorem Pt.prev {m : Qd} {l : List Qa} {p : At2} {ps : List (List Int)} (h : Pt m l p ps) {n : Nat} (hn : n < l.length) : (Qh3 m p l n).length = (Qfv ps n).length /\ (Qfv ps n).length <= 50 /\ (∀ f ∈ Qh3 m p l n, near f) /\ ∀ b ∈ Qfv ps n, -1000000000000 <= b /\ b <= 1000000000000 := by
 unfold Qh3 Qfv
 by_cases c : n = 0
 ·rw [if_pos c, if_pos c]
  refine ⟨rfl, by decide, fun f hf => ?_, fun b hb => ?_⟩
  ·rw [List.mem_singleton] at hf; subst hf; exact Qet h.tr
  ·rw [List.mem_singleton] at hb; subst hb; decide
 ·rw [if_neg c, if_neg c]
  have := h.row (i := n - 1) (by omega)
  exact ⟨by omega, by omega, Qep h.tr.mnt, Qx1 h.small (by rw [h.len]; omega)⟩
def mnF (x : Int) (l : List Int) : Int := l.foldl minI x
def bd (ps : List (List Int)) : Int := if ps.length = 0 then 0 else mnF ((ps.getD (ps.length - 1) default).getD 0 0) ((ps.getD (ps.length - 1) default).drop 1)
theorem Q0h : ∀ (l : List Int) (x : Int), mnF x l <= x /\ ∀ v ∈ l, mnF x l <= v
 | [], x => ⟨Int.le_refl _, fun v h => by cases h⟩
 | a :: l, x => by
   obtain ⟨h1, h2⟩ := Q0h l (minI x a)
   have h3 := (Qxz x a (minI x a)).1 (Int.le_refl _)
   have e : mnF x (a :: l) = mnF (minI x a) l := rfl
   rw [e]
   refine ⟨by omega, fun v hv => ?_⟩
   rcases List.mem_cons.1 hv with rfl | hv
   ·omega
   ·exact h2 v hv
theorem Q4r (k : Nat) (xs : List Int) (hl : xs.length <= 1000) : ∀ (d fuel i : Nat) (x : Int), xs.length = i + d -> d < fuel ->
 Zt k xs fuel x (i : Int) = some (mnF x (xs.drop i)) := by
 intro d
 induction d with
 | zero =>
   intro fuel i x h hf
   obtain ⟨g, rfl⟩ : ∃ g, fuel = g + 1 := ⟨fuel - 1, by omega⟩
   rw [Zt.eq_2, if_neg (by omega), List.drop_eq_nil_of_le (by omega)]; rfl
 | succ d ih =>
   intro fuel i x h hf
   obtain ⟨g, rfl⟩ : ∃ g, fuel = g + 1 := ⟨fuel - 1, by omega⟩
   rw [Zt.eq_2, if_pos (by omega), if_pos (by omega), Yr (by omega), ih g (i + 1) _ (by omega) (by omega), X8 (y := xs) (i := i) (by omega) 0]
   simp only [Int.toNat_natCast]; rfl
theorem Qrq (k : Nat) (hk : 100 < k) {m : Qd} {l : List Qa} {p : At2} {ps : List (List Int)} (h : Pt m l p ps) (hne : ∀ i, i < l.length -> 0 < (trn m (apA m (l.getD i default) p.e0)).length) : Qb0 k ps = some (bd ps) := by
 unfold Qb0 bd Qan
 have hlen := h.tr.len
 have hpl := h.len
 by_cases c : ps.length = 0
 ·rw [if_pos (by omega), if_pos c]
 ·have hr := h.row (i := ps.length - 1) (by omega)
  have hq := Qgc m (l.getD (ps.length - 1) default) p.e0
  have hz := hne (ps.length - 1) (by omega)
  rw [if_neg (by omega), if_neg c, Xt (by omega) (by omega), if_pos (by omega), show ((ps.length : Int) - 1).toNat = ps.length - 1 by omega, if_neg (by omega), if_pos (by omega)]
  simp only [Int.toNat_zero]
  rw [show Zt k (ps.getD (ps.length - 1) default) k ((ps.getD (ps.length - 1) default).getD 0 0) 1 = _ from Q4r k _ (by omega) ((ps.getD (ps.length - 1) default).length - 1) k 1 _ (by omega) (by omega)]
  rfl
theorem Pt.of {m : Qd} {l : List Qa} {p : At2} {ps : List (List Int)} (h : Tr m l p) (hp : ptE m p.e0 l ps = 0) : Pt m l p ps := by
 unfold ptE at hp
 split at hp
 ·split at hp
  ·split at hp
   ·exact ⟨h, ‹_›, ‹_›, ‹_›⟩
   ·cases hp
  ·cases hp
 ·cases hp
theorem Qlz {m : Qd} {l : List Qa} {p : At2} (h : Tr m l p) : ∀ i, i < l.length -> 0 < (trn m (apA m (l.getD i default) p.e0)).length := by
 intro i hi
 have := (h.tgt i hi).2
 unfold stpE at this
 split at this
 ·split at this
  ·cases this
  ·omega
 ·cases this
theorem Qzj {m : Qd} {t : Qa} {d : Int} {i : Nat} (h : i < (trn m (apA m t d)).length) : (posL m t d).getD i 0 = pos m t d ((trn m (apA m t d)).getD i 0) := by
 unfold posL
 rw [List.getD_eq_getElem?_getD, List.getElem?_map, List.getElem?_eq_getElem h, List.getD_eq_getElem?_getD, List.getElem?_eq_getElem h]; rfl
theorem Qx2 {fs bs : List Int} {i : Nat} (h1 : i < fs.length) (h2 : i < bs.length) : (fs.getD i 0, bs.getD i 0) ∈ fs.zip bs := by
 rw [List.mem_iff_getElem?]
 refine ⟨i, ?_⟩
 rw [List.getElem?_zip_eq_some]
 constructor
 ·show fs[i]? = some (fs.getD i 0)
  rw [List.getD_eq_getElem?_getD, List.getElem?_eq_getElem h1]; rfl
 ·show bs[i]? = some (bs.getD i 0)
  rw [List.getD_eq_getElem?_getD, List.getElem?_eq_getElem h2]; rfl
theorem Qyj (k : Nat) (xs : List Int) (h : xs.length <= 1000) : Ju k xs = some xs := by
 unfold Ju
 rw [if_pos (by simp; omega)]; rfl
end Go.Proofs.Ytbgajdbpdhipiaa.Vg
end

section
set_option linter.unusedVariables false
set_option linter.unusedSimpArgs false
namespace Go.Proofs.Ytbgajdbpdhipiaa.Vg
open Go Go.Proofs.Ytbgajdbpdhipiaa.Ev Go.Proofs.Ytbgajdbpdhipiaa.Vv
def potR (m : Qd) (d : Int) : List Int -> List Int -> List Qa -> List (List Int)
 | _, _, [] => []
 | fs, bs, t :: l => ((posL m t d).map fun to => hg to MAXI fs bs) :: potR m d (posL m t d) ((posL m t d).map fun to => hg to MAXI fs bs) l
theorem Qto (m : Qd) (d : Int) : ∀ (l : List Qa) (fs bs : List Int), (potR m d fs bs l).length = l.length
 | [], _, _ => rfl
 | t :: l, fs, bs => by simp only [potR, List.length_cons]; rw [Qto m d l]
theorem Qtp (m : Qd) (d : Int) : ∀ (l : List Qa) (fs bs : List Int), shp m d l (potR m d fs bs l) = true
 | [], _, _ => rfl
 | t :: l, fs, bs => by
   simp only [potR, shp, Bool.and_eq_true, decide_eq_true_iff]
   exact ⟨by rw [List.length_map, Qgc], Qtp m d l _ _⟩
theorem Qtq (m : Qd) (d : Int) : ∀ (l : List Qa) (fs bs : List Int) (n : Nat), n < l.length -> (potR m d fs bs l).getD n default =
 (posL m (l.getD n default) d).map fun to => hg to MAXI (if n = 0 then fs else posL m (l.getD (n - 1) default) d) (if n = 0 then bs else (potR m d fs bs l).getD (n - 1) default)
 | [], fs, bs, n, h => by simp at h
 | t :: l, fs, bs, 0, h => rfl
 | t :: l, fs, bs, n + 1, h => by
   have ih := Qtq m d l (posL m t d) ((posL m t d).map fun to => hg to MAXI fs bs) n (by simpa using h)
   rw [show (potR m d fs bs (t :: l)).getD (n + 1) default = (potR m d (posL m t d) ((posL m t d).map fun to => hg to MAXI fs bs) l).getD n default from rfl, ih]
   simp only [if_neg (show ¬(n + 1 = 0) by omega), Nat.add_sub_cancel]
   cases n with
   | zero => rfl
   | succ n =>
     simp only [if_neg (show ¬(n + 1 = 0) by omega), Nat.add_sub_cancel]
     rfl
theorem Q0j (to : Int) : ∀ (fs bs : List Int) (acc : Int), hg to acc fs bs = acc \/ ∃ f b, (f, b) ∈ fs.zip bs /\ hg to acc fs bs = b + cst f to
 | [], bs, acc => .inl (by simp [hg])
 | f :: fs, [], acc => .inl (by simp [hg])
 | f :: fs, b :: bs, acc => by
   simp only [hg]
   rcases Q0j to fs bs (minI acc (b + cst f to)) with h | ⟨f', b', h1, h2⟩
   ·have e : minI acc (b + cst f to) = acc \/ minI acc (b + cst f to) = b + cst f to := by unfold minI; split <;> simp
    rcases e with e | e
    ·left; rw [h, e]
    ·right; exact ⟨f, b, by simp, by rw [h, e]⟩
   ·right; exact ⟨f', b', by simp [h1], h2⟩
theorem Q4f {fs bs : List Int} {f b : Int} (h : (f, b) ∈ fs.zip bs) : ∃ i, i < fs.length /\ i < bs.length /\ f = fs.getD i 0 /\ b = bs.getD i 0 := by
 obtain ⟨i, hi, he⟩ := List.mem_iff_getElem.1 h
 rw [List.length_zip] at hi
 rw [List.getElem_zip] at he
 injection he with e1 e2
 exact ⟨i, by omega, by omega, by rw [List.getD_eq_getElem?_getD, List.getElem?_eq_getElem (by omega)]; exact e1.symm, by rw [List.getD_eq_getElem?_getD, List.getElem?_eq_getElem (by omega)]; exact e2.symm⟩
theorem Q4g {to B : Int} (ht : near to) {fs bs : List Int} (hl : fs.length = bs.length) (hne : 0 < fs.length) (hf : ∀ f ∈ fs, near f) (hb : ∀ b ∈ bs, 0 <= b /\ b <= B) (hB : B <= 1000000000000) :
 (∃ i, i < fs.length /\ hg to MAXI fs bs = bs.getD i 0 + cst (fs.getD i 0) to) /\ 0 <= hg to MAXI fs bs /\ hg to MAXI fs bs <= B + 11000000000 := by
 have h0 := Q0g to fs bs MAXI _ _ (Qx2 (fs := fs) (bs := bs) (i := 0) hne (by omega))
 have c0 := Qlx (Qcr hf hne) ht
 have b0 := hb _ (Qea (xs := bs) (i := 0) (by omega))
 rcases Q0j to fs bs MAXI with h | ⟨f, b, h1, h2⟩
 ·exfalso; rw [h] at h0; unfold MAXI at h0; omega
 ·obtain ⟨i, i1, i2, rfl, rfl⟩ := Q4f h1
  have c1 := Qlx (Qcr hf i1) ht
  have b1 := hb _ (Qea (xs := bs) i2)
  exact ⟨⟨i, i1, h2⟩, by omega, by omega⟩
theorem Qm5 {m : Qd} (hm : Mnt m) (d : Int) : ∀ (l : List Qa) (fs bs : List Int) (B : Int), (∀ t ∈ l, 0 < (posL m t d).length) -> fs.length = bs.length -> 0 < fs.length -> (∀ f ∈ fs, near f) -> (∀ b ∈ bs, 0 <= b /\ b <= B) -> B + 11000000000 * l.length <= 1000000000000 ->
 ∀ r ∈ potR m d fs bs l, ∀ b ∈ r, 0 <= b /\ b <= 1000000000000
 | [], fs, bs, B, _, _, _, _, _, _, r, hr => by simp [potR] at hr
 | t :: l, fs, bs, B, hp, hl, hne, hf, hb, hB, r, hr => by
   have hrow : ∀ b ∈ (posL m t d).map fun to => hg to MAXI fs bs, 0 <= b /\ b <= B + 11000000000 := fun b hbm => by
    obtain ⟨to, hto, rfl⟩ := List.mem_map.1 hbm
    exact (Q4g (Qep hm to hto) hl hne hf hb (by simp only [List.length_cons] at hB; omega)).2
   simp only [potR, List.mem_cons] at hr
   simp only [List.length_cons] at hB
   rcases hr with rfl | hr
   ·intro b hbm
    have := hrow b hbm
    omega
   ·exact Qm5 hm d l _ _ (B + 11000000000) (fun t' h => hp t' (by simp [h])) (by rw [List.length_map]) (hp t (by simp)) (Qep hm) hrow (by omega) r hr
def pots (m : Qd) (l : List Qa) (p : At2) : List (List Int) := potR m p.e0 [p.e1] [0] l
theorem Qzo {m : Qd} {l : List Qa} {p : At2} (h : Tr m l p) : ∀ t ∈ l, 0 < (posL m t p.e0).length := fun t ht => by
 obtain ⟨i, hi, rfl⟩ := List.mem_iff_getElem.1 ht
 have := Qlz h i hi
 rw [List.getD_eq_getElem?_getD, List.getElem?_eq_getElem hi] at this
 rw [Qgc]; exact this
theorem Qx4 {m : Qd} {l : List Qa} {p : At2} (h : Tr m l p) : ∀ r ∈ pots m l p, ∀ b ∈ r, 0 <= b /\ b <= 1000000000000 :=
 Qm5 h.mnt p.e0 l [p.e1] [0] 0 (Qzo h) rfl (by simp) (fun f hf => by rw [List.mem_singleton] at hf; subst hf; exact Qet h) (fun b hb => by rw [List.mem_singleton] at hb; subst hb; decide) (by have := h.len; omega)
theorem Qrr {m : Qd} {l : List Qa} {p : At2} (h : Tr m l p) : Pt m l p (pots m l p) := by
 refine ⟨h, Qto _ _ _ _ _, Qtp _ _ _ _ _, ?_⟩
 unfold Qp9
 refine List.all_eq_true.2 fun r hr => List.all_eq_true.2 fun b hb => Qfe.2 ?_
 have := Qx4 h r hr b hb
 omega
theorem Qtr {m : Qd} {l : List Qa} {p : At2} {n : Nat} (hn : n < l.length) : (pots m l p).getD n default = (posL m (l.getD n default) p.e0).map fun to => hg to MAXI (Qh3 m p l n) (Qfv (pots m l p) n) := by
 unfold Qh3 Qfv
 exact Qtq m p.e0 l [p.e1] [0] n hn
theorem Qx5 (k : Nat) (hk : 100 < k) {m : Qd} {l : List Qa} {p : At2} {ps : List (List Int)} (h : Tr m l p) {n : Nat} (hn : n < l.length) (hpl : n <= ps.length) (g1 : (Qh3 m p l n).length = (Qfv ps n).length) (g2 : (Qfv ps n).length <= 50) (g3 : ∀ f ∈ Qh3 m p l n, near f) (g4 : ∀ b ∈ Qfv ps n, -1000000000000 <= b /\ b <= 1000000000000) :
 Yo k ⟨p.e1, l.map (stp m p.e0)⟩ (n : Int) ps = some ((posL m (l.getD n default) p.e0).map fun to => hg to MAXI (Qh3 m p l n) (Qfv ps n)) := by
 have hlen := h.len
 have hrow : (posL m (l.getD n default) p.e0).length <= 43 := by rw [Qgc]; exact Qi7 _ _
 have hto := Qep h.mnt (t := l.getD n default) (d := p.e0)
 unfold Yo
 have hs : ((l.map (stp m p.e0)).getD n default).positions = posL m (l.getD n default) p.e0 := by rw [Qoq hn]; rfl
 by_cases c : n = 0
 ·subst c
  rw [if_neg (by decide), if_pos (by simp; omega)]
  simp only [Int.toNat_natCast, hs]
  rw [if_pos (by omega)]
  have := Qzi k hk ⟨p.e1, l.map (stp m p.e0)⟩ (posL m (l.getD 0 default) p.e0) hs (Qet h) hto (by omega) (posL m (l.getD 0 default) p.e0).length k 0 [] (by omega) (by omega) rfl
  rw [List.nil_append, List.nil_append, List.drop_zero] at this
  rw [show Zr k ⟨p.e1, l.map (stp m p.e0)⟩ ((0 : Nat) : Int) k (List.replicate (posL m (l.getD 0 default) p.e0).length 0) 0 = _ from this, Option.bind_some]
  rfl
 ·have hw : w64 ((n : Int) - 1) = ((n - 1 : Nat) : Int) := by rw [Xt (by omega) (by omega)]; omega
  rw [if_pos (by omega), hw, if_pos (by simp; omega), if_pos (by omega), if_pos (by simp; omega)]
  simp only [Int.toNat_natCast, hs]
  rw [if_pos (by omega)]
  have hF : ((l.map (stp m p.e0)).getD (n - 1) default).positions = Qh3 m p l n := by rw [Qoq (by omega)]; unfold Qh3; rw [if_neg c]; rfl
  have hB : ps.getD (n - 1) default = Qfv ps n := by unfold Qfv; rw [if_neg c]
  have := Q13 k hk ⟨p.e1, l.map (stp m p.e0)⟩ ps n (by omega) (Qh3 m p l n) (Qfv ps n) (posL m (l.getD n default) p.e0) hF hB hs g1 g2 g3 g4 hto (by omega) (posL m (l.getD n default) p.e0).length k 0 [] (by omega) (by omega) rfl
  rw [List.nil_append, List.nil_append, List.drop_zero] at this
  rw [show Zq k ⟨p.e1, l.map (stp m p.e0)⟩ (n : Int) ps k (List.replicate (posL m (l.getD n default) p.e0).length 0) 0 = _ from this, Option.bind_some]
theorem Quz {ps : List (List Int)} {n : Nat} (hn : n <= ps.length) : Qfv (ps.take n) n = Qfv ps n := by
 unfold Qfv
 by_cases c : n = 0
 ·rw [if_pos c, if_pos c]
 ·rw [if_neg c, if_neg c, List.getD_eq_getElem?_getD, List.getElem?_take, if_pos (by omega), List.getD_eq_getElem?_getD]
theorem Q4s (k : Nat) (hk : 100 < k) {m : Qd} {l : List Qa} {p : At2} (h : Tr m l p) : ∀ (d fuel n : Nat), l.length = n + d -> d < fuel ->
 Zk k ⟨p.e1, l.map (stp m p.e0)⟩ fuel ((pots m l p).take n) (n : Int) = some (pots m l p) := by
 have hp := Qrr h
 have hpl := hp.len
 have hlen := h.len
 intro d
 induction d with
 | zero =>
   intro fuel n hd hf
   obtain ⟨g, rfl⟩ : ∃ g, fuel = g + 1 := ⟨fuel - 1, by omega⟩
   rw [Zk.eq_2, if_neg (by simp; omega), List.take_of_length_le (by omega)]
 | succ d ih =>
   intro fuel n hd hf
   obtain ⟨g, rfl⟩ : ∃ g, fuel = g + 1 := ⟨fuel - 1, by omega⟩
   obtain ⟨g1, g2, g3, g4⟩ := hp.prev (n := n) (by omega)
   have hb := Quz (ps := pots m l p) (n := n) (by omega)
   rw [Zk.eq_2, if_pos (by simp; omega), Qx5 k hk h (by omega) (by rw [List.length_take]; omega) (by rw [hb]; exact g1) (by rw [hb]; exact g2) g3 (by rw [hb]; exact g4), Option.bind_some, hb, <- Qtr (by omega), if_pos (by simp; omega), Yr (by omega)]
   have := ih g (n + 1) (by omega) (by omega)
   rw [List.take_succ_eq_append_getElem (by omega)] at this
   rw [List.getD_eq_getElem?_getD, List.getElem?_eq_getElem (by omega)]
   exact this
theorem Q17 (k : Nat) (hk : 100 < k) {m : Qd} {l : List Qa} {p : At2} (h : Tr m l p) : Jq k ⟨p.e1, l.map (stp m p.e0)⟩ = some (pots m l p) := by
 have hlen := h.len
 unfold Jq
 have := Q4s k hk h l.length k 0 (by omega) (by omega)
 rw [List.take_zero] at this
 rw [show Zk k ⟨p.e1, l.map (stp m p.e0)⟩ k [] 0 = _ from this]; rfl
def bst (g : Nat -> Int) : Nat -> Nat
 | 0 => 0
 | i + 1 => if g i < g (bst g i) then i else bst g i
theorem Qqf (g : Nat -> Int) : ∀ n, bst g n = 0 \/ bst g n < n
 | 0 => .inl rfl
 | n + 1 => by
   simp only [bst]
   split
   ·right; omega
   ·rcases Qqf g n with h | h
    ·exact .inl h
    ·right; omega
theorem Qts (g : Nat -> Int) : ∀ n j, j < n -> g (bst g n) <= g j
 | 0, j, h => by omega
 | n + 1, j, h => by
   simp only [bst]
   split
   ·rename_i c
    rcases Nat.eq_or_lt_of_le (Nat.le_of_lt_succ h) with rfl | h'
    ·exact Int.le_refl _
    ·have := Qts g n j h'; omega
   ·rename_i c
    rcases Nat.eq_or_lt_of_le (Nat.le_of_lt_succ h) with rfl | h'
    ·omega
    ·exact Qts g n j h'
theorem Q4t (k : Nat) (T : Xp) (P : List (List Int)) (S : List Xe) (y2 : List Int) (x : Int × Xe) (n : Nat) (hx : x.1 = (n : Int)) (hn : n < P.length) (hl : (P.getD n default).length = x.2.positions.length) (hl2 : x.2.positions.length <= 1000) (hb : ∀ b ∈ P.getD n default, 0 <= b /\ b <= 1000000000000) :
 ∀ (d fuel i : Nat), x.2.positions.length = i + d -> d < fuel ->
   Zm k T P S y2 x fuel (bst (fun j => (P.getD n default).getD j 0 + 0) i : Nat) (i : Int) = some ((bst (fun j => (P.getD n default).getD j 0 + 0) x.2.positions.length : Nat) : Int) := by
 intro d
 induction d with
 | zero =>
   intro fuel i h hf
   obtain ⟨g, rfl⟩ : ∃ g, fuel = g + 1 := ⟨fuel - 1, by omega⟩
   rw [Zm.eq_2, if_neg (by omega), show i = x.2.positions.length by omega]
 | succ d ih =>
   intro fuel i h hf
   obtain ⟨g, rfl⟩ : ∃ g, fuel = g + 1 := ⟨fuel - 1, by omega⟩
   have hbt := Qqf (fun j => (P.getD n default).getD j 0 + 0) i
   have ih' := ih g (i + 1) (by omega) (by omega)
   have h1 := hb _ (Qea (xs := P.getD n default) (i := i) (by omega))
   have h2 := hb _ (Qea (xs := P.getD n default) (i := bst (fun j => (P.getD n default).getD j 0 + 0) i) (by omega))
   simp only [bst] at ih'
   rw [Zm.eq_2, hx]
   simp only [Int.toNat_natCast]
   rw [if_pos (by omega), if_pos (by omega), if_pos (by omega), if_pos (by omega)]
   unfold Yg
   rw [Option.bind_some, if_pos (by omega), if_pos (by omega), Option.bind_some, Yr (by omega)]
   have e1 : w64 ((P.getD n default).getD i 0 + 0) = (P.getD n default).getD i 0 + 0 := Xt (by omega) (by omega)
   have e2 : w64 ((P.getD n default).getD (bst (fun j => (P.getD n default).getD j 0 + 0) i) 0 + 0) = (P.getD n default).getD (bst (fun j => (P.getD n default).getD j 0 + 0) i) 0 + 0 := Xt (by omega) (by omega)
   by_cases c : (P.getD n default).getD i 0 + 0 < (P.getD n default).getD (bst (fun j => (P.getD n default).getD j 0 + 0) i) 0 + 0
   ·rw [if_pos (by rw [e1, e2]; exact c)]; rw [if_pos c] at ih'; exact ih'
   ·rw [if_neg (by rw [e1, e2]; exact c)]; rw [if_neg c] at ih'; exact ih'
theorem Q4u (k : Nat) (T : Xp) (P : List (List Int)) (S : List Xe) (y2 : List Int) (z : ByteArray × Int × Int × Int × Int × Int × (List Int) × (List Int) × Int) (q : Int) (hq : near q) (x : Int × Xe) (n : Nat) (hx : x.1 = (n : Int)) (hn : n < P.length) (hl : (P.getD n default).length = x.2.positions.length) (hl2 : x.2.positions.length <= 1000) (hb : ∀ b ∈ P.getD n default, 0 <= b /\ b <= 1000000000000)
 (hp : ∀ f ∈ x.2.positions, near f) (hz : 0 <= z.2.2.2.2.2.2.2.2 /\ z.2.2.2.2.2.2.2.2 < (z.2.2.2.2.2.2.2.1.length : Int)) (hzq : z.2.2.2.2.2.2.2.1.getD z.2.2.2.2.2.2.2.2.toNat 0 = q) :
 ∀ (d fuel i : Nat), x.2.positions.length = i + d -> d < fuel ->
   Zn k T P S y2 z x fuel (bst (fun j => (P.getD n default).getD j 0 + cst (x.2.positions.getD j 0) q) i : Nat) (i : Int) = some ((bst (fun j => (P.getD n default).getD j 0 + cst (x.2.positions.getD j 0) q) x.2.positions.length : Nat) : Int) := by
 intro d
 induction d with
 | zero =>
   intro fuel i h hf
   obtain ⟨g, rfl⟩ : ∃ g, fuel = g + 1 := ⟨fuel - 1, by omega⟩
   rw [Zn.eq_2, if_neg (by omega), show i = x.2.positions.length by omega]
 | succ d ih =>
   intro fuel i h hf
   obtain ⟨g, rfl⟩ : ∃ g, fuel = g + 1 := ⟨fuel - 1, by omega⟩
   have hbt := Qqf (fun j => (P.getD n default).getD j 0 + cst (x.2.positions.getD j 0) q) i
   have ih' := ih g (i + 1) (by omega) (by omega)
   simp only [bst] at ih'
   rw [Zn.eq_2, hx]
   generalize hB : bst (fun j => (P.getD n default).getD j 0 + cst (x.2.positions.getD j 0) q) i = B at *
   have h1 := hb _ (Qea (xs := P.getD n default) (i := i) (by omega))
   have h2 := hb _ (Qea (xs := P.getD n default) (i := B) (by omega))
   have n1 := Qcr hp (i := i) (by omega)
   have n2 := Qcr hp (i := B) (by omega)
   have c1 := Qlx n1 hq
   have c2 := Qlx n2 hq
   simp only [Int.toNat_natCast]
   rw [if_pos (by omega), if_pos (by omega), if_pos (by omega), if_pos (by omega)]
   unfold Yh
   rw [if_pos hz, if_pos hz, hzq, Qhj k n1.small hq.small, Qhj k n2.small hq.small]
   simp only [Option.bind_some]
   rw [if_pos (by omega), if_pos (by omega), Yr (by omega)]
   have e1 : w64 ((P.getD n default).getD i 0 + cst (x.2.positions.getD i 0) q) = (P.getD n default).getD i 0 + cst (x.2.positions.getD i 0) q := Xt (by omega) (by omega)
   have e2 : w64 ((P.getD n default).getD B 0 + cst (x.2.positions.getD B 0) q) = (P.getD n default).getD B 0 + cst (x.2.positions.getD B 0) q := Xt (by omega) (by omega)
   by_cases c : (P.getD n default).getD i 0 + cst (x.2.positions.getD i 0) q < (P.getD n default).getD B 0 + cst (x.2.positions.getD B 0) q
   ·rw [if_pos (by rw [e1, e2]; exact c)]; rw [if_pos c] at ih'; exact ih'
   ·rw [if_neg (by rw [e1, e2]; exact c)]; rw [if_neg c] at ih'; exact ih'
theorem Qx6 : ∀ (l : List Int) (x : Int), mnF x l = x \/ mnF x l ∈ l
 | [], x => .inl rfl
 | a :: l, x => by
   have e : mnF x (a :: l) = mnF (minI x a) l := rfl
   rw [e]
   have h : minI x a = x \/ minI x a = a := by unfold minI; split <;> simp
   rcases Qx6 l (minI x a) with h1 | h1
   ·rcases h with h | h
    ·left; rw [h1, h]
    ·right; rw [h1, h]; simp
   ·right; exact List.mem_cons_of_mem _ h1
theorem Q18 {P : List (List Int)} (hP : 0 < P.length) (hr : 0 < (P.getD (P.length - 1) default).length) {b : Nat} (hb : b < (P.getD (P.length - 1) default).length) (hle : ∀ j, j < (P.getD (P.length - 1) default).length -> (P.getD (P.length - 1) default).getD b 0 <= (P.getD (P.length - 1) default).getD j 0) : bd P = (P.getD (P.length - 1) default).getD b 0 := by
 unfold bd
 rw [if_neg (by omega)]
 generalize P.getD (P.length - 1) default = r at *
 cases r with
 | nil => simp at hr
 | cons a r =>
   have e1 : (a :: r).getD 0 0 = a := rfl
   have e2 : (a :: r).drop 1 = r := rfl
   rw [e1, e2]
   obtain ⟨h1, h2⟩ := Q0h r a
   refine Int.le_antisymm ?_ ?_
   ·cases b with
    | zero => exact h1
    | succ b => exact h2 _ (Qea (xs := r) (i := b) (by simpa using hb))
   ·rcases Qx6 r a with h | h
    ·rw [h]; exact hle 0 (by simp)
    ·obtain ⟨j, hj, he⟩ := List.mem_iff_getElem.1 h
     have := hle (j + 1) (by simpa using hj)
     rw [<- he]
     rw [show (a :: r).getD (j + 1) 0 = r.getD j 0 from rfl, List.getD_eq_getElem?_getD (l := r), List.getElem?_eq_getElem hj] at this
     exact this
theorem set_drop {y : List Int} {d : Nat} (h : d < y.length) (v : Int) : (y.set d v).drop d = v :: y.drop (d + 1) := by
 rw [List.set_eq_take_append_cons_drop, if_pos h, List.drop_append_of_le_length (by rw [List.length_take]; omega), List.drop_of_length_le (by rw [List.length_take]; omega), List.nil_append]
def Inv (m : Qd) (l : List Qa) (p : At2) (d : Nat) (y2 : List Int) (st : Sum Unit (ByteArray × Int × Int × Int × Int × Int × (List Int) × (List Int) × Int)) : Prop :=
 (d = l.length /\ st = .inl ()) \/ (d < l.length /\ ∃ (b : Nat) (q : Int) (tail : List Int) (z : ByteArray × Int × Int × Int × Int × Int × (List Int) × (List Int) × Int), st = .inr z /\ z.2.2.2.2.2.2.2.1 = posL m (l.getD d default) p.e0 /\ z.2.2.2.2.2.2.2.2 = (b : Int) /\ b < (posL m (l.getD d default) p.e0).length /\ q = (posL m (l.getD d default) p.e0).getD b 0 /\
  chL m p.e0 (l.drop d) (y2.drop d) = some (q :: tail) /\ ((pots m l p).getD d default).getD b 0 + sumC q tail = bd (pots m l p))
theorem Q4h {f : Int -> Int} {xs : List Int} {b : Nat} (hb : b < xs.length) : (xs.map f).getD b 0 = f (xs.getD b 0) := by
 rw [List.getD_eq_getElem?_getD, List.getElem?_map, List.getElem?_eq_getElem hb, List.getD_eq_getElem?_getD, List.getElem?_eq_getElem hb]; rfl
theorem Q0k {m : Qd} {l : List Qa} {p : At2} {d b : Nat} (hd : d < l.length) (hb : b < (posL m (l.getD d default) p.e0).length) : ((pots m l p).getD d default).getD b 0 = hg ((posL m (l.getD d default) p.e0).getD b 0) MAXI (Qh3 m p l d) (Qfv (pots m l p) d) := by
 rw [Qtr hd]; exact Q4h hb
theorem Qtt {m : Qd} {l : List Qa} {p : At2} {d b : Nat} (hd : d < l.length) (hb : b < (trn m (apA m (l.getD d default) p.e0)).length) {y2 qs : List Int} (hy : d < y2.length) (h : chL m p.e0 (l.drop (d + 1)) (y2.drop (d + 1)) = some qs) :
 chL m p.e0 (l.drop d) ((y2.set d ((trn m (apA m (l.getD d default) p.e0)).getD b 0)).drop d) = some ((posL m (l.getD d default) p.e0).getD b 0 :: qs) := by
 rw [set_drop hy, X8 (y := l) (i := d) hd default]
 simp only [chL]
 rw [if_pos (Qea hb), h, Qzj hb]; rfl
theorem Q4i (k : Nat) (hk : 100 < k) {m : Qd} {l : List Qa} {p : At2} (h : Tr m l p) : ∀ (d : Nat) (y2 : List Int) (st : Sum Unit (ByteArray × Int × Int × Int × Int × Int × (List Int) × (List Int) × Int)), d <= l.length -> y2.length = l.length -> Inv m l p d y2 st ->
 ∃ r, Zl k ⟨p.e1, l.map (stp m p.e0)⟩ (pots m l p) (l.map (stp m p.e0)) (Qnl (l.map (stp m p.e0)) d) y2 st = some r /\ r.1.length = l.length /\ ∃ qs, chL m p.e0 l r.1 = some qs /\ sumC p.e1 qs = bd (pots m l p) := by
 have hp := Qrr h
 have hpl := hp.len
 have hlen := h.len
 intro d
 induction d with
 | zero =>
   intro y2 st hd hy hI
   refine ⟨(y2, st), by simp only [Qnl]; rw [Zl.eq_1], hy, ?_⟩
   rcases hI with ⟨h0, _⟩ | ⟨h0, b, q, tail, z, h1, h2, h3, h4, h5, h6, h7⟩
   ·have hl : l = [] := List.eq_nil_of_length_eq_zero h0.symm
    subst hl
    exact ⟨[], rfl, rfl⟩
   ·rw [List.drop_zero, List.drop_zero] at h6
    refine ⟨_, h6, ?_⟩
    rw [<- h7, Q0k h0 h4, <- h5]
    have hq : near q := by rw [h5]; exact Qcr (Qep h.mnt) h4
    have hc := Qlx (Qet h) hq
    have e1 : Qh3 m p l 0 = [p.e1] := rfl
    have e2 : Qfv (pots m l p) 0 = [0] := rfl
    have e3 : hg q MAXI [p.e1] [0] = minI MAXI (0 + cst p.e1 q) := rfl
    rw [e1, e2, e3]
    have e4 : minI MAXI (0 + cst p.e1 q) = cst p.e1 q := by
     unfold minI MAXI
     rw [if_pos (by omega)]; omega
    rw [e4]; rfl
 | succ d ih =>
   intro y2 st hd hy hI
   have hd' : d < l.length := by omega
   have hrow := hp.row hd'
   have hpos := Qlz h d hd'
   have hpl2 := Qgc m (l.getD d default) p.e0
   have hnr := Qep h.mnt (t := l.getD d default) (d := p.e0)
   have hbs : ∀ b ∈ (pots m l p).getD d default, 0 <= b /\ b <= 1000000000000 := Qx4 h _ (by rw [List.getD_eq_getElem?_getD, List.getElem?_eq_getElem (by omega)]; exact List.getElem_mem _)
   have hst : (l.map (stp m p.e0)).getD ((d : Int).toNat) default = stp m p.e0 (l.getD d default) := by rw [Int.toNat_natCast]; exact Qoq hd'
   simp only [Qnl]
   rw [hst]
   rcases hI with ⟨h0, rfl⟩ | ⟨h0, b', q', tail, z, rfl, h2, h3, h4, h5, h6, h7⟩
   ·have hl0 := Q4t k ⟨p.e1, l.map (stp m p.e0)⟩ (pots m l p) (l.map (stp m p.e0)) y2 ((d : Int), stp m p.e0 (l.getD d default)) d rfl (by omega) hrow.1 (by show (posL m (l.getD d default) p.e0).length <= 1000; omega) hbs (posL m (l.getD d default) p.e0).length k 0 (by show (posL m (l.getD d default) p.e0).length = _; omega) (by omega)
    have hB := Qqf (fun j => ((pots m l p).getD d default).getD j 0 + 0) (posL m (l.getD d default) p.e0).length
    have hM := Qts (fun j => ((pots m l p).getD d default).getD j 0 + 0) (posL m (l.getD d default) p.e0).length
    change Zm k _ _ _ y2 _ k 0 0 = some ((bst (fun j => ((pots m l p).getD d default).getD j 0 + 0) (posL m (l.getD d default) p.e0).length : Nat) : Int) at hl0
    generalize hb : bst (fun j => ((pots m l p).getD d default).getD j 0 + 0) (posL m (l.getD d default) p.e0).length = b at *
    rw [Zl.eq_2, hl0, Option.bind_some, if_pos (by show 0 <= (b : Int) /\ (b : Int) < ((trn m (apA m (l.getD d default) p.e0)).length : Int); omega), if_pos (by show 0 <= (d : Int) /\ (d : Int) < (y2.length : Int); omega), if_pos (by show (d : Int) < _; simp; omega)]
    refine ih _ _ (by omega) (by rw [List.length_set]; exact hy) (.inr ⟨hd', b, (posL m (l.getD d default) p.e0).getD b 0, [], _, rfl, rfl, rfl, by omega, rfl, ?_, ?_⟩)
    ·have e0 : l.drop (d + 1) = [] := List.drop_of_length_le (by omega)
     exact Qtt hd' (by omega) (by omega) (by rw [e0]; rfl)
    ·rw [show sumC ((posL m (l.getD d default) p.e0).getD b 0) [] = 0 from rfl, Int.add_zero]
     have e1 : (pots m l p).length - 1 = d := by omega
     have := Q18 (P := pots m l p) (by omega) (by rw [e1]; omega) (b := b) (by rw [e1]; omega) (fun j hj => by
      rw [e1] at hj ⊢
      have := hM j (by omega)
      simp only [Int.add_zero] at this
      exact this)
     rw [e1] at this
     exact this.symm
   ·have hq' : near q' := by rw [h5]; exact Qcr (Qep h.mnt) h4
    have hl1 := Q4u k ⟨p.e1, l.map (stp m p.e0)⟩ (pots m l p) (l.map (stp m p.e0)) y2 z q' hq' ((d : Int), stp m p.e0 (l.getD d default)) d rfl (by omega) hrow.1 (by show (posL m (l.getD d default) p.e0).length <= 1000; omega) hbs hnr (by rw [h3, h2]; omega) (by rw [h2, h3, Int.toNat_natCast]; exact h5.symm) (posL m (l.getD d default) p.e0).length k 0 (by show (posL m (l.getD d default) p.e0).length = _; omega) (by omega)
    have hB := Qqf (fun j => ((pots m l p).getD d default).getD j 0 + cst ((posL m (l.getD d default) p.e0).getD j 0) q') (posL m (l.getD d default) p.e0).length
    have hM := Qts (fun j => ((pots m l p).getD d default).getD j 0 + cst ((posL m (l.getD d default) p.e0).getD j 0) q') (posL m (l.getD d default) p.e0).length
    change Zn k _ _ _ y2 z _ k 0 0 = some ((bst (fun j => ((pots m l p).getD d default).getD j 0 + cst ((posL m (l.getD d default) p.e0).getD j 0) q') (posL m (l.getD d default) p.e0).length : Nat) : Int) at hl1
    generalize hb : bst (fun j => ((pots m l p).getD d default).getD j 0 + cst ((posL m (l.getD d default) p.e0).getD j 0) q') (posL m (l.getD d default) p.e0).length = b at *
    rw [Zl.eq_3, hl1, Option.bind_some, if_pos (by show 0 <= (b : Int) /\ (b : Int) < ((trn m (apA m (l.getD d default) p.e0)).length : Int); omega), if_pos (by show 0 <= (d : Int) /\ (d : Int) < (y2.length : Int); omega), if_pos (by show (d : Int) < _; simp; omega)]
    refine ih _ _ (by omega) (by rw [List.length_set]; exact hy) (.inr ⟨hd', b, (posL m (l.getD d default) p.e0).getD b 0, q' :: tail, _, rfl, rfl, rfl, by omega, rfl, Qtt hd' (by omega) (by omega) h6, ?_⟩)
    have hr := Q0k (m := m) (p := p) h0 h4
    rw [Quw, Qux, <- h5] at hr
    have hbl : b < (posL m (l.getD d default) p.e0).length := by omega
    have hup := Q0g q' (posL m (l.getD d default) p.e0) ((pots m l p).getD d default) MAXI _ _ (Qx2 (i := b) hbl (by omega))
    obtain ⟨⟨i, hi1, hi2⟩, _, _⟩ := Q4g hq' hrow.1.symm (by omega) hnr hbs (Int.le_refl _)
    have hlow := hM i hi1
    have e : hg q' MAXI (posL m (l.getD d default) p.e0) ((pots m l p).getD d default) = ((pots m l p).getD d default).getD b 0 + cst ((posL m (l.getD d default) p.e0).getD b 0) q' := by omega
    rw [<- h7, hr, e]
    simp only [sumC]
    omega
theorem Qu0 (k : Nat) (hk : 100 < k) {m : Qd} {l : List Qa} {p : At2} (h : Tr m l p) : ∃ xs, Wy k ⟨p.e1, l.map (stp m p.e0)⟩ (pots m l p) = some xs /\ xs.length = l.length /\ chE m l p xs = (bd (pots m l p), 0) := by
 have hlen := h.len
 obtain ⟨r, h1, h2, qs, h3, h4⟩ := Q4i k hk h l.length (List.replicate l.length 0) (.inl ()) (Nat.le_refl _) (by simp) (.inl ⟨rfl, rfl⟩)
 refine ⟨r.1, ?_, h2, ?_⟩
 ·unfold Wy Xg
  rw [if_pos (by simp; omega), Option.bind_some, if_pos (by simp; omega)]
  have e : ((l.map (stp m p.e0)).length : Int).toNat = l.length := by simp
  show (Zl k ⟨p.e1, l.map (stp m p.e0)⟩ (pots m l p) (l.map (stp m p.e0)) (Qnl (l.map (stp m p.e0)) (l.map (stp m p.e0)).length) (List.replicate ((l.map (stp m p.e0)).length : Int).toNat 0) (.inl ())).bind (fun r => if r.1.length = ((l.map (stp m p.e0)).length : Int).toNat then some r.1 else none) = _
  rw [e, List.length_map, h1, Option.bind_some, if_pos h2]
 ·unfold chE
  rw [if_pos h2, h3]
  show (sumC p.e1 qs, (0 : Int)) = _
  rw [h4]
theorem Qt4 (k : Nat) (hk : 100 < k) (hk2 : k <= 100000000000000000000) (m : Qd) (h1 : m.Refraction.length < k) (h2 : m.Drift.length < k) (l : List Qa) (p : At2) :
 ((trE m l p).2 ≠ 0 /\ Qbr k m l p = some (⟨[], []⟩, 0, (trE m l p).2)) \/
   (Tr m l p /\ (trE m l p).2 = 0 /\ ∃ xs, Qbr k m l p = some (⟨xs, pots m l p⟩, bd (pots m l p), 0) /\ xs.length = l.length /\ chE m l p xs = (bd (pots m l p), 0)) := by
 unfold Qbr
 rw [Qi0 k hk hk2 m h1 h2, Option.bind_some]
 by_cases c : (trE m l p).2 = 0
 ·right
  have hT := Tr.of c
  obtain ⟨xs, e1, e2, e3⟩ := Qu0 k hk hT
  refine ⟨hT, c, xs, ?_, e2, e3⟩
  simp only [if_pos c]
  rw [Q17 k hk hT, Option.bind_some, e1, Option.bind_some, Qrq k hk (Qrr hT) (Qlz hT), Option.bind_some]
 ·left
  refine ⟨c, ?_⟩
  simp only [if_neg c]
end Go.Proofs.Ytbgajdbpdhipiaa.Vg
end

section
set_option linter.unusedVariables false
set_option linter.unusedSimpArgs false
namespace Go.Proofs.Ytbgajdbpdhipiaa.Vg
open Go Go.Proofs.Ytbgajdbpdhipiaa.Ev Go.Proofs.Ytbgajdbpdhipiaa.Vv
def upD (n s : Int) : Int := 0 - (0 - n) / s
theorem Qu1 {n s : Int} (hn : 0 <= n) (hs : 1 <= s) : 0 <= upD n s /\ upD n s <= n := by
 unfold upD
 have h1 := Qzq (p := 0 - n) (d := s) (A := n) (by omega) (by omega)
 have h2 : (0 - n) / s <= 0 := by
  have := Int.ediv_le_ediv (show 0 < s by omega) (show 0 - n <= 0 by omega)
  simpa using this
 omega
theorem Qrs (k : Nat) {n s : Int} (hn : 0 <= n /\ n <= 1000000000000) (hs : 1 <= s) : Qee k n s = some (upD n s) := by
 unfold Qee
 have h := Qu1 hn.1 hs
 unfold upD at h ⊢
 rw [Xt (n := 0 - n) (by omega) (by omega), Qj6 k (by omega) (by omega), Option.bind_some, Xt (by omega) (by omega)]
theorem Qya (k : Nat) {n s : Int} (hn : 0 <= n /\ n <= 1000000000000) (hs : 1 <= s) : Qee k n s = some (upD n s) := by
 exact Qrs k hn hs
def tmL (sp : Int) : Int -> Int -> List Qa -> List Int -> Nat -> Sum Int (List Int)
 | f, mi, t :: l, p :: ps, i =>
   if t.To < maxI (mi + upD (absI (p - f)) sp) t.From + t.Dwell then .inl (i : Int)
   else match tmL sp p (maxI (mi + upD (absI (p - f)) sp) t.From + t.Dwell) l ps (i + 1) with
    | .inl e => .inl e
    | .inr bs => .inr (maxI (mi + upD (absI (p - f)) sp) t.From :: bs)
 | _, _, _, _, _ => .inr []
theorem Q0l (p : List Int) (v : Int) (r : List Int) {i : Nat} (h : p.length = i) : ((p ++ [v]) ++ r).getD i 0 = v := by
 subst h
 rw [List.getD_eq_getElem?_getD, List.append_assoc, List.getElem?_append_right (Nat.le_refl _), Nat.sub_self]; rfl
theorem Qu2 (x y : Int) : maxI x y = if y > x then y else x := rfl
theorem Qyb {ps : List Int} (hp : ∀ p ∈ ps, near p) {i : Nat} (h : i < ps.length) : near (ps.getD i 0) := hp _ (by rw [List.getD_eq_getElem?_getD, List.getElem?_eq_getElem h]; exact List.getElem_mem _)
theorem Q0m (k : Nat) {m : Qd} {l : List Qa} {p : At2} (h : Tr m l p) (a2 : A47) (ps : List Int) (e1 e2 e3 : Int) (hp : ∀ p ∈ ps, near p) (hpl : ps.length = l.length) : ∀ (d fuel i : Nat) (y : List Int) (f mi : Int), l.length = i + d -> d < fuel -> y.length = i -> near f -> 0 <= mi -> mi <= 10000000 ->
 X3 k m a2 (⟨p.e1, l.map (stp m p.e0)⟩, e1, e2) (ps, e3) fuel (y ++ List.replicate d 0) f mi (i : Int) = some (match tmL m.Speed f mi (l.drop i) (ps.drop i) i with | .inl e => .inl e | .inr bs => .inr (y ++ bs)) := by
 have hlen := h.len
 intro d
 induction d with
 | zero =>
   intro fuel i y f mi hi hf hy hn h1 h2
   obtain ⟨g, rfl⟩ : ∃ g, fuel = g + 1 := ⟨fuel - 1, by omega⟩
   rw [X3.eq_2, if_neg (by simp; omega), List.drop_eq_nil_of_le (by omega)]
   simp [tmL]
 | succ d ih =>
   intro fuel i y f mi hi hf hy hn h1 h2
   obtain ⟨g, rfl⟩ : ∃ g, fuel = g + 1 := ⟨fuel - 1, by omega⟩
   have hs : (l.map (stp m p.e0)).getD i default = stp m p.e0 (l.getD i default) := by
    rw [List.getD_eq_getElem?_getD, List.getElem?_map, List.getD_eq_getElem?_getD, List.getElem?_eq_getElem (by omega)]; rfl
   obtain ⟨ht, _⟩ := h.tgt i (by omega)
   have hfr := ht.fr
   have hdw := ht.dw
   have hq := Qyb hp (i := i) (by omega)
   have ha := Qm6 (A := 25920000) hn hq
   have hsp := h.mnt.sp
   have hu := Qu1 ha.1 hsp.1
   rw [X3.eq_2, if_pos (by simp; omega), if_pos (by simp; omega), if_pos (show 0 <= (i : Int) /\ (i : Int) < (ps.length : Int) by omega), Yr (by omega), X8 (y := l) (i := i) (by omega) default, X8 (y := ps) (i := i) (by omega) 0]
   simp only [Int.toNat_natCast, hs]
   rw [Qe2 k hn.small hq.small, Option.bind_some]
   dsimp only
   rw [Qrs k (by omega) hsp.1, Option.bind_some]
   rw [Xt (n := mi + _) (by omega) (by omega)]
   rw [show (stp m p.e0 (l.getD i default)).SkyTarget = l.getD i default from rfl, Qrt hy, Q0l y _ _ hy]
   have hb : 0 <= maxI (mi + upD (absI (ps.getD i 0 - f)) m.Speed) (l.getD i default).From /\ maxI (mi + upD (absI (ps.getD i 0 - f)) m.Speed) (l.getD i default).From <= 100000000 := by
    rw [Qu2]; split <;> omega
   rw [Xt (n := _ + (l.getD i default).Dwell) (by omega) (by omega), if_pos (by simp; omega), if_pos (by simp; omega), if_pos (by simp; omega)]
   simp only [tmL]
   by_cases c : (l.getD i default).To < maxI (mi + upD (absI (ps.getD i 0 - f)) m.Speed) (l.getD i default).From + (l.getD i default).Dwell
   ·rw [if_pos c, if_pos c]
   ·rw [if_neg c, if_neg c, ih g (i + 1) _ _ _ (by omega) (by omega) (by simp; omega) hq (by omega) (by omega)]
    cases tmL m.Speed (ps.getD i 0) (maxI (mi + upD (absI (ps.getD i 0 - f)) m.Speed) (l.getD i default).From + (l.getD i default).Dwell) (l.drop (i + 1)) (ps.drop (i + 1)) (i + 1) with
    | inl e => rfl
    | inr bs => simp
def tmR : Sum Int (List Int) -> List Int × Int × Int
 | .inl e => ([], e, 18)
 | .inr bs => (bs, 0, 0)
def tmE (m : Qd) (l : List Qa) (p : At2) (mi : Int) (xs : List Int) : List Int × Int × Int :=
 if (trE m l p).2 = 0 then (if inR 0 10000000 mi = true then (if (chE m l p xs).2 = 0 then tmR (tmL m.Speed p.e1 mi l ((chL m p.e0 l xs).getD []) 0) else ([], 0, (chE m l p xs).2)) else ([], 0, 2)) else ([], 0, (trE m l p).2)
theorem Qu3 (k : Nat) (hk : 100 < k) (hk2 : k <= 100000000000000000000) (m : Qd) (h1 : m.Refraction.length < k) (h2 : m.Drift.length < k) (l : List Qa) (p : At2) (mi : Int) (xs : List Int) (hxl : xs.length < 9223372036854775807) :
 Qcb k m l ⟨p.e0, p.e1, mi⟩ xs = some (match trE m l p with | (a, b) => if b = 0 then tmE m l p mi xs else ([], 0, b)) := by
 unfold Qcb
 rw [show (⟨(⟨p.e0, p.e1, mi⟩ : A47).e0, (⟨p.e0, p.e1, mi⟩ : A47).e1⟩ : At2) = p from rfl, Qi0 k hk hk2 m h1 h2, Option.bind_some]
 by_cases c : (trE m l p).2 = 0
 ·have hT := Tr.of c
  have hlen := hT.len
  unfold tmE
  simp only [if_pos c]
  rw [Y8 k _ _ _ hk hk2, Option.bind_some]
  cases c2 : inR 0 10000000 mi with
  | false => rfl
  | true =>
    have hmi := Qfe.1 c2
    rw [if_pos rfl, if_pos rfl, Qtu k hk hT xs p.e1 hxl, Option.bind_some]
    unfold chE
    by_cases c1 : xs.length = l.length
    ·simp only [if_pos c1]
     cases hc : chL m p.e0 l xs with
     | none => rfl
     | some ps =>
       obtain ⟨g1, g2⟩ := Qm7 hT.mnt hc
       have ht := Q0m k hT ⟨p.e0, p.e1, mi⟩ ps (trE m l p).1 (trE m l p).2 0 g1 g2 l.length k 0 [] p.e1 mi (by omega) (by omega) rfl (Qet hT) hmi.1 hmi.2
       rw [List.nil_append, List.drop_zero, List.drop_zero] at ht
       dsimp only
       rw [if_pos rfl, if_pos rfl, if_pos (by omega), show ((ps.length : Int)).toNat = l.length by omega]
       rw [show X3 k m ⟨p.e0, p.e1, mi⟩ (⟨p.e1, l.map (stp m p.e0)⟩, trE m l p) (ps, 0) k (List.replicate l.length 0) p.e1 mi 0 = _ from ht, Option.bind_some]
       rw [Option.getD_some]
       cases tmL m.Speed p.e1 mi l ps 0 with
       | inl e => rfl
       | inr bs => rfl
    ·simp only [if_neg c1]
     rfl
 ·simp only [if_neg c]
end Go.Proofs.Ytbgajdbpdhipiaa.Vg
end

section
set_option linter.unusedVariables false
set_option linter.unusedSimpArgs false
namespace Go.Proofs.Ytbgajdbpdhipiaa.Vg
open Go Go.Proofs.Ytbgajdbpdhipiaa.Ev Go.Proofs.Ytbgajdbpdhipiaa.Vv
theorem Q0w (k : Nat) (d : Int) (hk : 100 < k) (hk2 : k <= 100000000000000000000) (hd : 0 <= d /\ d <= 100000) : Wh k d = some 0 := by
 unfold Wh
 rw [Y8 k _ _ _ hk hk2, Option.bind_some, if_pos (Qfe.2 hd)]
theorem Tr.mt {m : Qd} {l : List Qa} {p : At2} (h : (trE m l p).2 = 0) : mntE m = 0 /\ ∀ i, i < l.length -> tgtE (l.getD i default) = 0 := by
 unfold trE at h
 split at h
 ·rename_i c1
  refine ⟨c1, ?_⟩
  split at h
  ·split at h
   ·split at h
    ·cases h
    ·cases he : errs m p.e0 l l.length 0 with
     | some e => rw [he] at h; exact absurd h (Qnm m p.e0 l _ _ e he)
     | none =>
       intro i hi
       have := Qkv m p.e0 l _ _ he i (by omega) (by omega)
       unfold tgE at this
       split at this
       ·assumption
       ·contradiction
   ·cases h
  ·cases h
 ·rename_i c; exact absurd h c
theorem Qr7 (k : Nat) (hk : 100 < k) (hk2 : k <= 100000000000000000000) {m : Qd} (h1 : m.Refraction.length < k) (h2 : m.Drift.length < k) {t : Qa} {d : Int} (hm : mntE m = 0) (ht : tgtE t = 0) (hd : 0 <= d /\ d <= 100000) : Y3 k m t d = some 0 := by
 unfold Y3
 rw [Qkw k hk hk2 m h1 h2, Option.bind_some, if_pos hm, Qjn k hk hk2, Option.bind_some, if_pos ht, Q0w k d hk hk2 hd, Option.bind_some]
theorem app_any (k : Nat) (hk : 100 < k) (hk2 : k <= 100000000000000000000) {m : Qd} (h1 : m.Refraction.length < k) (h2 : m.Drift.length < k) {t : Qa} {d : Int} (hm : mntE m = 0) (ht : tgtE t = 0) (hd : 0 <= d /\ d <= 100000) : Wi k m t d = some (⟨apA m t d, apH m t⟩, 0) := by
 unfold Wi
 rw [Qr7 k hk hk2 h1 h2 hm ht hd, Option.bind_some, if_pos rfl, Qhp k hk (Mnt.of hm) (Tgt.of ht) hd]
 rfl
theorem Qkx (k : Nat) (hk : 100 < k) (hk2 : k <= 100000000000000000000) {m : Qd} (h1 : m.Refraction.length < k) (h2 : m.Drift.length < k) {t : Qa} {d : Int} (hm : mntE m = 0) (ht : tgtE t = 0) (hd : 0 <= d /\ d <= 100000) (hs : stpE m t d = 0) : Qbf k m t d = some (trn m (apA m t d), 0) := by
 unfold Qbf
 rw [Qr7 k hk hk2 h1 h2 hm ht hd, Option.bind_some, if_pos rfl, Qmh k hk hk2 (Mnt.of hm) (Tgt.of ht) hd, Option.bind_some, if_pos hs]
theorem Qql (k : Nat) (hk : 100 < k) (hk2 : k <= 100000000000000000000) {a b : Int} (ha : near a) (hb : near b) : Qc0 k a b = some (absI (b - a), decide (648000 < absI (b - a)), 0) := by
 unfold Qc0
 rw [Qi6 k _ _ _ (by decide) hk hk2, Option.bind_some, if_pos (by rw [Bool.and_eq_true]; exact ⟨Qfe.2 ha, Qfe.2 hb⟩), Qe2 k ha.small hb.small]
 rfl
theorem Q4k (k : Nat) (xs : List Int) (v : Int) (hl : xs.length < 1000000000) : ∀ (d fuel i : Nat), xs.length = i + d -> d < fuel ->
 Xb k xs v fuel (i : Int) = some (if v ∈ xs.drop i then .inl () else .inr ()) := by
 intro d
 induction d with
 | zero =>
   intro fuel i h hf
   obtain ⟨g, rfl⟩ : ∃ g, fuel = g + 1 := ⟨fuel - 1, by omega⟩
   rw [Xb.eq_2, if_neg (by omega), List.drop_eq_nil_of_le (by omega), if_neg (by simp)]
 | succ d ih =>
   intro fuel i h hf
   obtain ⟨g, rfl⟩ : ∃ g, fuel = g + 1 := ⟨fuel - 1, by omega⟩
   rw [Xb.eq_2, if_pos (by omega), if_pos (by omega), Int.toNat_natCast, Yr (by omega), ih g (i + 1) (by omega) (by omega), X8 (y := xs) (i := i) (by omega) 0]
   by_cases c : xs.getD i 0 = v
   ·rw [if_pos c, if_pos (by rw [c]; exact List.mem_cons_self)]
   ·rw [if_neg c]
    by_cases c2 : v ∈ xs.drop (i + 1)
    ·rw [if_pos c2, if_pos (List.mem_cons_of_mem _ c2)]
    ·rw [if_neg c2, if_neg (by rw [List.mem_cons]; rintro (h | h); exact c h.symm; exact c2 h)]
theorem Qqm (k : Nat) (xs : List Int) (v : Int) (hl : xs.length < 1000000000) (hk : xs.length < k) (h : v ∈ xs) : Jy k xs v = some true := by
 unfold Jy
 have := Q4k k xs v hl xs.length k 0 (by omega) hk
 rw [List.drop_zero, if_pos h] at this
 rw [show Xb k xs v k 0 = _ from this]; rfl
theorem Qky {m : Qd} {t : Qa} {d : Int} (h : stpE m t d = 0) : m.Low <= apH m t /\ apH m t <= m.High := by
 unfold stpE at h
 cases c : inR m.Low m.High (apH m t) with
 | false => rw [c] at h; cases h
 | true => exact Qfe.1 c
theorem Qz1 {sp f mi p : Int} {t : Qa} {l : List Qa} {ps : List Int} {i : Nat} {bs : List Int} (h : tmL sp f mi (t :: l) (p :: ps) i = .inr bs) : ¬(t.To < maxI (mi + upD (absI (p - f)) sp) t.From + t.Dwell) /\ ∃ cs, tmL sp p (maxI (mi + upD (absI (p - f)) sp) t.From + t.Dwell) l ps (i + 1) = .inr cs /\ bs = maxI (mi + upD (absI (p - f)) sp) t.From :: cs := by
 simp only [tmL] at h
 split at h
 ·cases h
 ·rename_i c
  refine ⟨c, ?_⟩
  cases hq : tmL sp p (maxI (mi + upD (absI (p - f)) sp) t.From + t.Dwell) l ps (i + 1) with
  | inl e => rw [hq] at h; cases h
  | inr cs => rw [hq] at h; injection h with h; exact ⟨cs, rfl, h.symm⟩
theorem Q2q (k : Nat) (hk : 100 < k) (hk2 : k <= 100000000000000000000) (x : Qad) (c : Zv × Int × Int) (r : (List Int) × Int × Int) (a : x.Mount.Refraction.length <= 43) (b : x.Mount.Drift.length <= 43) (hk3 : 50 < k) (ht : (trE x.Mount x.Targets x.At).2 = 0) (hx : c.1.Turns.length = x.Targets.length) (hr2 : r.2.2 ≠ 0) :
 ∀ (d fuel i : Nat) (f now : Int) (qs : List Int), x.Targets.length = i + d -> d < fuel -> near f -> chL x.Mount x.At.e0 (x.Targets.drop i) (c.1.Turns.drop i) = some qs ->
   Q8 k x c r fuel f now (i : Int) = some (.inr ()) := by
 have hT := Tr.of ht
 have hlen := hT.len
 obtain ⟨hm, htg⟩ := Tr.mt ht
 intro d
 induction d with
 | zero =>
   intro fuel i f now qs h hf hn hq
   obtain ⟨g, rfl⟩ : ∃ g, fuel = g + 1 := ⟨fuel - 1, by omega⟩
   rw [Q8.eq_2, if_neg (by omega)]
 | succ d ih =>
   intro fuel i f now qs h hf hn hq
   obtain ⟨g, rfl⟩ : ∃ g, fuel = g + 1 := ⟨fuel - 1, by omega⟩
   rw [X8 (y := x.Targets) (i := i) (by omega) default, X8 (y := c.1.Turns) (i := i) (by omega) 0] at hq
   simp only [chL] at hq
   split at hq
   case isFalse => cases hq
   rename_i hmem
   cases hr : chL x.Mount x.At.e0 (x.Targets.drop (i + 1)) (c.1.Turns.drop (i + 1)) with
   | none => rw [hr] at hq; cases hq
   | some q =>
     rw [hr] at hq
     simp only [Option.map_some, Option.some.injEq] at hq
     subst hq
     have hp := Qic hT.mnt hmem
     have hin := Qr8 hT.mnt hmem
     have htb := Qvo _ _ _ hmem
     have hst := (hT.tgt i (by omega)).2
     have hsf := Qky hst
     have hpd : apA x.Mount (x.Targets.getD i default) x.At.e0 + c.1.Turns.getD i 0 * 1296000 = pos x.Mount (x.Targets.getD i default) x.At.e0 (c.1.Turns.getD i 0) := rfl
     have hpn := hp
     unfold near at hpn
     rw [<- hpd] at hpn
     have htl := Qi7 x.Mount (apA x.Mount (x.Targets.getD i default) x.At.e0)
     have hto : w64 (apA x.Mount (x.Targets.getD i default) x.At.e0 + w64 (c.1.Turns.getD i 0 * 1296000)) = pos x.Mount (x.Targets.getD i default) x.At.e0 (c.1.Turns.getD i 0) := by
      rw [Xt (n := c.1.Turns.getD i 0 * 1296000) (by omega) (by omega), Xt (by omega) (by omega), hpd]
     rw [Q8.eq_2, if_pos (by omega), if_pos (by omega), Int.toNat_natCast, Qkx k hk hk2 (by omega) (by omega) hm (htg i (by omega)) hT.day hst, Option.bind_some, app_any k hk hk2 (by omega) (by omega) hm (htg i (by omega)) hT.day, Option.bind_some, if_pos rfl, if_pos rfl, if_pos (by omega), Qqm k _ _ (by omega) (by omega) hmem, Option.bind_some, if_pos rfl]
     dsimp only
     rw [if_neg (by omega), if_neg (by omega), hto, Qql k hk hk2 hn hp, Option.bind_some, if_pos rfl, if_neg (by omega), if_neg (by omega)]
     rw [if_neg hr2, Yr (by omega)]
     exact ih g (i + 1) _ _ q (by omega) (by omega) hp hr
theorem Q2r (k : Nat) (hk : 100 < k) (hk2 : k <= 100000000000000000000) (x : Qad) (c : Zv × Int × Int) (r : (List Int) × Int × Int) (a : x.Mount.Refraction.length <= 43) (b : x.Mount.Drift.length <= 43) (hk3 : 50 < k) (ht : (trE x.Mount x.Targets x.At).2 = 0) (hx : c.1.Turns.length = x.Targets.length) (hr2 : r.2.2 ≠ 0) :
 ∀ (d fuel i : Nat) (f now : Int) (qs : List Int), x.Targets.length = i + d -> d < fuel -> near f -> chL x.Mount x.At.e0 (x.Targets.drop i) (c.1.Turns.drop i) = some qs ->
   Q8 k x c r fuel f now (i : Int) = some (.inr ()) := by
 have hT := Tr.of ht
 have hlen := hT.len
 obtain ⟨hm, htg⟩ := Tr.mt ht
 intro d
 induction d with
 | zero =>
   intro fuel i f now qs h hf hn hq
   obtain ⟨g, rfl⟩ : ∃ g, fuel = g + 1 := ⟨fuel - 1, by omega⟩
   rw [Q8.eq_2, if_neg (by omega)]
 | succ d ih =>
   intro fuel i f now qs h hf hn hq
   obtain ⟨g, rfl⟩ : ∃ g, fuel = g + 1 := ⟨fuel - 1, by omega⟩
   rw [X8 (y := x.Targets) (i := i) (by omega) default, X8 (y := c.1.Turns) (i := i) (by omega) 0] at hq
   simp only [chL] at hq
   split at hq
   case isFalse => cases hq
   rename_i hmem
   cases hr : chL x.Mount x.At.e0 (x.Targets.drop (i + 1)) (c.1.Turns.drop (i + 1)) with
   | none => rw [hr] at hq; cases hq
   | some q =>
     rw [hr] at hq
     simp only [Option.map_some, Option.some.injEq] at hq
     subst hq
     have hp := Qic hT.mnt hmem
     have hin := Qr8 hT.mnt hmem
     have htb := Qvo _ _ _ hmem
     have hst := (hT.tgt i (by omega)).2
     have hsf := Qky hst
     have hpd : apA x.Mount (x.Targets.getD i default) x.At.e0 + c.1.Turns.getD i 0 * 1296000 = pos x.Mount (x.Targets.getD i default) x.At.e0 (c.1.Turns.getD i 0) := rfl
     have hpn := hp
     unfold near at hpn
     rw [<- hpd] at hpn
     have htl := Qi7 x.Mount (apA x.Mount (x.Targets.getD i default) x.At.e0)
     have hto : w64 (apA x.Mount (x.Targets.getD i default) x.At.e0 + w64 (c.1.Turns.getD i 0 * 1296000)) = pos x.Mount (x.Targets.getD i default) x.At.e0 (c.1.Turns.getD i 0) := by
      rw [Xt (n := c.1.Turns.getD i 0 * 1296000) (by omega) (by omega), Xt (by omega) (by omega), hpd]
     rw [Q8.eq_2, if_pos (by omega), if_pos (by omega), Int.toNat_natCast, Qkx k hk hk2 (by omega) (by omega) hm (htg i (by omega)) hT.day hst, Option.bind_some, app_any k hk hk2 (by omega) (by omega) hm (htg i (by omega)) hT.day, Option.bind_some, if_pos rfl, if_pos rfl, if_pos (by omega), Qqm k _ _ (by omega) (by omega) hmem, Option.bind_some, if_pos rfl]
     dsimp only
     rw [if_neg (by omega), if_neg (by omega), hto, Qql k hk hk2 hn hp, Option.bind_some, if_pos rfl, if_neg (by omega), if_neg (by omega)]
     rw [if_neg hr2, Yr (by omega)]
     exact ih g (i + 1) _ _ q (by omega) (by omega) hp hr
theorem Q2s (k : Nat) (hk : 100 < k) (hk2 : k <= 100000000000000000000) (x : Qad) (c : Zv × Int × Int) (r : (List Int) × Int × Int) (a : x.Mount.Refraction.length <= 43) (b : x.Mount.Drift.length <= 43) (hk3 : 50 < k) (ht : (trE x.Mount x.Targets x.At).2 = 0) (hx : c.1.Turns.length = x.Targets.length) (hr2 : r.2.2 = 0) (hrl : r.1.length = x.Targets.length) :
 ∀ (d fuel i : Nat) (f now : Int) (qs : List Int), x.Targets.length = i + d -> d < fuel -> near f -> 0 <= now -> now <= 10000000 -> chL x.Mount x.At.e0 (x.Targets.drop i) (c.1.Turns.drop i) = some qs -> tmL x.Mount.Speed f now (x.Targets.drop i) qs i = .inr (r.1.drop i) ->
   Q8 k x c r fuel f now (i : Int) = some (.inr ()) := by
 have hT := Tr.of ht
 have hlen := hT.len
 obtain ⟨hm, htg⟩ := Tr.mt ht
 intro d
 induction d with
 | zero =>
   intro fuel i f now qs h hf hn hn1 hn2 hq htm
   obtain ⟨g, rfl⟩ : ∃ g, fuel = g + 1 := ⟨fuel - 1, by omega⟩
   rw [Q8.eq_2, if_neg (by omega)]
 | succ d ih =>
   intro fuel i f now qs h hf hn hn1 hn2 hq htm
   obtain ⟨g, rfl⟩ : ∃ g, fuel = g + 1 := ⟨fuel - 1, by omega⟩
   rw [X8 (y := x.Targets) (i := i) (by omega) default, X8 (y := c.1.Turns) (i := i) (by omega) 0] at hq
   simp only [chL] at hq
   split at hq
   case isFalse => cases hq
   rename_i hmem
   cases hr : chL x.Mount x.At.e0 (x.Targets.drop (i + 1)) (c.1.Turns.drop (i + 1)) with
   | none => rw [hr] at hq; cases hq
   | some q =>
     rw [hr] at hq
     simp only [Option.map_some, Option.some.injEq] at hq
     subst hq
     have hp := Qic hT.mnt hmem
     have hin := Qr8 hT.mnt hmem
     have htb := Qvo _ _ _ hmem
     have hst := (hT.tgt i (by omega)).2
     have hsf := Qky hst
     have hpd : apA x.Mount (x.Targets.getD i default) x.At.e0 + c.1.Turns.getD i 0 * 1296000 = pos x.Mount (x.Targets.getD i default) x.At.e0 (c.1.Turns.getD i 0) := rfl
     have hpn := hp
     unfold near at hpn
     rw [<- hpd] at hpn
     have htl := Qi7 x.Mount (apA x.Mount (x.Targets.getD i default) x.At.e0)
     have hto : w64 (apA x.Mount (x.Targets.getD i default) x.At.e0 + w64 (c.1.Turns.getD i 0 * 1296000)) = pos x.Mount (x.Targets.getD i default) x.At.e0 (c.1.Turns.getD i 0) := by
      rw [Xt (n := c.1.Turns.getD i 0 * 1296000) (by omega) (by omega), Xt (by omega) (by omega), hpd]
     rw [Q8.eq_2, if_pos (by omega), if_pos (by omega), Int.toNat_natCast, Qkx k hk hk2 (by omega) (by omega) hm (htg i (by omega)) hT.day hst, Option.bind_some, app_any k hk hk2 (by omega) (by omega) hm (htg i (by omega)) hT.day, Option.bind_some, if_pos rfl, if_pos rfl, if_pos (by omega), Qqm k _ _ (by omega) (by omega) hmem, Option.bind_some, if_pos rfl]
     dsimp only
     rw [if_neg (by omega), if_neg (by omega), hto, Qql k hk hk2 hn hp, Option.bind_some, if_pos rfl, if_neg (by omega), if_neg (by omega)]
     rw [X8 (y := x.Targets) (i := i) (by omega) default] at htm
     obtain ⟨t1, cs, t2, t3⟩ := Qz1 htm
     rw [X8 (y := r.1) (i := i) (by omega) 0] at t3
     injection t3 with t4 t5
     have htf := (hT.tgt i (by omega)).1
     have hfr := htf.fr
     have hdw := htf.dw
     have hsp := hT.mnt.sp
     have ha := Qm6 (A := 25920000) hn hp
     have hu := Qu1 ha.1 hsp.1
     have hb : now + upD (absI (pos x.Mount (x.Targets.getD i default) x.At.e0 (c.1.Turns.getD i 0) - f)) x.Mount.Speed <= r.1.getD i 0 /\ (x.Targets.getD i default).From <= r.1.getD i 0 := by
      rw [t4, Qu2]; split <;> omega
     rw [<- t4] at t1 t2
     rw [if_pos hr2, if_pos (by omega), Qya k (by omega) hsp.1, Option.bind_some]
     dsimp only
     rw [Xt (n := now + _) (by omega) (by omega), if_neg (by omega), if_neg (by omega), Xt (n := r.1.getD i 0 + _) (by omega) (by omega), if_neg (by omega), if_pos t4, Yr (by omega)]
     exact ih g (i + 1) _ _ q (by omega) (by omega) hp (by omega) (by omega) hr (by rw [<- t5] at t2; exact t2)
theorem Qvp {sp : Int} : ∀ (l : List Qa) (ps : List Int) (f mi : Int) (i : Nat) (bs : List Int), ps.length = l.length -> tmL sp f mi l ps i = .inr bs -> bs.length = l.length
 | [], [], f, mi, i, bs, _, h => by simp only [tmL] at h; injection h with h; subst h; rfl
 | [], p :: ps, f, mi, i, bs, hl, h => by simp at hl
 | t :: l, [], f, mi, i, bs, hl, h => by simp at hl
 | t :: l, p :: ps, f, mi, i, bs, hl, h => by
   obtain ⟨_, cs, h2, rfl⟩ := Qz1 h
   have := Qvp l ps _ _ _ cs (by simpa using hl) h2
   simp [this]
theorem Q2t {m : Qd} {l : List Qa} {p : At2} {xs : List Int} {v : Int} (h : chE m l p xs = (v, 0)) : ∃ qs, chL m p.e0 l xs = some qs := by
 unfold chE at h
 split at h
 ·cases hq : chL m p.e0 l xs with
  | none => rw [hq] at h; injection h with h1 h2; cases h2
  | some qs => exact ⟨qs, rfl⟩
 ·injection h with h1 h2; cases h2
theorem Qvq (k : Nat) (x : Qad) (mi : Int) (hx : x.Targets.length <= 9223372036854775807) (hk : k = x.Targets.length + 1000) : J7 k x mi = some true := by
 unfold J7
 rw [show Qvr k = some true from rfl, Option.bind_some, if_pos rfl, short_any _ x (by omega) hx, Option.bind_some]
 cases h : Qoz x with
 | false => rfl
 | true =>
   obtain ⟨a, b, c⟩ := Qqn h
   rw [if_pos rfl]
   by_cases c1 : 5 < (x.Targets.length : Int)
   ·rw [if_pos c1]
   have hct : Qa5 k x.Mount x.Targets x.At = some (trE x.Mount x.Targets x.At) := by
    unfold Qa5
    rw [Qi0 k (by omega) (by omega) x.Mount (by omega) (by omega), Option.bind_some]
   rw [if_neg c1, hct, Option.bind_some]
   rcases Qt4 k (by omega) (by omega) x.Mount (by omega) (by omega) x.Targets x.At with ⟨h1, h2⟩ | ⟨hT, h1, ys, h2, h3, h4⟩
   ·rw [if_neg h1]
   ·obtain ⟨qs, hq⟩ := Q2t h4
    obtain ⟨q3, q4⟩ := Qm7 hT.mnt hq
    have htme : Qcb k x.Mount x.Targets ⟨x.At.e0, x.At.e1, mi⟩ ys = some (tmE x.Mount x.Targets x.At mi ys) := by
     refine (Qu3 k (by omega) (by omega) x.Mount (by omega) (by omega) x.Targets x.At mi ys (by omega)).trans ?_
     show some (if (trE x.Mount x.Targets x.At).2 = 0 then _ else _) = _
     rw [if_pos h1]
    rw [if_pos h1, h2, Option.bind_some, if_pos rfl, if_pos (by show (ys.length : Int) = _; omega), Qyj k ys (by omega), Option.bind_some, htme, Option.bind_some]
    have hq0 : chL x.Mount x.At.e0 (x.Targets.drop 0) (ys.drop 0) = some qs := by rw [List.drop_zero, List.drop_zero]; exact hq
    have htm : tmE x.Mount x.Targets x.At mi ys = (if inR 0 10000000 mi = true then tmR (tmL x.Mount.Speed x.At.e1 mi x.Targets qs 0) else ([], 0, 2)) := by
     unfold tmE
     rw [if_pos h1, h4, if_pos rfl, hq]; rfl
    cases cm : inR 0 10000000 mi with
    | false =>
      have htm2 : tmE x.Mount x.Targets x.At mi ys = ([], 0, 2) := by rw [htm, cm]; rfl
      rw [htm2, if_neg (by show ¬ ((2 : Int) = 0); decide), if_neg (by show ¬ ((2 : Int) = 18); decide), if_pos rfl, show Q8 k x (⟨ys, pots x.Mount x.Targets x.At⟩, bd (pots x.Mount x.Targets x.At), 0) ([], 0, 2) k x.At.e1 mi 0 = _ from Q2r k (by omega) (by omega) x _ _ a b (by omega) h1 h3 (by show (2 : Int) ≠ 0; decide) x.Targets.length k 0 x.At.e1 mi qs (by omega) (by omega) (Qet hT) hq0]
      rfl
    | true =>
      have hmi := Qfe.1 cm
      have htm2 : tmE x.Mount x.Targets x.At mi ys = tmR (tmL x.Mount.Speed x.At.e1 mi x.Targets qs 0) := by rw [htm, cm]; rfl
      cases hl : tmL x.Mount.Speed x.At.e1 mi x.Targets qs 0 with
      | inl e =>
        rw [htm2, hl, show tmR (.inl e) = ([], e, 18) from rfl, if_neg (by show ¬ ((18 : Int) = 0); decide), if_pos rfl, show Q8 k x (⟨ys, pots x.Mount x.Targets x.At⟩, bd (pots x.Mount x.Targets x.At), 0) ([], e, 18) k x.At.e1 mi 0 = _ from Q2q k (by omega) (by omega) x _ _ a b (by omega) h1 h3 (by show (18 : Int) ≠ 0; decide) x.Targets.length k 0 x.At.e1 mi qs (by omega) (by omega) (Qet hT) hq0]
        rfl
      | inr bs =>
        have hbl := Qvp x.Targets qs _ _ _ bs q4 hl
        rw [htm2, hl, show tmR (.inr bs) = (bs, 0, 0) from rfl, if_pos rfl, if_pos (by show (bs.length : Int) = _; omega), show Q8 k x (⟨ys, pots x.Mount x.Targets x.At⟩, bd (pots x.Mount x.Targets x.At), 0) (bs, 0, 0) k x.At.e1 mi 0 = _ from Q2s k (by omega) (by omega) x _ _ a b (by omega) h1 h3 rfl hbl x.Targets.length k 0 x.At.e1 mi qs (by omega) (by omega) (Qet hT) hmi.1 hmi.2 hq0 (by rw [List.drop_zero]; exact hl)]
        rfl
theorem Qyk (x : Qad) (mi : Int) (hx : x.Targets.length <= 9223372036854775807) : VC Try.prog 4 [VV.ag (Qdo x), vi mi] (vb true) := Qd6 _ _ _ _ (Qvq _ x mi hx rfl)
end Go.Proofs.Ytbgajdbpdhipiaa.Vg
end

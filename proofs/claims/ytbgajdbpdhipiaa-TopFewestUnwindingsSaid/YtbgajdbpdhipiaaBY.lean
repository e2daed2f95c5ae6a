import Derived.Test.YtbgajdbpdhipiaaB1
import Derived.Test.YtbgajdbpdhipiaaB2
import Derived.Test.YtbgajdbpdhipiaaB4
import Derived.Test.YtbgajdbpdhipiaaB6
import Derived.Test.YtbgajdbpdhipiaaBC
import Derived.Test.YtbgajdbpdhipiaaBF
section
set_option linter.unusedVariables false
set_option linter.unusedSimpArgs false
namespace Go.Proofs.Ytbgajdbpdhipiaa.Vg
open Go Go.Proofs.Ytbgajdbpdhipiaa.Ev Go.Proofs.Ytbgajdbpdhipiaa.Vv
theorem Jd {n : Int} (h1 : -9223372036854775808 <= n) (h2 : n <= 9223372036854775807) : w64 n = n := by
 unfold w64 IntKind.wrap
 simp [IntKind.signed, IntKind.bits]
 omega
theorem Yl {i : Nat} (h : i < 1000000000000) : w64 ((i : Int) + 1) = ((i + 1 : Nat) : Int) := by
 rw [Jd (by omega) (by omega)]; omega
theorem Je {α : Type} {y : List α} {i : Nat} (h : i < y.length) (d : α) : y.drop i = y.getD i d :: y.drop (i + 1) := by
 rw [List.drop_eq_getElem_cons h, List.getD_eq_getElem?_getD, List.getElem?_eq_getElem h]; rfl
def sumB (b : Bool) : Sum Unit Unit := match b with | true => .inr () | false => .inl ()
def sumE (e : Int) : Sum Int Unit := if e = 0 then .inr () else .inl e
def inR (a b n : Int) : Bool := decide (a <= n /\ n <= b)
theorem Qhq {a b n : Int} : inR a b n = true ↔ a <= n /\ n <= b := by unfold inR; exact decide_eq_true_iff
theorem Qu5 {a b n : Int} : inR a b n = false ↔ ¬(a <= n /\ n <= b) := by unfold inR; exact decide_eq_false_iff_not
theorem Qqv (k : Nat) (a b : Int) (xs : List Int) (hl : xs.length < 1000000000000) : ∀ (d fuel i : Nat), xs.length = i + d -> d < fuel ->
 Z9 k a b xs fuel (i : Int) = some (sumB ((xs.drop i).all (inR a b))) := by
 intro d
 induction d with
 | zero =>
   intro fuel i h hf
   obtain ⟨g, rfl⟩ : ∃ g, fuel = g + 1 := ⟨fuel - 1, by omega⟩
   rw [Z9.eq_2, if_neg (by omega), List.drop_eq_nil_of_le (by omega)]; rfl
 | succ d ih =>
   intro fuel i h hf
   obtain ⟨g, rfl⟩ : ∃ g, fuel = g + 1 := ⟨fuel - 1, by omega⟩
   rw [Z9.eq_2, if_pos (by omega), if_pos (by omega), Yl (by omega), ih g (i + 1) (by omega) (by omega), Je (y := xs) (i := i) (by omega) 0]
   simp only [Int.toNat_natCast, List.all_cons]
   by_cases h1 : xs.getD i 0 < a
   ·rw [if_pos h1, show inR a b (xs.getD i 0) = false from Qu5.2 (by omega)]; rfl
   ·rw [if_neg h1]
    by_cases h2 : b < xs.getD i 0
    ·rw [if_pos h2, show inR a b (xs.getD i 0) = false from Qu5.2 (by omega)]; rfl
    ·rw [if_neg h2, show inR a b (xs.getD i 0) = true from Qhq.2 (by omega)]; rfl
theorem Qfq (k : Nat) (a b : Int) (xs : List Int) (hl : xs.length < k) (hk : xs.length < 1000000000000) : Zc k a b xs = some (xs.all (inR a b)) := by
 unfold Zc
 rw [show Z9 k a b xs k 0 = _ from Qqv k a b xs (by omega) xs.length k 0 (by omega) hl]
 simp only [List.drop_zero]
 cases xs.all (inR a b) <;> rfl
theorem Qao (k : Nat) (a b x : Int) (hk : 100 < k) (hk2 : k <= 100000000000000000000) : Zc k a b [x] = some (inR a b x) := by
 rw [Qfq k a b [x] (by simp; omega) (by simp)]; simp
theorem Qkb (k : Nat) (a b x y : Int) (hk : 100 < k) (hk2 : k <= 100000000000000000000) : Zc k a b [x, y] = some (inR a b x && inR a b y) := by
 rw [Qfq k a b [x, y] (by simp; omega) (by simp)]; simp
theorem Qi8 (k : Nat) (b : Int) (xs : List Int) (hb : 0 <= b /\ b <= 1000000000000) (hl : xs.length < k) (hk : xs.length < 1000000000000) : Jv k b xs = some (xs.all (inR (-b) b)) := by
 unfold Jv
 rw [Jd (by omega) (by omega), Qfq k _ _ _ hl hk, Option.bind_some, show (0 : Int) - b = -b by omega]
theorem Qlx (k : Nat) (b x y : Int) (hb : 0 <= b /\ b <= 1000000000000) (hk : 100 < k) (hk2 : k <= 100000000000000000000) : Jv k b [x, y] = some (inR (-b) b x && inR (-b) b y) := by
 rw [Qi8 k b [x, y] hb (by simp; omega) (by simp)]; simp
theorem Qt4 {n d : Int} (hd : 0 < d) : (if n.tmod d < 0 then n.tdiv d - 1 else n.tdiv d) = n / d := by
 have h := Int.mul_tdiv_add_tmod n d
 have h1 : n.tmod d < d := Int.tmod_lt_of_pos n hd
 have h2 : -d < n.tmod d := by
  have := Int.lt_tmod_of_pos n hd
  omega
 split
 ·rename_i hn
  symm
  rw [Int.ediv_eq_iff_of_pos hd]
  constructor <;> (rw [Int.sub_mul, Int.mul_comm] ; omega)
 ·symm
  rw [Int.ediv_eq_iff_of_pos hd]
  constructor <;> (rw [Int.mul_comm]; omega)
theorem Qjo (k : Nat) {n d : Int} (hn : -1000000000000000000 <= n /\ n <= 1000000000000000000) (hd : 0 < d) : Qa8 k n d = some (n / d) := by
 unfold Qa8
 have hq : -1000000000000000000 <= n.tdiv d /\ n.tdiv d <= 1000000000000000000 := by
  have := Int.natAbs_tdiv_le_natAbs n d
  omega
 rw [if_pos (by omega), Jd (n := n.tdiv d) (by omega) (by omega), Jd (n := n.tdiv d - 1) (by omega) (by omega), <- Qt4 hd]
 split <;> rfl
theorem Qox (k : Nat) {n d : Int} (hn : -1000000000000000000 <= n /\ n <= 1000000000000000000) (hd : 0 < d) : Y2 k n d = some (n / d) := by
 rw [<- Qjo k hn hd]; rfl
def Qt5 (r : Q7) : Bool := inR (-1000000) 1000000 r.At && inR (-1000000) 1000000 r.Value
def late (p : Option Int) (n : Int) : Bool := match p with
 | some m => decide (n <= m)
 | none => false
def chk : Option Int -> List Q7 -> Int
 | _, [] => 0
 | p, r :: l => match Qt5 r with
   | true => match late p r.At with
     | true => 9
     | false => chk (some r.At) l
   | false => 2
def tabE (l : List Q7) : Int := match inR 1 40 l.length with
 | true => chk none l
 | false => 10
def bef (l : List Q7) (i : Nat) : Option Int := if i = 0 then none else some (l.getD (i - 1) default).At
theorem Qyd (l : List Q7) (i : Nat) : bef l (i + 1) = some (l.getD i default).At := by
 unfold bef; rw [if_neg (by omega)]; rfl
theorem Qye (l : List Q7) (i : Nat) (n : Int) : late (bef l i) n = (decide (0 < i) && decide (n <= (l.getD (i - 1) default).At)) := by
 unfold bef
 by_cases h : i = 0
 ·subst h; rfl
 ·rw [if_neg h]
  show decide _ = _
  simp [show 0 < i by omega]
theorem Q0g (k : Nat) (hk : 100 < k) (hk2 : k <= 100000000000000000000) (l : List Q7) (hl : l.length < 1000000000) : ∀ (d fuel i : Nat), l.length = i + d -> d < fuel ->
 Zm k l fuel (i : Int) = some (sumE (chk (bef l i) (l.drop i))) := by
 intro d
 induction d with
 | zero =>
   intro fuel i h hf
   obtain ⟨g, rfl⟩ : ∃ g, fuel = g + 1 := ⟨fuel - 1, by omega⟩
   rw [Zm.eq_2, if_neg (by omega), List.drop_eq_nil_of_le (by omega)]; rfl
 | succ d ih =>
   intro fuel i h hf
   obtain ⟨g, rfl⟩ : ∃ g, fuel = g + 1 := ⟨fuel - 1, by omega⟩
   rw [Zm.eq_2, if_pos (by omega), if_pos (by omega), Qlx k _ _ _ (by decide) hk hk2, Option.bind_some, Yl (by omega), ih g (i + 1) (by omega) (by omega), Je (y := l) (i := i) (by omega) default, Qyd]
   simp only [Int.toNat_natCast, chk, Qye]
   rw [show (inR (-1000000) 1000000 (l.getD i default).At && inR (-1000000) 1000000 (l.getD i default).Value) = Qt5 (l.getD i default) from rfl]
   cases Qt5 (l.getD i default) with
   | false => rfl
   | true =>
     rw [if_pos rfl]
     by_cases h0 : 0 < i
     ·rw [if_pos (by omega), Jd (by omega) (by omega), if_pos (by omega), show ((i : Int) - 1).toNat = i - 1 by omega]
      by_cases h1 : (l.getD i default).At <= (l.getD (i - 1) default).At
      ·rw [if_pos h1, decide_eq_true h0, decide_eq_true h1]; rfl
      ·rw [if_neg h1, decide_eq_true h0, decide_eq_false h1]; rfl
     ·rw [if_neg (by omega), decide_eq_false h0]; rfl
theorem Qkc (k : Nat) (hk : 100 < k) (hk2 : k <= 100000000000000000000) (l : List Q7) (hl : l.length < k) : Yr k l = some (tabE l) := by
 unfold Yr tabE
 rw [Qao k _ _ _ hk hk2, Option.bind_some]
 cases hin : inR 1 40 (l.length : Int) with
 | false => rfl
 | true =>
   have hin := Qhq.1 hin
   rw [if_pos rfl, show Zm k l k 0 = _ from Q0g k hk hk2 l (by omega) l.length k 0 (by omega) hl, Option.bind_some]
   show (match sumE (chk none l) with | .inl r => some r | .inr _ => some 0) = some (chk none l)
   unfold sumE
   by_cases h : chk none l = 0
   ·rw [if_pos h, h]
   ·rw [if_neg h]
structure Tab (l : List Q7) : Prop where
 pos : 0 < l.length
 le : l.length <= 40
 row : ∀ i, i < l.length -> -1000000 <= (l.getD i default).At /\ (l.getD i default).At <= 1000000 /\ -1000000 <= (l.getD i default).Value /\ (l.getD i default).Value <= 1000000
 inc : ∀ i, i + 1 < l.length -> (l.getD i default).At < (l.getD (i + 1) default).At
theorem Qr9 : ∀ (l : List Q7) (p : Option Int), chk p l = 0 -> (∀ i, i < l.length -> Qt5 (l.getD i default) = true) /\ (∀ i, i + 1 < l.length -> (l.getD i default).At < (l.getD (i + 1) default).At) /\ (0 < l.length -> late p (l.getD 0 default).At = false)
 | [], p, h => ⟨fun i hi => by simp at hi, fun i hi => by simp at hi, fun hi => by simp at hi⟩
 | r :: l, p, h => by
   simp only [chk] at h
   cases h1 : Qt5 r with
   | false => rw [h1] at h; cases h
   | true =>
     rw [h1] at h
     cases h2 : late p r.At with
     | true => rw [h2] at h; cases h
     | false =>
       rw [h2] at h
       obtain ⟨g1, g2, g3⟩ := Qr9 l (some r.At) h
       refine ⟨fun i hi => ?_, fun i hi => ?_, fun _ => h2⟩
       ·cases i with
        | zero => exact h1
        | succ i => exact g1 i (by simpa using hi)
       ·cases i with
        | zero =>
          have := g3 (by simp at hi; omega)
          simp only [late, decide_eq_false_iff_not] at this
          show r.At < (l.getD 0 default).At
          omega
        | succ i => exact g2 i (by simp at hi; omega)
theorem Tab.of {l : List Q7} (h : tabE l = 0) : Tab l := by
 unfold tabE at h
 cases h1 : inR 1 40 (l.length : Int) with
 | false => rw [h1] at h; cases h
 | true =>
   rw [h1] at h
   have h1 := Qhq.1 h1
   obtain ⟨g1, g2, _⟩ := Qr9 l none h
   refine ⟨by omega, by omega, fun i hi => ?_, g2⟩
   have := g1 i hi
   simp only [Qt5, Bool.and_eq_true, Qhq] at this
   omega
def mid (a b : Q7) (t : Int) : Int := a.Value + ((b.Value - a.Value) * (t - a.At)) / (b.At - a.At)
def vrec (a : Q7) (t : Int) : List Q7 -> Int
 | [] => a.Value
 | b :: l => if t < b.At then mid a b t else vrec b t l
def val (l : List Q7) (t : Int) : Int := if t < (l.getD 0 default).At then (l.getD 0 default).Value else vrec (l.getD 0 default) t (l.drop 1)
theorem Q0h {x y A B : Int} (h1 : -A <= x /\ x <= A) (h2 : -B <= y /\ y <= B) (hA : 0 <= A) (hB : 0 <= B) : -(A * B) <= x * y /\ x * y <= A * B := by
 have h : (x * y).natAbs <= (A * B).natAbs := by
  rw [Int.natAbs_mul, Int.natAbs_mul]
  exact Nat.mul_le_mul (by omega) (by omega)
 have := Int.mul_nonneg hA hB
 omega
theorem Q14 {p d A : Int} (hp : -A <= p /\ p <= A) (hd : 0 < d) : -A <= p / d /\ p / d <= A := by
 have e := Int.mul_ediv_add_emod p d
 have e1 := Int.emod_nonneg p (show d ≠ 0 by omega)
 have e2 := Int.emod_lt_of_pos p hd
 generalize p / d = q at e
 constructor
 ·rcases Int.lt_or_le q (-A) with hc | hc
  ·have h1 : d * q <= d * (-A - 1) := Int.mul_le_mul_of_nonneg_left (by omega) (by omega)
   have h2 : d * (-A - 1) = d * (-A) - d := by rw [Int.mul_sub, Int.mul_one]
   have h3 : d * (-A) <= 1 * (-A) := Int.mul_le_mul_of_nonpos_right (by omega) (by omega)
   omega
  ·exact hc
 ·rcases Int.lt_or_le A q with hc | hc
  ·have : 1 * q <= d * q := Int.mul_le_mul_of_nonneg_right (by omega) (by omega)
   omega
  ·exact hc
theorem Q0i (k : Nat) {a b : Q7} {t : Int} (ha : -1000000 <= a.At /\ a.At <= 1000000 /\ -1000000 <= a.Value /\ a.Value <= 1000000) (hb : -1000000 <= b.At /\ b.At <= 1000000 /\ -1000000 <= b.Value /\ b.Value <= 1000000) (hab : a.At < b.At) (ht : -1000000 <= t /\ t <= 1000000) :
 Qa8 k (w64 ((w64 (b.Value - a.Value)) * (w64 (t - a.At)))) (w64 (b.At - a.At)) = some (((b.Value - a.Value) * (t - a.At)) / (b.At - a.At)) /\ w64 (a.Value + ((b.Value - a.Value) * (t - a.At)) / (b.At - a.At)) = mid a b t := by
 have hp := Q0h (x := b.Value - a.Value) (y := t - a.At) (A := 2000000) (B := 2000000) (by omega) (by omega) (by decide) (by decide)
 have hq := Q14 (d := b.At - a.At) hp (by omega)
 rw [Jd (n := b.Value - a.Value) (by omega) (by omega), Jd (n := t - a.At) (by omega) (by omega), Jd (n := b.At - a.At) (by omega) (by omega)]
 exact ⟨by rw [Jd (by omega) (by omega), Qjo k (by omega) (by omega)], Jd (by omega) (by omega)⟩
def fst (t : Int) : Nat -> List Q7 -> Option Nat
 | _, [] => none
 | i, r :: l => if t < r.At then some i else fst t (i + 1) l
theorem Q0j (k : Nat) (l : List Q7) (t : Int) (hl : l.length < 1000000000) : ∀ (d fuel i : Nat), l.length = i + d -> d < fuel ->
 Qe k l t fuel (i : Int) = some (match fst t i (l.drop i) with | some j => .inl (j : Int) | none => .inr ()) := by
 intro d
 induction d with
 | zero =>
   intro fuel i h hf
   obtain ⟨g, rfl⟩ : ∃ g, fuel = g + 1 := ⟨fuel - 1, by omega⟩
   rw [Qe.eq_2, if_neg (by omega), List.drop_eq_nil_of_le (by omega)]; rfl
 | succ d ih =>
   intro fuel i h hf
   obtain ⟨g, rfl⟩ : ∃ g, fuel = g + 1 := ⟨fuel - 1, by omega⟩
   rw [Qe.eq_2, if_pos (by omega), if_pos (by omega), Yl (by omega), ih g (i + 1) (by omega) (by omega), Je (y := l) (i := i) (by omega) default]
   simp only [Int.toNat_natCast, fst]
   show ((some (decide (t < (l.getD i default).At))).bind _) = _
   rw [Option.bind_some]
   by_cases h1 : t < (l.getD i default).At
   ·rw [if_pos (by simpa using h1), if_pos h1]
   ·rw [if_neg (by simpa using h1), if_neg h1]
def idxv : Option Nat -> Int
 | some j => (j : Int)
 | none => -1
theorem Qvw (j : Nat) : idxv (some j) = (j : Int) := rfl
theorem Qvx : idxv none = -1 := rfl
theorem Qvy (k : Nat) (l : List Q7) (t : Int) (hl : l.length < 1000000000) (hk : l.length < k) : Qn k l t = some (idxv (fst t 0 l)) := by
 unfold Qn
 rw [show Qe k l t k 0 = _ from Q0j k l t hl l.length k 0 (by omega) hk, Option.bind_some, List.drop_zero]
 cases fst t 0 l <;> rfl
theorem Qsa : ∀ (t : Int) (l : List Q7) (i j : Nat), fst t i l = some j -> i <= j /\ j - i < l.length /\ t < (l.getD (j - i) default).At /\ ∀ m, m < j - i -> (l.getD m default).At <= t
 | t, [], i, j, h => by cases h
 | t, r :: l, i, j, h => by
   simp only [fst] at h
   split at h
   ·injection h with h; subst h
    refine ⟨Nat.le_refl _, by simp, by simpa using ‹t < r.At›, fun m hm => by omega⟩
   ·rename_i hn
    obtain ⟨g1, g2, g3, g4⟩ := Qsa t l (i + 1) j h
    refine ⟨by omega, by simp only [List.length_cons]; omega, ?_, fun m hm => ?_⟩
    ·rw [show j - i = (j - (i + 1)) + 1 by omega]; exact g3
    ·cases m with
     | zero => show r.At <= t; omega
     | succ m => exact g4 m (by omega)
theorem Qsb : ∀ (t : Int) (l : List Q7) (i : Nat), fst t i l = none -> ∀ m, m < l.length -> (l.getD m default).At <= t
 | t, [], i, h, m, hm => by simp at hm
 | t, r :: l, i, h, m, hm => by
   simp only [fst] at h
   split at h
   ·cases h
   ·cases m with
    | zero => show r.At <= t; omega
    | succ m => exact Qsb t l (i + 1) h m (by simpa using hm)
theorem Qvz : ∀ (l : List Q7) (a : Q7) (t : Int) (j : Nat), j < l.length -> t < (l.getD j default).At -> (∀ m, m < j -> (l.getD m default).At <= t) -> vrec a t l = mid ((a :: l).getD j default) (l.getD j default) t
 | [], a, t, j, h, _, _ => by simp at h
 | b :: l, a, t, j, h, h1, h2 => by
   cases j with
   | zero =>
     have h1 : t < b.At := h1
     simp only [vrec]; rw [if_pos h1]; rfl
   | succ j =>
     have := h2 0 (by omega)
     have : b.At <= t := this
     simp only [vrec]
     rw [if_neg (by omega), Qvz l b t j (by simpa using h) h1 (fun m hm => h2 (m + 1) (by omega))]
     rfl
theorem Qsc : ∀ (l : List Q7) (a : Q7) (t : Int), (∀ m, m < l.length -> (l.getD m default).At <= t) -> vrec a t l = ((a :: l).getD l.length default).Value
 | [], a, t, _ => rfl
 | b :: l, a, t, h => by
   have : b.At <= t := h 0 (by simp)
   simp only [vrec]
   rw [if_neg (by omega), Qsc l b t (fun m hm => h (m + 1) (by simpa using hm))]
   rfl
theorem Qh9 {l : List Q7} {i : Nat} : (l.drop 1).getD i default = l.getD (i + 1) default := by
 rw [List.getD_eq_getElem?_getD, List.getD_eq_getElem?_getD, List.getElem?_drop, Nat.add_comm]
theorem head_tail {l : List Q7} (h : 0 < l.length) : l.getD 0 default :: l.drop 1 = l := by
 cases l with
 | nil => simp at h
 | cons a l => rfl
theorem Qkd (k : Nat) (hk : 100 < k) {l : List Q7} (h : Tab l) {t : Int} (ht : -1000000 <= t /\ t <= 1000000) : Qaz k l t = some (val l t) := by
 unfold Qaz val
 have hle := h.le
 have hpos := h.pos
 rw [Qvy k l t (by omega) (by omega), Option.bind_some]
 cases hf : fst t 0 l with
 | none =>
   have hn := Qsb t l 0 hf
   have h0 := hn 0 hpos
   rw [Qvx, if_pos rfl, Jd (by omega) (by omega), if_pos (by omega), if_neg (by omega), Qsc _ _ _ (fun m hm => by rw [Qh9]; exact hn (m + 1) (by simp at hm; omega)), head_tail hpos, List.length_drop, show ((l.length : Int) - 1).toNat = l.length - 1 by omega]
 | some j =>
   obtain ⟨_, g2, g3, g4⟩ := Qsa t l 0 j hf
   rw [Nat.sub_zero] at g2 g3 g4
   rw [Qvw, if_neg (show ¬(j : Int) = -1 by omega)]
   cases j with
   | zero =>
     rw [if_pos (show ((0 : Nat) : Int) = 0 from rfl), if_pos (by omega), if_pos g3]; rfl
   | succ j =>
     have h0 := g4 0 (by omega)
     have e1 : ((j + 1 : Nat) : Int) = (j : Int) + 1 := by omega
     rw [e1, if_neg (show ¬(j : Int) + 1 = 0 by omega), Jd (n := (j : Int) + 1 - 1) (by omega) (by omega), if_pos (show 0 <= (j : Int) + 1 - 1 /\ (j : Int) + 1 - 1 < (l.length : Int) by omega), if_pos (show 0 <= (j : Int) + 1 /\ (j : Int) + 1 < (l.length : Int) by omega), show ((j : Int) + 1 - 1).toNat = j by omega, show ((j : Int) + 1).toNat = j + 1 by omega]
     obtain ⟨m1, m2⟩ := Q0i k (h.row j (by omega)) (h.row (j + 1) g2) (h.inc j g2) ht
     rw [m1, Option.bind_some, m2, if_neg (show ¬t < (l.getD 0 default).At by omega), Qvz _ _ _ j (by simp; omega) (by rw [Qh9]; exact g3) (fun m hm => by rw [Qh9]; exact g4 (m + 1) (by omega)), head_tail hpos, Qh9]
def Qtp (l : List Q7) : Bool := decide (l.length <= 6 \/ 40 < l.length /\ l.length <= 43)
theorem Qrr (k : Nat) (l : List Q7) : Jr k l = some (Qtp l) := by
 unfold Jr Qtp
 by_cases h : (l.length : Int) <= 6
 ·rw [if_pos h, decide_eq_true (by omega)]
 ·rw [if_neg h]
  by_cases h2 : 40 < (l.length : Int)
  ·rw [if_pos h2]; congr 1; rw [decide_eq_decide]; omega
  ·rw [if_neg h2, decide_eq_false (by omega)]
theorem Q0k {v t d : Int} (ht : 0 <= t) (htd : t <= d) (hd : 0 < d) : (0 <= v -> 0 <= v * t / d /\ v * t / d <= v) /\ (v <= 0 -> v <= v * t / d /\ v * t / d <= 0) := by
 constructor
 ·intro hv
  refine ⟨Int.ediv_nonneg (Int.mul_nonneg hv ht) (by omega), ?_⟩
  have h1 : v * t <= v * d := Int.mul_le_mul_of_nonneg_left htd hv
  have := Int.ediv_le_ediv hd h1
  rwa [Int.mul_ediv_cancel _ (by omega)] at this
 ·intro hv
  constructor
  ·have h1 : v * d <= v * t := Int.mul_le_mul_of_nonpos_left hv htd
   have := Int.ediv_le_ediv hd h1
   rwa [Int.mul_ediv_cancel _ (by omega)] at this
  ·have h1 : v * t <= 0 := Int.mul_nonpos_of_nonpos_of_nonneg hv ht
   have := Int.ediv_le_ediv hd h1
   simpa using this
theorem Qv0 (L H : Int) (t : Int) : ∀ (l : List Q7) (a : Q7), a.At <= t -> (∀ r ∈ a :: l, L <= r.Value /\ r.Value <= H) -> L <= vrec a t l /\ vrec a t l <= H
 | [], a, _, h => h a (by simp)
 | b :: l, a, ha, h => by
   simp only [vrec]
   by_cases c : t < b.At
   ·rw [if_pos c]
    have h1 := h a (by simp)
    have h2 := h b (by simp)
    obtain ⟨p1, p2⟩ := Q0k (v := b.Value - a.Value) (t := t - a.At) (d := b.At - a.At) (by omega) (by omega) (by omega)
    unfold mid
    rcases Int.le_total 0 (b.Value - a.Value) with e | e
    ·have := p1 e; omega
    ·have := p2 e; omega
   ·rw [if_neg c]
    exact Qv0 L H t l b (by omega) (fun r hr => h r (List.mem_cons_of_mem _ hr))
theorem Qzd {l : List Q7} (h : Tab l) (t : Int) : -1000000 <= val l t /\ val l t <= 1000000 := by
 have hpos := h.pos
 unfold val
 by_cases c : t < (l.getD 0 default).At
 ·rw [if_pos c]
  have := h.row 0 hpos; omega
 ·rw [if_neg c]
  refine Qv0 _ _ t (l.drop 1) _ (by omega) (fun r hr => ?_)
  rw [head_tail hpos] at hr
  obtain ⟨i, hi, rfl⟩ := List.mem_iff_getElem.1 hr
  have := h.row i hi
  rw [List.getD_eq_getElem?_getD, List.getElem?_eq_getElem hi] at this
  exact this.2.2
end Go.Proofs.Ytbgajdbpdhipiaa.Vg
end

section
set_option linter.unusedVariables false
set_option linter.unusedSimpArgs false
namespace Go.Proofs.Ytbgajdbpdhipiaa.Vg
open Go Go.Proofs.Ytbgajdbpdhipiaa.Ev Go.Proofs.Ytbgajdbpdhipiaa.Vv
def letB (n : Int) : Bool := decide (97 <= n /\ n <= 122) || decide (65 <= n /\ n <= 90)
def namB (n : Int) : Bool := letB n || decide (48 <= n /\ n <= 57) || decide (n = 45)
theorem Qi0 (k : Nat) (n : Int) : Qaf k n = some (letB n) := by
 unfold Qaf letB
 by_cases h1 : 97 <= n <;> by_cases h2 : n <= 122 <;> by_cases h3 : 65 <= n <;> simp [h1, h2, h3]
theorem Qm2 (k : Nat) (n : Int) : Qav k n = some (!namB n) := by
 unfold Qav namB
 rw [Qi0, Option.bind_some]
 cases letB n
 ·by_cases h1 : 48 <= n <;> by_cases h2 : n <= 57 <;> simp [h1, h2]
 ·rfl
def bt8 (s : ByteArray) (i : Nat) : Int := bat s (i : Int)
theorem Qm3 {s : ByteArray} {i : Nat} (h : i < s.size) : bt8 s i = ((s.get! i).toNat : Int) := by
 unfold bt8 bat
 rw [show ((i : Int)).toNat = i from rfl, getElem?_pos s i h]
 dsimp only
 rw [show s.get! i = s[i] from by cases s; exact getElem!_pos _ i h]
theorem Qtl {s : ByteArray} {i : Nat} (h : i < s.size) (hb : bt8 s i < 128) : Go.Utf8.decode s i = ((bt8 s i).toNat, 1) := by
 rw [Qm3 h] at hb ⊢
 unfold Go.Utf8.decode
 dsimp only
 rw [if_pos (by rw [Nat.add_zero]; omega)]
 simp
theorem decode_high {s : ByteArray} {i : Nat} (h : i < s.size) (hb : 128 <= bt8 s i) : 128 <= (Go.Utf8.decode s i).1 := by
 rw [Qm3 h] at hb
 have he : 128 <= Go.Utf8.runeError := by decide
 unfold Go.Utf8.decode
 dsimp only
 rw [if_neg (by rw [Nat.add_zero]; omega)]
 split
 ·split
  ·dsimp only; omega
  ·exact he
 ·split
  ·split
   ·rename_i hh; simp only [Bool.and_eq_true, decide_eq_true_eq] at hh; dsimp only; omega
   ·exact he
  ·split
   ·split
    ·rename_i hh; simp only [Bool.and_eq_true, decide_eq_true_eq] at hh; dsimp only; omega
    ·exact he
   ·exact he
theorem Qro {n : Int} (h : 128 <= n) : namB n = false := by
 unfold namB letB
 simp
 omega
def allN (s : ByteArray) : Nat -> Nat -> Bool
 | 0, _ => true
 | d + 1, i => namB (bt8 s i) && allN s d (i + 1)
theorem Qtm (k : Nat) (s : ByteArray) : ∀ (d fuel i : Nat), s.size = i + d -> d < fuel ->
 ∃ j : Nat, Qi k s true fuel (i : Int) = some (match allN s d i with | true => .inr () | false => .inl (j : Int)) := by
 intro d
 induction d with
 | zero =>
   intro fuel i h hf
   obtain ⟨g, rfl⟩ : ∃ g, fuel = g + 1 := ⟨fuel - 1, by omega⟩
   rw [Qi.eq_2, if_neg (by omega)]
   exact ⟨0, rfl⟩
 | succ d ih =>
   intro fuel i h hf
   obtain ⟨g, rfl⟩ : ∃ g, fuel = g + 1 := ⟨fuel - 1, by omega⟩
   obtain ⟨j, hj⟩ := ih g (i + 1) (by omega) (by omega)
   rw [Qi.eq_2, if_pos (by omega), if_pos (by omega), Qm2, Option.bind_some]
   rw [show ((i : Int)).toNat = i from rfl]
   unfold allN
   by_cases hb : bt8 s i < 128
   ·rw [Qtl (by omega) hb]
    have h0 : 0 <= bt8 s i := by rw [Qm3 (by omega)]; omega
    dsimp only
    rw [show (((bt8 s i).toNat : Nat) : Int) = bt8 s i by omega]
    cases hn : namB (bt8 s i) with
    | true =>
      rw [if_neg (by decide), show (i : Int) + ((1 : Nat) : Int) = ((i + 1 : Nat) : Int) by omega, hj]
      exact ⟨j, rfl⟩
    | false => exact ⟨i, by rw [if_pos (by decide)]; rfl⟩
   ·have := decode_high (s := s) (i := i) (by omega) (by omega)
    rw [Qro (n := ((Go.Utf8.decode s i).1 : Int)) (by omega), Qro (n := bt8 s i) (by omega)]
    exact ⟨i, by rw [if_pos (by decide)]; rfl⟩
def nameB (s : ByteArray) : Bool := match inR 1 12 (s.size : Int) with
 | true => letB (bt8 s 0) && allN s s.size 0
 | false => false
theorem Qtn (k : Nat) (hk : 100 < k) (hk2 : k <= 100000000000000000000) (s : ByteArray) : Qb5 k s = some (nameB s) := by
 unfold Qb5 nameB
 rw [Qao k _ _ _ (by omega) hk2, Option.bind_some]
 cases h : inR 1 12 (s.size : Int) with
 | false => rfl
 | true =>
   have h := Qhq.1 h
   have h0 : bt8 s 0 = ((s.get! 0).toNat : Int) := Qm3 (by omega)
   have hlt : (s.get! 0).toNat < 256 := (s.get! 0).toNat_lt
   rw [if_pos rfl, if_pos (by omega), Qi0, Option.bind_some]
   rw [show IntKind.i32.wrap (bat s 0) = bt8 s 0 by
    show IntKind.i32.wrap (bt8 s 0) = bt8 s 0
    rw [h0]
    unfold IntKind.wrap
    simp [IntKind.signed, IntKind.bits]
    omega]
   cases letB (bt8 s 0) with
   | false => rfl
   | true =>
     rw [if_pos rfl]
     unfold Zz Xc Xd
     obtain ⟨j, hj⟩ := Qtm k s s.size k 0 (by omega) (by omega)
     rw [show Qi k s true k 0 = _ from hj]
     cases allN s s.size 0 with
     | true => rfl
     | false =>
       simp only [Option.bind_some]
       rw [decide_eq_true (show (0 : Int) <= (j : Int) by omega)]; rfl
def mOK (m : Qc) : Bool := inR (-25920000) 25920000 m.Least && (inR (-25920000) 25920000 m.Most && (inR 0 324000 m.Low && (inR 0 324000 m.High && inR 1 1000000 m.Speed)))
def mntE (m : Qc) : Int := match mOK m with
 | true => if m.Most < m.Least then 9 else if m.High < m.Low then 9 else if tabE m.Refraction = 0 then tabE m.Drift else tabE m.Refraction
 | false => 2
theorem Qp6 (k : Nat) (hk : 100 < k) (hk2 : k <= 100000000000000000000) (m : Qc) (h1 : m.Refraction.length < k) (h2 : m.Drift.length < k) : Qag k m = some (mntE m) := by
 unfold Qag mntE mOK
 rw [Qlx k _ _ _ (by decide) hk hk2, Option.bind_some]
 cases inR (-25920000) 25920000 m.Least with
 | false => rfl
 | true =>
   cases inR (-25920000) 25920000 m.Most with
   | false => rfl
   | true =>
     rw [show (true && true) = true from rfl, if_pos rfl, Qkb k _ _ _ _ hk hk2, Option.bind_some]
     cases inR 0 324000 m.Low with
     | false => rfl
     | true =>
       cases inR 0 324000 m.High with
       | false => rfl
       | true =>
         rw [show (true && true) = true from rfl, if_pos rfl, Qao k _ _ _ hk hk2, Option.bind_some]
         cases inR 1 1000000 m.Speed with
         | false => rfl
         | true =>
           rw [if_pos rfl, Qkc k hk hk2 _ h1, Qkc k hk hk2 _ h2, Option.bind_some, Option.bind_some]
           show _ = some (if m.Most < m.Least then 9 else if m.High < m.Low then 9 else if tabE m.Refraction = 0 then tabE m.Drift else tabE m.Refraction)
           split
           ·rfl
           ·split
            ·rfl
            ·split <;> rfl
structure Mnt (m : Qc) : Prop where
 lo : -25920000 <= m.Least
 mid : m.Least <= m.Most
 hi : m.Most <= 25920000
 h0 : 0 <= m.Low /\ m.Low <= m.High /\ m.High <= 324000
 sp : 1 <= m.Speed /\ m.Speed <= 1000000
 re : Tab m.Refraction
 dr : Tab m.Drift
theorem Mnt.of {m : Qc} (h : mntE m = 0) : Mnt m := by
 unfold mntE at h
 cases h1 : mOK m with
 | false => rw [h1] at h; cases h
 | true =>
   rw [h1] at h
   have h : (if m.Most < m.Least then (9 : Int) else if m.High < m.Low then 9 else if tabE m.Refraction = 0 then tabE m.Drift else tabE m.Refraction) = 0 := h
   simp only [mOK, Bool.and_eq_true, Qhq] at h1
   split at h
   ·omega
   ·split at h
    ·omega
    ·split at h
     ·exact ⟨by omega, by omega, by omega, by omega, by omega, Tab.of ‹_›, Tab.of h⟩
     ·omega
def tOK (t : Qa) : Bool := inR 0 1295999 t.Azimuth && (inR 0 324000 t.Height && (inR 0 10000000 t.From && (inR 0 10000000 t.To && inR 1 10000 t.Dwell)))
def tgtE (t : Qa) : Int := match nameB t.Name with
 | true => match tOK t with
   | true => if t.To <= t.From then 9 else 0
   | false => 2
 | false => 4
theorem Qof (k : Nat) (hk : 100 < k) (hk2 : k <= 100000000000000000000) (t : Qa) : Y9 k t = some (tgtE t) := by
 unfold Y9 tgtE tOK
 rw [Qtn k hk hk2, Option.bind_some]
 cases nameB t.Name with
 | false => rfl
 | true =>
   rw [if_pos rfl, Qao k _ _ _ hk hk2, Option.bind_some]
   cases inR 0 1295999 t.Azimuth with
   | false => rfl
   | true =>
     rw [if_pos rfl, Qao k _ _ _ hk hk2, Option.bind_some]
     cases inR 0 324000 t.Height with
     | false => rfl
     | true =>
       rw [if_pos rfl, Qkb k _ _ _ _ hk hk2, Option.bind_some]
       cases inR 0 10000000 t.From with
       | false => rfl
       | true =>
         cases inR 0 10000000 t.To with
         | false => rfl
         | true =>
           rw [show (true && true) = true from rfl, if_pos rfl, Qao k _ _ _ hk hk2, Option.bind_some]
           cases inR 1 10000 t.Dwell with
           | false => rfl
           | true =>
             show (if t.To <= t.From then some 9 else some 0) = some (if t.To <= t.From then 9 else 0)
             split <;> rfl
structure Tgt (t : Qa) : Prop where
 az : 0 <= t.Azimuth /\ t.Azimuth < 1296000
 he : 0 <= t.Height /\ t.Height <= 324000
 fr : 0 <= t.From /\ t.From < t.To /\ t.To <= 10000000
 dw : 1 <= t.Dwell /\ t.Dwell <= 10000
theorem Tgt.of {t : Qa} (h : tgtE t = 0) : Tgt t := by
 unfold tgtE at h
 cases h0 : nameB t.Name with
 | false => rw [h0] at h; cases h
 | true =>
   rw [h0] at h
   cases h1 : tOK t with
   | false => rw [h1] at h; cases h
   | true =>
     rw [h1] at h
     have h : (if t.To <= t.From then (9 : Int) else 0) = 0 := h
     simp only [tOK, Bool.and_eq_true, Qhq] at h1
     split at h
     ·omega
     ·exact ⟨by omega, by omega, by omega, by omega⟩
def apA (m : Qc) (t : Qa) (d : Int) : Int := (t.Azimuth + val m.Drift d) % 1296000
def apH (m : Qc) (t : Qa) : Int := t.Height + val m.Refraction t.Height
theorem Q1u (m : Qc) (t : Qa) (d : Int) : 0 <= apA m t d /\ apA m t d < 1296000 := by unfold apA; omega
theorem Qll (k : Nat) (hk : 100 < k) {m : Qc} {t : Qa} {d : Int} (hm : Mnt m) (ht : Tgt t) (hd : 0 <= d /\ d <= 100000) : Qa7 k m t d = some ⟨apA m t d, apH m t⟩ := by
 unfold Qa7
 have hz := ht.az
 have hh := ht.he
 have v1 := Qzd hm.dr d
 have v2 := Qzd hm.re t.Height
 rw [Qkd k hk hm.dr (by omega), Option.bind_some, Jd (n := t.Azimuth + val m.Drift d) (by omega) (by omega), Qjo k (by omega) (by decide), Option.bind_some, Qkd k hk hm.re (by omega), Option.bind_some, Jd (n := t.Height + _) (by omega) (by omega), Jd (n := (t.Azimuth + val m.Drift d) / 1296000 * 1296000) (by omega) (by omega), Jd (by omega) (by omega)]
 unfold apA apH
 rw [show t.Azimuth + val m.Drift d - (t.Azimuth + val m.Drift d) / 1296000 * 1296000 = (t.Azimuth + val m.Drift d) % 1296000 by omega]
def ups (a most : Int) : Nat -> Int -> List Int
 | 0, _ => []
 | d + 1, x => if a + x * 1296000 <= most then x :: ups a most d (x + 1) else []
def flt (a least most : Int) : Nat -> Int -> List Int
 | 0, _ => []
 | d + 1, x => match inR least most (a + x * 1296000) with
   | true => x :: flt a least most d (x + 1)
   | false => flt a least most d (x + 1)
theorem Qrp (a least most : Int) : ∀ (d : Nat) (x : Int), most < a + x * 1296000 -> flt a least most d x = []
 | 0, x, _ => rfl
 | d + 1, x, h => by
   simp only [flt]
   rw [show inR least most (a + x * 1296000) = false from Qu5.2 (by omega)]
   exact Qrp a least most d (x + 1) (by omega)
theorem Qu6 (a least most : Int) : ∀ (d : Nat) (x : Int), least <= a + x * 1296000 -> flt a least most d x = ups a most d x
 | 0, x, _ => rfl
 | d + 1, x, h => by
   simp only [flt, ups]
   by_cases c : a + x * 1296000 <= most
   ·rw [if_pos c, show inR least most (a + x * 1296000) = true from Qhq.2 ⟨h, c⟩]
    show x :: _ = _
    rw [Qu6 a least most d (x + 1) (by omega)]
   ·rw [if_neg c, show inR least most (a + x * 1296000) = false from Qu5.2 (by omega)]
    exact Qrp a least most d (x + 1) (by omega)
theorem Qrq (a least most : Int) : ∀ (n d : Nat) (x : Int), a + (x + n - 1) * 1296000 < least -> flt a least most (n + d) x = flt a least most d (x + n)
 | 0, d, x, _ => by rw [Nat.zero_add]; congr 1; omega
 | n + 1, d, x, h => by
   rw [show n + 1 + d = (n + d) + 1 by omega]
   simp only [flt]
   rw [show inR least most (a + x * 1296000) = false from Qu5.2 (by omega)]
   show flt a least most (n + d) (x + 1) = _
   rw [Qrq a least most n d (x + 1) (by omega)]
   congr 1; omega
def trn (m : Qc) (a : Int) : List Int := flt a m.Least m.Most 43 (-21)
theorem Qz5 {m : Qc} (hm : Mnt m) {a : Int} (ha : 0 <= a /\ a < 1296000) : trn m a = ups a m.Most (22 - -((a - m.Least) / 1296000)).toNat (-((a - m.Least) / 1296000)) := by
 have h1 := hm.lo
 have h2 := hm.hi
 have h3 := hm.mid
 obtain ⟨x, hx⟩ : ∃ x : Int, x = -((a - m.Least) / 1296000) := ⟨_, rfl⟩
 obtain ⟨n, hn⟩ : ∃ n : Nat, (n : Int) = x + 21 := ⟨(x + 21).toNat, by omega⟩
 rw [<- hx]
 unfold trn
 rw [show 43 = n + (22 - x).toNat by omega, Qrq a m.Least m.Most n _ (-21) (by omega), show (-21 : Int) + n = x by omega]
 exact Qu6 a m.Least m.Most _ x (by omega)
theorem Q1v (k : Nat) (m : Qc) (t : Qa) (p : A26) (hm : Mnt m) (ha : 0 <= p.e0 /\ p.e0 < 1296000) : ∀ (d fuel : Nat) (y6 y7 : List Int) (x : Int), x + d = 22 -> -30 <= x -> d < fuel -> y6.length + d <= 1000 -> y7.length + d <= 1000 ->
 X3 k m t p fuel y6 y7 x = some (y6 ++ ups p.e0 m.Most d x, y7 ++ (ups p.e0 m.Most d x).map fun x => p.e0 + x * 1296000) := by
 have h2 := hm.hi
 intro d
 induction d with
 | zero =>
   intro fuel y6 y7 x hx hx2 hf h6 h7
   obtain ⟨g, rfl⟩ : ∃ g, fuel = g + 1 := ⟨fuel - 1, by omega⟩
   rw [X3.eq_2, Jd (n := x * 1296000) (by omega) (by omega), Jd (n := p.e0 + _) (by omega) (by omega), if_neg (by omega)]
   simp [ups]
 | succ d ih =>
   intro fuel y6 y7 x hx hx2 hf h6 h7
   obtain ⟨g, rfl⟩ : ∃ g, fuel = g + 1 := ⟨fuel - 1, by omega⟩
   rw [X3.eq_2, Jd (n := x * 1296000) (by omega) (by omega), Jd (n := p.e0 + _) (by omega) (by omega)]
   simp only [ups]
   by_cases c : p.e0 + x * 1296000 <= m.Most
   ·rw [if_pos c, if_pos (by simp; omega), if_pos (by simp; omega), Jd (n := x + 1) (by omega) (by omega), ih g _ _ (x + 1) (by omega) (by omega) (by omega) (by simp; omega) (by simp; omega), if_pos c]
    simp
   ·rw [if_neg c, if_neg c]; simp
def stpE (m : Qc) (t : Qa) (d : Int) : Int := match inR m.Low m.High (apH m t) with
 | true => if (trn m (apA m t d)).length = 0 then 12 else 0
 | false => 26
def posL (m : Qc) (t : Qa) (d : Int) : List Int := (trn m (apA m t d)).map fun x => apA m t d + x * 1296000
def Q1w : Z8 := ⟨⟨ByteArray.empty, 0, 0, 0, 0, 0⟩, [], []⟩
theorem Qto (k : Nat) (hk : 100 < k) (hk2 : k <= 100000000000000000000) {m : Qc} {t : Qa} {d : Int} (hm : Mnt m) (ht : Tgt t) (hd : 0 <= d /\ d <= 100000) :
 Qb6 k m t d = some (if stpE m t d = 0 then (⟨t, trn m (apA m t d), posL m t d⟩, 0) else (Q1w, stpE m t d)) := by
 unfold Qb6 stpE
 rw [Qll k hk hm ht hd, Option.bind_some, Qao k _ _ _ hk hk2, Option.bind_some]
 cases inR m.Low m.High (apH m t) with
 | false => rfl
 | true =>
   have h1 := hm.lo
   have h2 := hm.hi
   have h3 := hm.mid
   have ha := Q1u m t d
   unfold Qhr
   dsimp only
   rw [if_pos rfl, Jd (n := m.Least - _) (by omega) (by omega), Jd (n := 0 - _) (by omega) (by omega), Qjo k (by omega) (by decide), Option.bind_some, Option.bind_some, Jd (by omega) (by omega)]
   have e : (0 : Int) - (0 - (m.Least - apA m t d)) / 1296000 = -((apA m t d - m.Least) / 1296000) := by
    rw [show (0 : Int) - (m.Least - apA m t d) = apA m t d - m.Least by omega]; omega
   rw [e, Q1v k m t ⟨apA m t d, apH m t⟩ hm ha (22 - -((apA m t d - m.Least) / 1296000)).toNat k [] [] _ (by omega) (by omega) (by omega) (by simp; omega) (by simp; omega), Option.bind_some]
   simp only [List.nil_append]
   rw [<- Qz5 hm ha]
   by_cases c : (trn m (apA m t d)).length = 0
   ·rw [if_pos (by omega)]
    simp only [if_pos c]
    rfl
   ·rw [if_neg (by omega)]
    simp only [if_neg c]
    rfl
def Qly (m : Qc) : Bool := Qtp m.Refraction && Qtp m.Drift
theorem Qu7 (k : Nat) (m : Qc) : Yc k m = some (Qly m) := by
 unfold Yc Qly
 rw [Qrr, Qrr]
 cases Qtp m.Refraction <;> rfl
theorem Qu8 {m : Qc} (h : Qly m = true) : m.Refraction.length <= 43 /\ m.Drift.length <= 43 := by
 unfold Qly Qtp at h
 rw [Bool.and_eq_true, decide_eq_true_iff, decide_eq_true_iff] at h
 omega
theorem Qu9 (a least most : Int) : ∀ (d : Nat) (x : Int), (flt a least most d x).length <= d
 | 0, x => Nat.le_refl _
 | d + 1, x => by
   simp only [flt]
   have := Qu9 a least most d (x + 1)
   split
   ·simp only [List.length_cons]; omega
   ·omega
theorem Qp7 (m : Qc) (a : Int) : (trn m a).length <= 43 := Qu9 _ _ _ _ _
end Go.Proofs.Ytbgajdbpdhipiaa.Vg
end

section
set_option linter.unusedVariables false
set_option linter.unusedSimpArgs false
namespace Go.Proofs.Ytbgajdbpdhipiaa.Vg
open Go Go.Proofs.Ytbgajdbpdhipiaa.Ev Go.Proofs.Ytbgajdbpdhipiaa.Vv
abbrev At2 := A26
def Qqy (t o : Qa) : Bool := decide (o.Name = t.Name)
def tgE (m : Qc) (d : Int) (b : List Qa) (t : Qa) : Int := if tgtE t = 0 then (if b.any (Qqy t) = true then 5 else stpE m t d) else tgtE t
def errs (m : Qc) (d : Int) (l : List Qa) : Nat -> Nat -> Option (Int × Int)
 | 0, _ => none
 | n + 1, i => if tgE m d (l.take i) (l.getD i default) = 0 then errs m d l n (i + 1) else some ((i : Int), tgE m d (l.take i) (l.getD i default))
def trE (m : Qc) (l : List Qa) (p : At2) : Int × Int :=
 if mntE m = 0 then (if inR 0 100000 p.e0 = true then (if inR m.Least m.Most p.e1 = true then (if 20 < l.length then (0, 8) else (errs m p.e0 l l.length 0).getD (0, 0)) else (0, 2)) else (0, 2)) else (0, mntE m)
def stp (m : Qc) (d : Int) (t : Qa) : Z8 := ⟨t, trn m (apA m t d), posL m t d⟩
theorem Q15 (k : Nat) (l : List Qa) (t : Qa) (hl : l.length < 1000000000) : ∀ (d fuel i : Nat), l.length = i + d -> d < fuel ->
 ∃ j : Nat, Qd k l (t.Name, t.Azimuth, t.Height, t.From, t.To, t.Dwell) fuel (i : Int) = some (match (l.drop i).any (Qqy t) with | true => .inl (j : Int) | false => .inr ()) := by
 intro d
 induction d with
 | zero =>
   intro fuel i h hf
   obtain ⟨g, rfl⟩ : ∃ g, fuel = g + 1 := ⟨fuel - 1, by omega⟩
   rw [Qd.eq_2, if_neg (by omega), List.drop_eq_nil_of_le (by omega)]
   exact ⟨0, rfl⟩
 | succ d ih =>
   intro fuel i h hf
   obtain ⟨g, rfl⟩ : ∃ g, fuel = g + 1 := ⟨fuel - 1, by omega⟩
   obtain ⟨j, hj⟩ := ih g (i + 1) (by omega) (by omega)
   rw [Qd.eq_2, if_pos (by omega), if_pos (by omega), Yl (by omega), hj, Je (y := l) (i := i) (by omega) default]
   simp only [Int.toNat_natCast, List.any_cons]
   show ∃ j : Nat, ((some (Qqy t (l.getD i default))).bind _) = _
   rw [Option.bind_some]
   cases Qqy t (l.getD i default) with
   | true => exact ⟨i, by rw [if_pos rfl]; rfl⟩
   | false => exact ⟨j, by rw [if_neg (by decide)]; rfl⟩
theorem Qt7 (k : Nat) (hk : 100 < k) (hk2 : k <= 100000000000000000000) (b : List Qa) (hb : b.length < k) (hb2 : b.length <= 1000) (t : Qa) : Wh k b t = some (if tgtE t = 0 then (if b.any (Qqy t) = true then 5 else 0) else tgtE t) := by
 unfold Wh
 rw [Qof k hk hk2, Option.bind_some]
 by_cases h : tgtE t = 0
 ·rw [if_pos h, if_pos h]
  unfold Ql Qo
  obtain ⟨j, hj⟩ := Q15 k b t (by omega) b.length k 0 (by omega) hb
  rw [show Qd k b (t.Name, t.Azimuth, t.Height, t.From, t.To, t.Dwell) k 0 = _ from hj, List.drop_zero]
  cases b.any (Qqy t) with
  | true =>
    simp only [Option.bind_some]
    rw [decide_eq_true (show (0 : Int) <= (j : Int) by omega)]; rfl
  | false => rfl
 ·rw [if_neg h, if_neg h]
theorem Q0n {α : Type} (l : List α) (i : Nat) : sl l 0 i = l.take i := by unfold sl; rfl
theorem Q16 (k : Nat) (hk : 100 < k) (hk2 : k <= 100000000000000000000) {m : Qc} (hm : Mnt m) (l : List Qa) (p : At2) (hp : 0 <= p.e0 /\ p.e0 <= 100000) (hl : l.length <= 20) : ∀ (d fuel i : Nat) (y : List Z8), l.length = i + d -> d < fuel -> y.length = i ->
 Xp k m l p fuel y (i : Int) = some (match errs m p.e0 l d i with | some e => .inl e | none => .inr (y ++ (l.drop i).map (stp m p.e0))) := by
 intro d
 induction d with
 | zero =>
   intro fuel i y h hf hy
   obtain ⟨g, rfl⟩ : ∃ g, fuel = g + 1 := ⟨fuel - 1, by omega⟩
   rw [Xp.eq_2, if_neg (by omega), List.drop_eq_nil_of_le (by omega)]
   simp [errs]
 | succ d ih =>
   intro fuel i y h hf hy
   obtain ⟨g, rfl⟩ : ∃ g, fuel = g + 1 := ⟨fuel - 1, by omega⟩
   rw [Xp.eq_2, if_pos (by omega), if_pos (by omega), if_pos (by omega), Q0n, Qt7 k hk hk2 _ (by rw [List.length_take]; omega) (by rw [List.length_take]; omega), Option.bind_some, Yl (by omega), Je (y := l) (i := i) (by omega) default]
   simp only [Int.toNat_natCast, errs]
   by_cases h1 : tgtE (l.getD i default) = 0
   ·rw [if_pos h1]
    by_cases h2 : (l.take i).any (Qqy (l.getD i default)) = true
    ·have e : tgE m p.e0 (l.take i) (l.getD i default) = 5 := by unfold tgE; rw [if_pos h1, if_pos h2]
     rw [if_pos h2, e]; rfl
    ·have e : tgE m p.e0 (l.take i) (l.getD i default) = stpE m (l.getD i default) p.e0 := by unfold tgE; rw [if_pos h1, if_neg h2]
     rw [if_neg h2, if_pos rfl, Qto k hk hk2 hm (Tgt.of h1) hp, Option.bind_some, e]
     by_cases h3 : stpE m (l.getD i default) p.e0 = 0
     ·rw [if_pos h3, if_pos h3, if_pos rfl, if_pos (by simp; omega), ih g (i + 1) _ (by omega) (by omega) (by simp; omega)]
      congr 1
      cases errs m p.e0 l d (i + 1) with
      | some e => rfl
      | none => simp [stp]
     ·rw [if_neg h3, if_neg h3, if_neg h3]
   ·have e : tgE m p.e0 (l.take i) (l.getD i default) = tgtE (l.getD i default) := by unfold tgE; rw [if_neg h1]
    rw [if_neg h1, if_neg h1, e, if_neg h1]
theorem Qqz (m : Qc) (d : Int) (l : List Qa) : ∀ (n i : Nat) (e : Int × Int), errs m d l n i = some e -> e.2 ≠ 0
 | 0, i, e, h => by cases h
 | n + 1, i, e, h => by
   simp only [errs] at h
   split at h
   ·exact Qqz m d l n (i + 1) e h
   ·injection h with h; subst h; assumption
theorem Qpa (m : Qc) (d : Int) (l : List Qa) : ∀ (n i : Nat), errs m d l n i = none -> ∀ j, i <= j -> j < i + n -> tgE m d (l.take j) (l.getD j default) = 0
 | 0, i, h, j, h1, h2 => by omega
 | n + 1, i, h, j, h1, h2 => by
   simp only [errs] at h
   split at h
   ·by_cases e : j = i
    ·subst e; assumption
    ·exact Qpa m d l n (i + 1) h j (by omega) (by omega)
   ·cases h
theorem Qiu (k : Nat) (hk : 100 < k) (hk2 : k <= 100000000000000000000) (m : Qc) (h1 : m.Refraction.length < k) (h2 : m.Drift.length < k) (l : List Qa) (p : At2) :
 Qan k m l p = some ((if (trE m l p).2 = 0 then ⟨p.e1, l.map (stp m p.e0)⟩ else ⟨0, []⟩), trE m l p) := by
 unfold Qan trE Qb9
 rw [Qp6 k hk hk2 m h1 h2, Option.bind_some, Qao k _ _ _ hk hk2, Qao k _ _ _ hk hk2]
 simp only [Option.bind_some]
 by_cases c1 : mntE m = 0
 ·simp only [if_pos c1]
  by_cases c2 : inR 0 100000 p.e0 = true
  ·simp only [if_pos c2, Option.bind_some, if_true]
   by_cases c3 : inR m.Least m.Most p.e1 = true
   ·simp only [if_pos c3]
    by_cases c4 : 20 < l.length
    ·rw [if_pos (by omega)]
     simp only [if_pos c4]
     rfl
    ·rw [if_neg (by omega), show Xp k m l p k [] 0 = _ from Q16 k hk hk2 (Mnt.of c1) l p (Qhq.1 c2) (by omega) l.length k 0 [] (by omega) (by omega) rfl, Option.bind_some]
     simp only [if_neg c4]
     cases he : errs m p.e0 l l.length 0 with
     | some e =>
       have := Qqz m p.e0 l _ _ e he
       show some (_, _, _) = some ((if e.2 = 0 then _ else _), e)
       rw [if_neg this]
     | none =>
       show some (_, _, _) = some ((if (0 : Int) = 0 then _ else _), (0, 0))
       rw [if_pos rfl]; rfl
   ·simp only [if_neg c3]
    rfl
  ·simp only [if_neg c2, Option.bind_some]
   rfl
 ·simp only [if_neg c1]
structure Tr (m : Qc) (l : List Qa) (p : At2) : Prop where
 mnt : Mnt m
 day : 0 <= p.e0 /\ p.e0 <= 100000
 beg : m.Least <= p.e1 /\ p.e1 <= m.Most
 len : l.length <= 20
 tgt : ∀ i, i < l.length -> Tgt (l.getD i default) /\ stpE m (l.getD i default) p.e0 = 0
theorem Tr.of {m : Qc} {l : List Qa} {p : At2} (h : (trE m l p).2 = 0) : Tr m l p := by
 unfold trE at h
 split at h
 ·rename_i c1
  split at h
  ·rename_i c2
   split at h
   ·rename_i c3
    split at h
    ·cases h
    ·rename_i c4
     cases he : errs m p.e0 l l.length 0 with
     | some e => rw [he] at h; exact absurd h (Qqz m p.e0 l _ _ e he)
     | none =>
       refine ⟨Mnt.of c1, Qhq.1 c2, Qhq.1 c3, by omega, fun i hi => ?_⟩
       have := Qpa m p.e0 l _ _ he i (by omega) (by omega)
       unfold tgE at this
       split at this
       ·rename_i g1
        split at this
        ·cases this
        ·exact ⟨Tgt.of g1, this⟩
       ·contradiction
   ·cases h
  ·cases h
 ·contradiction
def Qov (x : Qex) : Bool := x.Targets.all (fun t => decide (t.Name.size <= 30)) && (Qly x.Mount && decide (x.Targets.length <= 5 \/ 20 < x.Targets.length /\ x.Targets.length <= 23))
theorem Qv7 {i : Nat} (h : i < 9223372036854775807) : w64 ((i : Int) + 1) = ((i + 1 : Nat) : Int) := by
 rw [Jd (by omega) (by omega)]; omega
theorem Q0o (k : Nat) (x : Qex) (hl : x.Targets.length <= 9223372036854775807) : ∀ (d fuel i : Nat), x.Targets.length = i + d -> d < fuel ->
 Zk k x fuel (i : Int) = some (sumB ((x.Targets.drop i).all (fun t => decide (t.Name.size <= 30)))) := by
 intro d
 induction d with
 | zero =>
   intro fuel i h hf
   obtain ⟨g, rfl⟩ : ∃ g, fuel = g + 1 := ⟨fuel - 1, by omega⟩
   rw [Zk.eq_2, if_neg (by omega), List.drop_eq_nil_of_le (by omega)]; rfl
 | succ d ih =>
   intro fuel i h hf
   obtain ⟨g, rfl⟩ : ∃ g, fuel = g + 1 := ⟨fuel - 1, by omega⟩
   rw [Zk.eq_2, if_pos (by omega), if_pos (by omega), Qv7 (by omega), ih g (i + 1) (by omega) (by omega), Je (y := x.Targets) (i := i) (by omega) default]
   simp only [Int.toNat_natCast, List.all_cons]
   by_cases c : 30 < ((x.Targets.getD i default).Name.size : Int)
   ·rw [if_pos c, decide_eq_false (by omega)]; rfl
   ·rw [if_neg c, decide_eq_true (show (x.Targets.getD i default).Name.size <= 30 by omega)]; rfl
theorem short_any (k : Nat) (x : Qex) (hl : x.Targets.length < k) (hk : x.Targets.length <= 9223372036854775807) : Yd k x = some (Qov x) := by
 unfold Yd Qov
 rw [show Zk k x k 0 = _ from Q0o k x (by omega) x.Targets.length k 0 (by omega) hl, List.drop_zero, Option.bind_some, Qu7]
 cases x.Targets.all (fun t => decide (t.Name.size <= 30)) with
 | false => rfl
 | true =>
   simp only [sumB, Option.bind_some]
   cases Qly x.Mount with
   | false => rfl
   | true =>
     rw [if_pos rfl]
     by_cases c1 : (x.Targets.length : Int) <= 5
     ·rw [if_pos c1, decide_eq_true (show x.Targets.length <= 5 \/ 20 < x.Targets.length /\ x.Targets.length <= 23 by omega)]; rfl
     ·rw [if_neg c1]
      by_cases c2 : 20 < (x.Targets.length : Int)
      ·rw [if_pos c2]
       congr 1
       show decide _ = decide _
       rw [decide_eq_decide]; omega
      ·rw [if_neg c2, decide_eq_false (show ¬(x.Targets.length <= 5 \/ 20 < x.Targets.length /\ x.Targets.length <= 23) by omega)]; rfl
theorem Qqj {x : Qex} (h : Qov x = true) : x.Mount.Refraction.length <= 43 /\ x.Mount.Drift.length <= 43 /\ x.Targets.length <= 23 := by
 unfold Qov at h
 rw [Bool.and_eq_true, Bool.and_eq_true] at h
 obtain ⟨a, b⟩ := Qu8 h.2.1
 have := of_decide_eq_true h.2.2
 omega
end Go.Proofs.Ytbgajdbpdhipiaa.Vg
end

section
set_option linter.unusedVariables false
set_option linter.unusedSimpArgs false
namespace Go.Proofs.Ytbgajdbpdhipiaa.Vg
open Go Go.Proofs.Ytbgajdbpdhipiaa.Ev Go.Proofs.Ytbgajdbpdhipiaa.Vv
def absI (n : Int) : Int := if n < 0 then -n else n
def cst (a b : Int) : Int := if 648000 < absI (b - a) then absI (b - a) + 10000000000 else absI (b - a)
def small (a : Int) : Prop := -1000000000000 <= a /\ a <= 1000000000000
theorem Qw0 {a b : Int} {A : Int} (ha : -A <= a /\ a <= A) (hb : -A <= b /\ b <= A) : 0 <= absI (b - a) /\ absI (b - a) <= 2 * A := by unfold absI; split <;> omega
theorem Qlq (k : Nat) {a b : Int} (ha : small a) (hb : small b) : Qae k a b = some (absI (b - a), decide (648000 < absI (b - a))) := by
 unfold Qae
 unfold small at ha hb
 have e : maxI (w64 (b - a)) (w64 (a - b)) = absI (b - a) := by
  rw [Jd (n := b - a) (by omega) (by omega), Jd (n := a - b) (by omega) (by omega)]
  unfold maxI absI
  split <;> split <;> omega
 rw [e]
theorem Qfe (k : Nat) {a b : Int} (ha : small a) (hb : small b) : Xo k a b = some (cst a b) := by
 unfold Xo cst
 have h := Qw0 ha hb
 rw [Qlq k ha hb, Option.bind_some]
 by_cases c : 648000 < absI (b - a)
 ·rw [if_pos (by simpa using c), if_pos c, Jd (by omega) (by omega)]
 ·rw [if_neg (by simpa using c), if_neg c]
def near (a : Int) : Prop := -25920000 <= a /\ a <= 25920000
theorem near.small {a : Int} (h : near a) : small a := by unfold near at h; unfold Vg.small; omega
theorem Qid {a b : Int} (ha : near a) (hb : near b) : 0 <= cst a b /\ cst a b <= 11000000000 := by
 have h := Qw0 (A := 25920000) ha hb
 unfold cst; split <;> omega
def pos (m : Qc) (t : Qa) (d x : Int) : Int := apA m t d + x * 1296000
theorem Qb4 (a least most : Int) : ∀ (n : Nat) (x y : Int), y ∈ flt a least most n x -> least <= a + y * 1296000 /\ a + y * 1296000 <= most
 | 0, x, y, h => by cases h
 | n + 1, x, y, h => by
   simp only [flt] at h
   cases c : inR least most (a + x * 1296000) with
   | true =>
     rw [c] at h
     rcases List.mem_cons.1 h with rfl | h
     ·exact Qhq.1 c
     ·exact Qb4 a least most n (x + 1) y h
   | false => rw [c] at h; exact Qb4 a least most n (x + 1) y h
theorem Q2k {m : Qc} (hm : Mnt m) {t : Qa} {d x : Int} (h : x ∈ trn m (apA m t d)) : m.Least <= pos m t d x /\ pos m t d x <= m.Most := Qb4 _ _ _ _ _ _ h
theorem Qsu {m : Qc} (hm : Mnt m) {t : Qa} {d x : Int} (h : x ∈ trn m (apA m t d)) : near (pos m t d x) := by
 have := Q2k hm h
 have h1 := hm.lo
 have h2 := hm.hi
 unfold near; omega
def chL (m : Qc) (d : Int) : List Qa -> List Int -> Option (List Int)
 | [], _ => some []
 | _ :: _, [] => none
 | t :: l, x :: xs => if x ∈ trn m (apA m t d) then (chL m d l xs).map (pos m t d x :: ·) else none
theorem Que (k : Nat) (xs : List Int) (v : Int) (hl : xs.length < 1000000000) : ∀ (d fuel i : Nat), xs.length = i + d -> d < fuel ->
 (v ∈ xs.drop i -> ∃ j : Nat, Qx k xs v fuel (i : Int) = some (.inl (j : Int)) /\ j < xs.length /\ xs.getD j 0 = v) /\ (¬v ∈ xs.drop i -> Qx k xs v fuel (i : Int) = some (.inr ())) := by
 intro d
 induction d with
 | zero =>
   intro fuel i h hf
   obtain ⟨g, rfl⟩ : ∃ g, fuel = g + 1 := ⟨fuel - 1, by omega⟩
   rw [Qx.eq_2, if_neg (by omega), List.drop_eq_nil_of_le (by omega)]
   exact ⟨fun h => absurd h (by simp), fun _ => rfl⟩
 | succ d ih =>
   intro fuel i h hf
   obtain ⟨g, rfl⟩ : ∃ g, fuel = g + 1 := ⟨fuel - 1, by omega⟩
   obtain ⟨h1, h2⟩ := ih g (i + 1) (by omega) (by omega)
   rw [Qx.eq_2, if_pos (by omega), if_pos (by omega), Yl (by omega), Je (y := xs) (i := i) (by omega) 0]
   simp only [Int.toNat_natCast]
   by_cases c : v = xs.getD i 0
   ·rw [if_pos c]
    exact ⟨fun _ => ⟨i, rfl, by omega, c.symm⟩, fun hn => absurd (by rw [c]; exact List.mem_cons_self) hn⟩
   ·rw [if_neg c]
    exact ⟨fun hm => h1 ((List.mem_cons.1 hm).resolve_left c), fun hn => h2 (fun hm => hn (List.mem_cons_of_mem _ hm))⟩
theorem set_mid {α : Type} (p : List α) (d : Nat) (z v : α) : (p ++ List.replicate (d + 1) z).set p.length v = (p ++ [v]) ++ List.replicate d z := by
 rw [List.replicate_succ, List.set_append_right _ _ (Nat.le_refl _), Nat.sub_self]
 simp
theorem Qyq {α : Type} {p : List α} {d i : Nat} {z v : α} (h : p.length = i) : (p ++ List.replicate (d + 1) z).set i v = (p ++ [v]) ++ List.replicate d z := by subst h; exact set_mid p d z v
theorem Qcb {ps : List Int} (hp : ∀ p ∈ ps, near p) {i : Nat} (h : i < ps.length) : near (ps.getD i 0) := hp _ (by rw [List.getD_eq_getElem?_getD, List.getElem?_eq_getElem h]; exact List.getElem_mem _)
theorem Qyr (k : Nat) (hk : 100 < k) {m : Qc} {l : List Qa} {p : At2} (h : Tr m l p) (xs : List Int) (hx : xs.length = l.length) (b : Int) : ∀ (d fuel i : Nat) (y : List Int), l.length = i + d -> d < fuel -> y.length = i ->
 Zl k ⟨b, l.map (stp m p.e0)⟩ xs fuel (y ++ List.replicate d 0) (i : Int) = some (match chL m p.e0 (l.drop i) (xs.drop i) with | some ps => .inr (y ++ ps) | none => .inl ()) := by
 have hlen := h.len
 intro d
 induction d with
 | zero =>
   intro fuel i y hi hf hy
   obtain ⟨g, rfl⟩ : ∃ g, fuel = g + 1 := ⟨fuel - 1, by omega⟩
   rw [Zl.eq_2, if_neg (by omega), List.drop_eq_nil_of_le (by omega)]
   simp [chL]
 | succ d ih =>
   intro fuel i y hi hf hy
   obtain ⟨g, rfl⟩ : ∃ g, fuel = g + 1 := ⟨fuel - 1, by omega⟩
   have hs : (l.map (stp m p.e0)).getD i default = stp m p.e0 (l.getD i default) := by
    rw [List.getD_eq_getElem?_getD, List.getElem?_map, List.getD_eq_getElem?_getD, List.getElem?_eq_getElem (by omega)]; rfl
   rw [Zl.eq_2, if_pos (by omega), if_pos (by omega), if_pos (by simp; omega), Yl (by omega), Je (y := l) (i := i) (by omega) default, Je (y := xs) (i := i) (by omega) 0]
   simp only [Int.toNat_natCast, hs]
   show ((Jm k (trn m (apA m (l.getD i default) p.e0)) (xs.getD i 0)).bind _) = _
   unfold Jm
   have hlt := Qp7 m (apA m (l.getD i default) p.e0)
   obtain ⟨g1, g2⟩ := Que k (trn m (apA m (l.getD i default) p.e0)) (xs.getD i 0) (by omega) (trn m (apA m (l.getD i default) p.e0)).length k 0 (by omega) (by omega)
   rw [List.drop_zero] at g1 g2
   simp only [chL]
   by_cases c : xs.getD i 0 ∈ trn m (apA m (l.getD i default) p.e0)
   ·obtain ⟨j, e1, e2, e3⟩ := g1 c
    have hp : (posL m (l.getD i default) p.e0).getD j 0 = pos m (l.getD i default) p.e0 (xs.getD i 0) := by
     unfold posL
     rw [List.getD_eq_getElem?_getD, List.getElem?_map, List.getElem?_eq_getElem e2]
     rw [List.getD_eq_getElem?_getD, List.getElem?_eq_getElem e2] at e3
     show apA m _ _ + _ * 1296000 = _
     rw [show (trn m (apA m (l.getD i default) p.e0))[j] = xs.getD i 0 from e3]; rfl
    have hpl : (posL m (l.getD i default) p.e0).length = (trn m (apA m (l.getD i default) p.e0)).length := by unfold posL; rw [List.length_map]
    rw [show Qx k (trn m (apA m (l.getD i default) p.e0)) (xs.getD i 0) k 0 = _ from e1, Option.bind_some]
    dsimp only
    rw [Option.bind_some, if_neg (by omega), if_pos (by show 0 <= (j : Int) /\ (j : Int) < ((posL m (l.getD i default) p.e0).length : Int); omega), if_pos (by simp; omega), Qyq hy, ih g (i + 1) _ (by omega) (by omega) (by simp; omega), if_pos c, show (stp m p.e0 (l.getD i default)).positions.getD ((j : Int)).toNat 0 = _ from hp]
    cases chL m p.e0 (l.drop (i + 1)) (xs.drop (i + 1)) with
    | none => rfl
    | some ps => simp
   ·rw [show Qx k (trn m (apA m (l.getD i default) p.e0)) (xs.getD i 0) k 0 = _ from g2 c, Option.bind_some]
    dsimp only
    rw [Option.bind_some, if_pos (by decide), if_neg c]
theorem Quf (k : Nat) (hk : 100 < k) {m : Qc} {l : List Qa} {p : At2} (h : Tr m l p) (xs : List Int) (b : Int) (hxl : xs.length < 9223372036854775807) : Y1 k ⟨b, l.map (stp m p.e0)⟩ xs = some (if xs.length = l.length then (match chL m p.e0 l xs with | some ps => (ps, (0 : Int)) | none => ([], 6)) else ([], 10)) := by
 unfold Y1
 have hlen := h.len
 by_cases c : xs.length = l.length
 ·rw [if_pos (by simp [c]), if_pos (by omega), if_pos c]
  have := Qyr k hk h xs c b l.length k 0 [] (by omega) (by omega) rfl
  rw [List.nil_append, List.drop_zero, List.drop_zero] at this
  rw [show ((xs.length : Int)).toNat = l.length by omega, show Zl k ⟨b, l.map (stp m p.e0)⟩ xs k (List.replicate l.length 0) 0 = _ from this, Option.bind_some]
  cases chL m p.e0 l xs <;> rfl
 ·rw [if_neg (by simp; omega), if_neg c]
theorem Qjs {m : Qc} (hm : Mnt m) {d : Int} : ∀ {l : List Qa} {xs ps : List Int}, chL m d l xs = some ps -> (∀ p ∈ ps, near p) /\ ps.length = l.length
 | [], xs, ps, h => by simp only [chL, Option.some.injEq] at h; subst h; exact ⟨fun p hp => absurd hp (by simp), rfl⟩
 | t :: l, [], ps, h => by cases h
 | t :: l, x :: xs, ps, h => by
   simp only [chL] at h
   split at h
   ·rename_i c
    cases hc : chL m d l xs with
    | none => rw [hc] at h; cases h
    | some qs =>
      rw [hc] at h
      simp only [Option.map_some, Option.some.injEq] at h
      subst h
      obtain ⟨g1, g2⟩ := Qjs hm hc
      refine ⟨fun p hp => ?_, by simp [g2]⟩
      rcases List.mem_cons.1 hp with rfl | hp
      ·exact Qsu hm c
      ·exact g1 p hp
   ·cases h
def sumC : Int -> List Int -> Int
 | _, [] => 0
 | f, p :: ps => cst f p + sumC p ps
theorem Qql : ∀ (ps : List Int) (f : Int), near f -> (∀ p ∈ ps, near p) -> 0 <= sumC f ps /\ sumC f ps <= 11000000000 * ps.length
 | [], f, hf, hp => by simp [sumC]
 | p :: ps, f, hf, hp => by
   have h1 := Qid hf (hp p (by simp))
   have h2 := Qql ps p (hp p (by simp)) (fun q hq => hp q (by simp [hq]))
   simp only [sumC, List.length_cons]
   omega
theorem Qys (k : Nat) (ps : List Int) (e : Int) (hp : ∀ p ∈ ps, near p) (hl : ps.length <= 20) : ∀ (d fuel i : Nat) (x f : Int), ps.length = i + d -> d < fuel -> near f -> 0 <= x -> x <= 11000000000 * i ->
 Zr k (ps, e) fuel x f (i : Int) = some (x + sumC f (ps.drop i)) := by
 intro d
 induction d with
 | zero =>
   intro fuel i x f h hf hn h1 h2
   obtain ⟨g, rfl⟩ : ∃ g, fuel = g + 1 := ⟨fuel - 1, by omega⟩
   rw [Zr.eq_2, if_neg (show ¬(i : Int) < (ps.length : Int) by omega), List.drop_eq_nil_of_le (by omega)]
   simp [sumC]
 | succ d ih =>
   intro fuel i x f h hf hn h1 h2
   obtain ⟨g, rfl⟩ : ∃ g, fuel = g + 1 := ⟨fuel - 1, by omega⟩
   have hq : near (ps.getD i 0) := hp _ (by rw [List.getD_eq_getElem?_getD, List.getElem?_eq_getElem (by omega)]; exact List.getElem_mem _)
   have hc := Qid hn hq
   rw [Zr.eq_2, if_pos (show (i : Int) < (ps.length : Int) by omega), if_pos (show 0 <= (i : Int) /\ (i : Int) < (ps.length : Int) by omega), Yl (by omega)]
   simp only [Int.toNat_natCast]
   rw [Qfe k hn.small hq.small, Option.bind_some, Jd (by omega) (by omega), ih g (i + 1) _ _ (by omega) (by omega) hq (by omega) (by omega), Je (y := ps) (i := i) (by omega) 0]
   simp only [sumC]
   congr 1; omega
def chE (m : Qc) (l : List Qa) (p : At2) (xs : List Int) : Int × Int := if xs.length = l.length then (match chL m p.e0 l xs with | some ps => (sumC p.e1 ps, 0) | none => (0, 6)) else (0, 10)
theorem Qek {m : Qc} {l : List Qa} {p : At2} (h : Tr m l p) : near p.e1 := by
 have h1 := h.mnt.lo
 have h2 := h.mnt.hi
 have h3 := h.beg
 unfold near; omega
theorem Qow (k : Nat) (hk : 100 < k) (hk2 : k <= 100000000000000000000) (m : Qc) (h1 : m.Refraction.length < k) (h2 : m.Drift.length < k) (l : List Qa) (p : At2) (xs : List Int) (hxl : xs.length < 9223372036854775807) :
 Y8 k m l p xs = some (if (trE m l p).2 = 0 then chE m l p xs else (0, (trE m l p).2)) := by
 unfold Y8
 rw [Qiu k hk hk2 m h1 h2, Option.bind_some]
 by_cases c : (trE m l p).2 = 0
 ·have hT := Tr.of c
  have hlen := hT.len
  simp only [if_pos c]
  rw [Quf k hk hT xs p.e1 hxl, Option.bind_some]
  unfold chE
  by_cases c1 : xs.length = l.length
  ·simp only [if_pos c1]
   cases hc : chL m p.e0 l xs with
   | none => rfl
   | some ps =>
     obtain ⟨g1, g2⟩ := Qjs hT.mnt hc
     dsimp only
     rw [if_pos rfl, show Zr k (ps, 0) k 0 p.e1 0 = _ from Qys k ps 0 g1 (by omega) ps.length k 0 0 p.e1 (by omega) (by omega) (Qek hT) (by decide) (by decide), Option.bind_some, List.drop_zero, Int.zero_add]
  ·simp only [if_neg c1]
   rfl
 ·simp only [if_neg c]
end Go.Proofs.Ytbgajdbpdhipiaa.Vg
end

section
set_option linter.unusedVariables false
set_option linter.unusedSimpArgs false
namespace Go.Proofs.Ytbgajdbpdhipiaa.Vg
open Go Go.Proofs.Ytbgajdbpdhipiaa.Ev Go.Proofs.Ytbgajdbpdhipiaa.Vv
abbrev MAXI : Int := 9223372036854775807
theorem Qw7 (x y z : Int) : z <= minI x y ↔ z <= x /\ z <= y := by unfold minI; split <;> omega
theorem Q06 {α : Type} (xs : List α) {i : Nat} (h : xs.length <= i) : xs.drop i = [] := List.drop_eq_nil_of_le h
theorem Qcy {xs : List Int} {i : Nat} (h : i < xs.length) : xs.getD i 0 ∈ xs := by
 rw [List.getD_eq_getElem?_getD, List.getElem?_eq_getElem h]; exact List.getElem_mem _
def hg (to : Int) : Int -> List Int -> List Int -> Int
 | acc, f :: fs, b :: bs => hg to (minI acc (b + cst f to)) fs bs
 | acc, _, _ => acc
def allB (to v : Int) : List Int -> List Int -> Bool
 | f :: fs, b :: bs => decide (v <= b + cst f to) && allB to v fs bs
 | _, _ => true
theorem Q25 (to v : Int) : ∀ (fs bs : List Int) (acc : Int), v <= hg to acc fs bs ↔ v <= acc /\ allB to v fs bs = true
 | [], bs, acc => by simp [hg, allB]
 | f :: fs, [], acc => by simp [hg, allB]
 | f :: fs, b :: bs, acc => by
   simp only [hg, allB]
   rw [Q25 to v fs bs, Qw7, Bool.and_eq_true, decide_eq_true_iff]
   constructor
   ·intro ⟨⟨a, b⟩, c⟩; exact ⟨a, b, c⟩
   ·intro ⟨a, b, c⟩; exact ⟨⟨a, b⟩, c⟩
theorem Qsx {to v f b : Int} : ∀ (fs bs : List Int), allB to v fs bs = true -> (f, b) ∈ fs.zip bs -> v <= b + cst f to
 | [], bs, _, hm => by simp at hm
 | g :: fs, [], _, hm => by simp at hm
 | g :: fs, c :: bs, ha, hm => by
   simp only [allB, Bool.and_eq_true, decide_eq_true_iff] at ha
   rw [List.zip_cons_cons, List.mem_cons] at hm
   rcases hm with hm | hm
   ·injection hm with e1 e2; subst e1; subst e2; exact ha.1
   ·exact Qsx fs bs ha.2 hm
theorem Qw8 (to : Int) (fs bs : List Int) (acc f b : Int) (h : (f, b) ∈ fs.zip bs) : hg to acc fs bs <= b + cst f to :=
 Qsx fs bs ((Q25 to (hg to acc fs bs) fs bs acc).1 (Int.le_refl _)).2 h
def rowB : List Int -> List Int -> Bool
 | h :: hs, v :: vs => decide (v <= h) && rowB hs vs
 | _, _ => true
def okP (m : Qc) (d : Int) : List Int -> List Int -> List Qa -> List (List Int) -> Bool
 | fs, bs, t :: l, r :: rs => rowB ((posL m t d).map fun to => hg to MAXI fs bs) r && okP m d (posL m t d) r l rs
 | _, _, _, _ => true
def shp (m : Qc) (d : Int) : List Qa -> List (List Int) -> Bool
 | t :: l, r :: rs => decide (r.length = (trn m (apA m t d)).length) && shp m d l rs
 | _, _ => true
def Qja (ps : List (List Int)) : Bool := ps.all fun r => r.all (inR (-1000000000000) 1000000000000)
def ptE (m : Qc) (d : Int) (l : List Qa) (ps : List (List Int)) : Int :=
 if ps.length = l.length then (if shp m d l ps = true then (if Qja ps = true then 0 else 2) else 10) else 10
theorem Qgy {m : Qc} {d : Int} {l : List Qa} {i : Nat} (h : i < l.length) : (l.map (stp m d)).getD i default = stp m d (l.getD i default) := by
 rw [List.getD_eq_getElem?_getD, List.getElem?_map, List.getD_eq_getElem?_getD, List.getElem?_eq_getElem h]; rfl
theorem Qel (m : Qc) (t : Qa) (d : Int) : (posL m t d).length = (trn m (apA m t d)).length := by unfold posL; rw [List.length_map]
theorem Qc8 {m : Qc} (hm : Mnt m) {t : Qa} {d : Int} : ∀ p ∈ posL m t d, near p := by
 intro p hp
 obtain ⟨x, hx, rfl⟩ := List.mem_map.1 hp
 exact Qsu hm hx
theorem Q07 (k : Nat) {m : Qc} {l : List Qa} {p : At2} (hlen : l.length <= 20) (b : Int) (ps : List (List Int)) (hp : ps.length = l.length) : ∀ (d fuel i : Nat), l.length = i + d -> d < fuel ->
 Qq k ⟨b, l.map (stp m p.e0)⟩ ps fuel (i : Int) = some (sumB (shp m p.e0 (l.drop i) (ps.drop i))) := by
 intro d
 induction d with
 | zero =>
   intro fuel i h hf
   obtain ⟨g, rfl⟩ : ∃ g, fuel = g + 1 := ⟨fuel - 1, by omega⟩
   rw [Qq.eq_2, if_neg (by simp; omega), List.drop_eq_nil_of_le (by omega)]; rfl
 | succ d ih =>
   intro fuel i h hf
   obtain ⟨g, rfl⟩ : ∃ g, fuel = g + 1 := ⟨fuel - 1, by omega⟩
   rw [Qq.eq_2, if_pos (by simp; omega), if_pos (by simp; omega), if_pos (by omega), Yl (by omega), ih g (i + 1) (by omega) (by omega), Je (y := l) (i := i) (by omega) default, Je (y := ps) (i := i) (by omega) default]
   have hs : ((l.map (stp m p.e0)).getD i default).turns = trn m (apA m (l.getD i default) p.e0) := by rw [Qgy (by omega)]; rfl
   simp only [Int.toNat_natCast, hs]
   simp only [shp]
   by_cases c : (ps.getD i default).length = (trn m (apA m (l.getD i default) p.e0)).length
   ·rw [if_pos (by omega), decide_eq_true c]; rfl
   ·rw [if_neg (by omega), decide_eq_false c]; rfl
theorem Q08 (k : Nat) (hk : 100 < k) (ps : List (List Int)) (hp : ps.length <= 20) (hr : ∀ r ∈ ps, r.length <= 50) : ∀ (d fuel i : Nat), ps.length = i + d -> d < fuel ->
 Qr k ps fuel (i : Int) = some (sumB (Qja (ps.drop i))) := by
 intro d
 induction d with
 | zero =>
   intro fuel i h hf
   obtain ⟨g, rfl⟩ : ∃ g, fuel = g + 1 := ⟨fuel - 1, by omega⟩
   rw [Qr.eq_2, if_neg (by omega), List.drop_eq_nil_of_le (by omega)]; rfl
 | succ d ih =>
   intro fuel i h hf
   obtain ⟨g, rfl⟩ : ∃ g, fuel = g + 1 := ⟨fuel - 1, by omega⟩
   have hri : (ps.getD i default).length <= 50 := hr _ (by rw [List.getD_eq_getElem?_getD, List.getElem?_eq_getElem (by omega)]; exact List.getElem_mem _)
   rw [Qr.eq_2, if_pos (by omega), if_pos (by omega), Yl (by omega), ih g (i + 1) (by omega) (by omega), Je (y := ps) (i := i) (by omega) default]
   simp only [Int.toNat_natCast]
   rw [Qi8 k _ _ (by decide) (by omega) (by omega), Option.bind_some]
   unfold Qja
   rw [List.all_cons]
   cases (ps.getD i default).all (inR (-1000000000000) 1000000000000) <;> rfl
theorem Qw9 (k : Nat) (hk : 100 < k) {m : Qc} {l : List Qa} {p : At2} (hlen : l.length <= 20) (b : Int) (ps : List (List Int)) (hr : ∀ r ∈ ps, r.length <= 50) : Xn k ⟨b, l.map (stp m p.e0)⟩ ps = some (ptE m p.e0 l ps) := by
 unfold Xn ptE
 by_cases c : ps.length = l.length
 ·rw [if_pos (by simp [c]), if_pos c, show Qq k ⟨b, l.map (stp m p.e0)⟩ ps k 0 = _ from Q07 k hlen b ps c l.length k 0 (by omega) (by omega), List.drop_zero, List.drop_zero, Option.bind_some]
  cases shp m p.e0 l ps with
  | false => rfl
  | true =>
    dsimp only [sumB]
    rw [show Qr k ps k 0 = _ from Q08 k hk ps (by omega) hr ps.length k 0 (by omega) (by omega), List.drop_zero, Option.bind_some, if_pos rfl]
    cases Qja ps <;> rfl
 ·rw [if_neg (by simp; omega), if_neg c]
theorem Qjv {p r : List Int} {a v : Int} {i : Nat} (h : p.length = i) : (p ++ a :: r).set i v = p ++ v :: r := by
 subst h
 rw [List.set_append_right _ _ (Nat.le_refl _), Nat.sub_self]; rfl
theorem Qsy {p r : List Int} {a : Int} {i : Nat} (h : p.length = i) : (p ++ a :: r).getD i 0 = a := by
 subst h
 rw [List.getD_eq_getElem?_getD, List.getElem?_append_right (Nat.le_refl _), Nat.sub_self]; rfl
theorem Q09 (k : Nat) (T : Zy) (ps : List (List Int)) (n : Nat) (hn : 0 < n /\ n <= 1000) (i : Nat) (fs bs : List Int) (to : Int) (hF : (T.stops.getD (n - 1) default).positions = fs) (hB : ps.getD (n - 1) default = bs) (hT : ((T.stops.getD n default).positions).getD i 0 = to)
 (hfb : fs.length = bs.length) (hbl : bs.length <= 50) (hf : ∀ f ∈ fs, near f) (hb : ∀ b ∈ bs, -1000000000000 <= b /\ b <= 1000000000000) (ht : near to) : ∀ (d fuel j : Nat) (pre rest : List Int) (acc : Int), bs.length = j + d -> d < fuel -> pre.length = i ->
 Zi k T (n : Int) ps (i : Int) fuel (pre ++ acc :: rest) (j : Int) = some (pre ++ hg to acc (fs.drop j) (bs.drop j) :: rest) := by
 have hw : w64 ((n : Int) - 1) = ((n - 1 : Nat) : Int) := by rw [Jd (by omega) (by omega)]; omega
 intro d
 induction d with
 | zero =>
   intro fuel j pre rest acc h hfu hp
   obtain ⟨g, rfl⟩ : ∃ g, fuel = g + 1 := ⟨fuel - 1, by omega⟩
   rw [Zi.eq_2, hw]
   simp only [Int.toNat_natCast, hB]
   rw [if_neg (by omega), Q06 (fs) (by omega)]
   simp [hg]
 | succ d ih =>
   intro fuel j pre rest acc h hfu hp
   obtain ⟨g, rfl⟩ : ∃ g, fuel = g + 1 := ⟨fuel - 1, by omega⟩
   have hfj : near (fs.getD j 0) := Qcb hf (by omega)
   have hbj := hb (bs.getD j 0) (Qcy (by omega))
   have hc := Qid hfj ht
   rw [Zi.eq_2, hw]
   simp only [Int.toNat_natCast, hB, hF, hT]
   rw [if_pos (by omega), if_pos (by omega), if_pos (by simp; omega), if_pos (by omega), Qfe k hfj.small ht.small, Option.bind_some, Jd (n := bs.getD j 0 + _) (by omega) (by omega), Qsy hp, Qjv hp, Yl (by omega), ih g (j + 1) pre rest _ (by omega) (by omega) hp, Je (y := fs) (i := j) (by omega) 0, Je (y := bs) (i := j) (by omega) 0]
   rfl
theorem Qxa (k : Nat) (hk : 100 < k) (T : Zy) (ps : List (List Int)) (n : Nat) (hn : 0 < n /\ n <= 1000) (fs bs tos : List Int) (hF : (T.stops.getD (n - 1) default).positions = fs) (hB : ps.getD (n - 1) default = bs) (hT : (T.stops.getD n default).positions = tos)
 (hfb : fs.length = bs.length) (hbl : bs.length <= 50) (hf : ∀ f ∈ fs, near f) (hb : ∀ b ∈ bs, -1000000000000 <= b /\ b <= 1000000000000) (ht : ∀ t ∈ tos, near t) (htl : tos.length <= 50) : ∀ (d fuel i : Nat) (pre : List Int), tos.length = i + d -> d < fuel -> pre.length = i ->
 Ze k T (n : Int) ps fuel (pre ++ List.replicate d 0) (i : Int) = some (pre ++ (tos.drop i).map fun to => hg to MAXI fs bs) := by
 intro d
 induction d with
 | zero =>
   intro fuel i pre h hfu hp
   obtain ⟨g, rfl⟩ : ∃ g, fuel = g + 1 := ⟨fuel - 1, by omega⟩
   rw [Ze.eq_2]
   simp only [Int.toNat_natCast, hT]
   rw [if_neg (by omega), List.drop_eq_nil_of_le (by omega)]; simp
 | succ d ih =>
   intro fuel i pre h hfu hp
   obtain ⟨g, rfl⟩ : ∃ g, fuel = g + 1 := ⟨fuel - 1, by omega⟩
   rw [Ze.eq_2]
   simp only [Int.toNat_natCast, hT]
   rw [if_pos (by omega), if_pos (by omega), if_pos (by simp; omega), List.replicate_succ, Qjv hp, show Zi k T (n : Int) ps (i : Int) k (pre ++ MAXI :: List.replicate d 0) 0 = _ from Q09 k T ps n hn i fs bs (tos.getD i 0) hF hB (by rw [hT]) hfb hbl hf hb (Qcb ht (by omega)) bs.length k 0 pre (List.replicate d 0) MAXI (by omega) (by omega) hp, Option.bind_some, List.drop_zero, List.drop_zero, Yl (by omega), show pre ++ hg (tos.getD i 0) MAXI fs bs :: List.replicate d 0 = (pre ++ [hg (tos.getD i 0) MAXI fs bs]) ++ List.replicate d 0 by simp, ih g (i + 1) _ (by omega) (by omega) (by simp; omega), Je (y := tos) (i := i) (by omega) 0]
   simp
theorem Qyv (k : Nat) (hk : 100 < k) (T : Zy) (i : Nat) (to : Int) (hT : ((T.stops.getD 0 default).positions).getD i 0 = to) (hb : near T.begin) (ht : near to) (pre rest : List Int) (acc : Int) (hp : pre.length = i) :
 Zt k T 0 (i : Int) k (pre ++ acc :: rest) 0 = some (pre ++ hg to acc [T.begin] [0] :: rest) := by
 obtain ⟨g, rfl⟩ : ∃ g, k = g + 2 := ⟨k - 2, by omega⟩
 have hc := Qid hb ht
 rw [Zt.eq_2, if_pos (by decide), if_pos (by decide), if_pos (by decide), if_pos (by simp; omega), if_pos (by simp)]
 simp only [Int.toNat_natCast, Int.toNat_zero, hT]
 show ((Xo (g + 2) T.begin to).bind _) = _
 rw [Qfe (g + 2) hb.small ht.small, Option.bind_some, Qsy hp, Qjv hp, show w64 (([0] : List Int).getD 0 0 + cst T.begin to) = 0 + cst T.begin to from Jd (by show _ <= 0 + _; omega) (by show 0 + _ <= _; omega), show w64 (0 + 1) = 1 from by decide, Zt.eq_2, if_neg (by decide)]
 rfl
theorem Qsz (k : Nat) (hk : 100 < k) (T : Zy) (tos : List Int) (hT : (T.stops.getD 0 default).positions = tos) (hb : near T.begin) (ht : ∀ t ∈ tos, near t) (htl : tos.length <= 50) : ∀ (d fuel i : Nat) (pre : List Int), tos.length = i + d -> d < fuel -> pre.length = i ->
 Zf k T 0 fuel (pre ++ List.replicate d 0) (i : Int) = some (pre ++ (tos.drop i).map fun to => hg to MAXI [T.begin] [0]) := by
 intro d
 induction d with
 | zero =>
   intro fuel i pre h hfu hp
   obtain ⟨g, rfl⟩ : ∃ g, fuel = g + 1 := ⟨fuel - 1, by omega⟩
   rw [Zf.eq_2]
   simp only [Int.toNat_natCast, Int.toNat_zero, hT]
   rw [if_neg (by omega), List.drop_eq_nil_of_le (by omega)]; simp
 | succ d ih =>
   intro fuel i pre h hfu hp
   obtain ⟨g, rfl⟩ : ∃ g, fuel = g + 1 := ⟨fuel - 1, by omega⟩
   rw [Zf.eq_2]
   simp only [Int.toNat_natCast, Int.toNat_zero, hT]
   rw [if_pos (by omega), if_pos (by omega), if_pos (by simp; omega), List.replicate_succ, Qjv hp, Qyv k hk T i (tos.getD i 0) (by rw [hT]) hb (Qcb ht (by omega)) pre (List.replicate d 0) MAXI hp, Option.bind_some, Yl (by omega), show pre ++ hg (tos.getD i 0) MAXI [T.begin] [0] :: List.replicate d 0 = (pre ++ [hg (tos.getD i 0) MAXI [T.begin] [0]]) ++ List.replicate d 0 by simp, ih g (i + 1) _ (by omega) (by omega) (by simp; omega), Je (y := tos) (i := i) (by omega) 0]
   simp
def Qd7 (m : Qc) (p : At2) (l : List Qa) (n : Nat) : List Int := if n = 0 then [p.e1] else posL m (l.getD (n - 1) default) p.e0
def Qcd (ps : List (List Int)) (n : Nat) : List Int := if n = 0 then [0] else ps.getD (n - 1) default
theorem Qmi (m : Qc) (p : At2) (l : List Qa) (n : Nat) : Qd7 m p l (n + 1) = posL m (l.getD n default) p.e0 := by unfold Qd7; rw [if_neg (by omega)]; rfl
theorem Qmj (ps : List (List Int)) (n : Nat) : Qcd ps (n + 1) = ps.getD n default := by unfold Qcd; rw [if_neg (by omega)]; rfl
theorem Qxb {m : Qc} {d : Int} : ∀ {l : List Qa} {ps : List (List Int)}, shp m d l ps = true -> ps.length = l.length -> ∀ i, i < l.length -> (ps.getD i default).length = (posL m (l.getD i default) d).length
 | [], _, _, _, i, h => by simp at h
 | t :: l, [], _, hl, i, h => by simp at hl
 | t :: l, r :: rs, hs, hl, i, h => by
   simp only [shp, Bool.and_eq_true, decide_eq_true_iff] at hs
   cases i with
   | zero => rw [Qel]; exact hs.1
   | succ i => exact Qxb hs.2 (by simpa using hl) i (by simpa using h)
theorem Qxc {ps : List (List Int)} (h : Qja ps = true) {i : Nat} (hi : i < ps.length) : ∀ b ∈ ps.getD i default, -1000000000000 <= b /\ b <= 1000000000000 := by
 intro b hb
 unfold Qja at h
 have h1 := List.all_eq_true.1 h _ (show ps.getD i default ∈ ps by rw [List.getD_eq_getElem?_getD, List.getElem?_eq_getElem hi]; exact List.getElem_mem _)
 exact Qhq.1 (List.all_eq_true.1 h1 b hb)
structure Pt (m : Qc) (l : List Qa) (p : At2) (ps : List (List Int)) : Prop where
 tr : Tr m l p
 len : ps.length = l.length
 shape : shp m p.e0 l ps = true
 small : Qja ps = true
theorem Pt.row {m : Qc} {l : List Qa} {p : At2} {ps : List (List Int)} (h : Pt m l p ps) {i : Nat} (hi : i < l.length) : (ps.getD i default).length = (posL m (l.getD i default) p.e0).length /\ (posL m (l.getD i default) p.e0).length <= 43 := by
 have := Qxb h.shape h.len i hi
 have h2 := Qel m (l.getD i default) p.e0
 have h3 := Qp7 m (apA m (l.getD i default) p.e0)
 omega
theorem Pt.prev {m : Qc} {l : List Qa} {p : At2} {ps : List (List Int)} (h : Pt m l p ps) {n : Nat} (hn : n < l.length) : (Qd7 m p l n).length = (Qcd ps n).length /\ (Qcd ps n).length <= 50 /\ (∀ f ∈ Qd7 m p l n, near f) /\ ∀ b ∈ Qcd ps n, -1000000000000 <= b /\ b <= 1000000000000 := by
 unfold Qd7 Qcd
 by_cases c : n = 0
 ·rw [if_pos c, if_pos c]
  refine ⟨rfl, by decide, fun f hf => ?_, fun b hb => ?_⟩
  ·rw [List.mem_singleton] at hf; subst hf; exact Qek h.tr
  ·rw [List.mem_singleton] at hb; subst hb; decide
 ·rw [if_neg c, if_neg c]
  have := h.row (i := n - 1) (by omega)
  exact ⟨by omega, by omega, Qc8 h.tr.mnt, Qxc h.small (by rw [h.len]; omega)⟩
theorem Qug (k : Nat) (hk : 100 < k) {m : Qc} {l : List Qa} {p : At2} {ps : List (List Int)} (h : Pt m l p ps) {n : Nat} (hn : n < l.length) :
 Xm k ⟨p.e1, l.map (stp m p.e0)⟩ (n : Int) ps = some ((posL m (l.getD n default) p.e0).map fun to => hg to MAXI (Qd7 m p l n) (Qcd ps n)) := by
 have hlen := h.tr.len
 have hpl := h.len
 have hrow := h.row hn
 obtain ⟨g1, g2, g3, g4⟩ := h.prev hn
 have hto := Qc8 h.tr.mnt (t := l.getD n default) (d := p.e0)
 unfold Xm
 have hs : ((l.map (stp m p.e0)).getD n default).positions = posL m (l.getD n default) p.e0 := by rw [Qgy hn]; rfl
 by_cases c : n = 0
 ·subst c
  rw [if_neg (by decide), if_pos (by simp; omega)]
  simp only [Int.toNat_natCast, hs]
  rw [if_pos (by omega)]
  have := Qsz k hk ⟨p.e1, l.map (stp m p.e0)⟩ (posL m (l.getD 0 default) p.e0) hs (Qek h.tr) hto (by omega) (posL m (l.getD 0 default) p.e0).length k 0 [] (by omega) (by omega) rfl
  rw [List.nil_append, List.nil_append, List.drop_zero] at this
  rw [show Zf k ⟨p.e1, l.map (stp m p.e0)⟩ ((0 : Nat) : Int) k (List.replicate (posL m (l.getD 0 default) p.e0).length 0) 0 = _ from this, Option.bind_some]
  rfl
 ·have hw : w64 ((n : Int) - 1) = ((n - 1 : Nat) : Int) := by rw [Jd (by omega) (by omega)]; omega
  rw [if_pos (by omega), hw, if_pos (by simp; omega), if_pos (by omega), if_pos (by simp; omega)]
  simp only [Int.toNat_natCast, hs]
  rw [if_pos (by omega)]
  have hF : ((l.map (stp m p.e0)).getD (n - 1) default).positions = Qd7 m p l n := by rw [Qgy (by omega)]; unfold Qd7; rw [if_neg c]; rfl
  have hB : ps.getD (n - 1) default = Qcd ps n := by unfold Qcd; rw [if_neg c]
  have := Qxa k hk ⟨p.e1, l.map (stp m p.e0)⟩ ps n (by omega) (Qd7 m p l n) (Qcd ps n) (posL m (l.getD n default) p.e0) hF hB hs g1 g2 g3 g4 hto (by omega) (posL m (l.getD n default) p.e0).length k 0 [] (by omega) (by omega) rfl
  rw [List.nil_append, List.nil_append, List.drop_zero] at this
  rw [show Ze k ⟨p.e1, l.map (stp m p.e0)⟩ (n : Int) ps k (List.replicate (posL m (l.getD n default) p.e0).length 0) 0 = _ from this, Option.bind_some]
theorem Q26 (k : Nat) (a0 : Qc) (a2 : At2) (ps : List (List Int)) (r : Zy × Int × Int) (n : Nat) (hn : n < ps.length) (his : List Int) (hl : his.length = (ps.getD n default).length) (hl2 : his.length <= 1000) : ∀ (d fuel i : Nat), his.length = i + d -> d < fuel ->
 Zw k a0 a2 ps r (n : Int) his fuel (i : Int) = some (sumB (rowB (his.drop i) ((ps.getD n default).drop i))) := by
 intro d
 induction d with
 | zero =>
   intro fuel i h hf
   obtain ⟨g, rfl⟩ : ∃ g, fuel = g + 1 := ⟨fuel - 1, by omega⟩
   rw [Zw.eq_2, if_neg (by omega), Q06 (his) (by omega)]; rfl
 | succ d ih =>
   intro fuel i h hf
   obtain ⟨g, rfl⟩ : ∃ g, fuel = g + 1 := ⟨fuel - 1, by omega⟩
   rw [Zw.eq_2, if_pos (by omega), if_pos (by omega), if_pos (by omega), Yl (by omega), ih g (i + 1) (by omega) (by omega), Je (y := his) (i := i) (by omega) 0, Je (y := ps.getD n default) (i := i) (by omega) 0]
   simp only [Int.toNat_natCast]
   rw [if_pos (by omega)]
   simp only [rowB]
   by_cases c : his.getD i 0 < (ps.getD n default).getD i 0
   ·rw [if_pos c, decide_eq_false (by omega)]; rfl
   ·rw [if_neg c, decide_eq_true (by omega)]; rfl
theorem Q1b (k : Nat) (hk : 100 < k) {m : Qc} {l : List Qa} {p : At2} {ps : List (List Int)} (h : Pt m l p ps) (e1 e2 : Int) : ∀ (d fuel n : Nat), l.length = n + d -> d < fuel ->
 Zx k m p ps (⟨p.e1, l.map (stp m p.e0)⟩, e1, e2) fuel (n : Int) = some (sumB (okP m p.e0 (Qd7 m p l n) (Qcd ps n) (l.drop n) (ps.drop n))) := by
 have hlen := h.tr.len
 have hpl := h.len
 intro d
 induction d with
 | zero =>
   intro fuel n hh hf
   obtain ⟨g, rfl⟩ : ∃ g, fuel = g + 1 := ⟨fuel - 1, by omega⟩
   rw [Zx.eq_2, if_neg (by simp; omega), Q06 (l) (by omega)]
   simp [okP, sumB]
 | succ d ih =>
   intro fuel n hh hf
   obtain ⟨g, rfl⟩ : ∃ g, fuel = g + 1 := ⟨fuel - 1, by omega⟩
   have hrow := h.row (i := n) (by omega)
   rw [Zx.eq_2, if_pos (by simp; omega)]
   dsimp only
   rw [Qug k hk h (by omega), Option.bind_some, show Zw k m p ps (⟨p.e1, l.map (stp m p.e0)⟩, e1, e2) (n : Int) ((posL m (l.getD n default) p.e0).map fun to => hg to MAXI (Qd7 m p l n) (Qcd ps n)) k 0 = _ from Q26 k m p ps _ n (by omega) _ (by rw [List.length_map]; omega) (by rw [List.length_map]; omega) (posL m (l.getD n default) p.e0).length k 0 (by rw [List.length_map]; omega) (by omega), Option.bind_some, List.drop_zero, List.drop_zero, Yl (by omega), ih g (n + 1) (by omega) (by omega), Je (y := l) (i := n) (by omega) default, Je (y := ps) (i := n) (by omega) default, Qmi, Qmj]
   simp only [okP]
   cases rowB ((posL m (l.getD n default) p.e0).map fun to => hg to MAXI (Qd7 m p l n) (Qcd ps n)) (ps.getD n default) <;> rfl
def mnF (x : Int) (l : List Int) : Int := l.foldl minI x
def bd (ps : List (List Int)) : Int := if ps.length = 0 then 0 else mnF ((ps.getD (ps.length - 1) default).getD 0 0) ((ps.getD (ps.length - 1) default).drop 1)
theorem Qxd : ∀ (l : List Int) (x : Int), mnF x l <= x /\ ∀ v ∈ l, mnF x l <= v
 | [], x => ⟨Int.le_refl _, fun v h => by cases h⟩
 | a :: l, x => by
   obtain ⟨h1, h2⟩ := Qxd l (minI x a)
   have h3 := (Qw7 x a (minI x a)).1 (Int.le_refl _)
   have e : mnF x (a :: l) = mnF (minI x a) l := rfl
   rw [e]
   refine ⟨by omega, fun v hv => ?_⟩
   rcases List.mem_cons.1 hv with rfl | hv
   ·omega
   ·exact h2 v hv
theorem Q3s (k : Nat) (xs : List Int) (hl : xs.length <= 1000) : ∀ (d fuel i : Nat) (x : Int), xs.length = i + d -> d < fuel ->
 Zj k xs fuel x (i : Int) = some (mnF x (xs.drop i)) := by
 intro d
 induction d with
 | zero =>
   intro fuel i x h hf
   obtain ⟨g, rfl⟩ : ∃ g, fuel = g + 1 := ⟨fuel - 1, by omega⟩
   rw [Zj.eq_2, if_neg (by omega), List.drop_eq_nil_of_le (by omega)]; rfl
 | succ d ih =>
   intro fuel i x h hf
   obtain ⟨g, rfl⟩ : ∃ g, fuel = g + 1 := ⟨fuel - 1, by omega⟩
   rw [Zj.eq_2, if_pos (by omega), if_pos (by omega), Yl (by omega), ih g (i + 1) _ (by omega) (by omega), Je (y := xs) (i := i) (by omega) 0]
   simp only [Int.toNat_natCast]; rfl
theorem Qlb (k : Nat) (hk : 100 < k) {m : Qc} {l : List Qa} {p : At2} {ps : List (List Int)} (h : Pt m l p ps) (hne : ∀ i, i < l.length -> 0 < (trn m (apA m (l.getD i default) p.e0)).length) : Qay k ps = some (bd ps) := by
 unfold Qay bd W9
 have hlen := h.tr.len
 have hpl := h.len
 by_cases c : ps.length = 0
 ·rw [if_pos (by omega), if_pos c]
 ·have hr := h.row (i := ps.length - 1) (by omega)
  have hq := Qel m (l.getD (ps.length - 1) default) p.e0
  have hz := hne (ps.length - 1) (by omega)
  rw [if_neg (by omega), if_neg c, Jd (by omega) (by omega), if_pos (by omega), show ((ps.length : Int) - 1).toNat = ps.length - 1 by omega, if_neg (by omega), if_pos (by omega)]
  simp only [Int.toNat_zero]
  rw [show Zj k (ps.getD (ps.length - 1) default) k ((ps.getD (ps.length - 1) default).getD 0 0) 1 = _ from Q3s k _ (by omega) ((ps.getD (ps.length - 1) default).length - 1) k 1 _ (by omega) (by omega)]
  rfl
def clE (m : Qc) (l : List Qa) (p : At2) (ps : List (List Int)) : Int × Int := if ptE m p.e0 l ps = 0 then (if okP m p.e0 [p.e1] [0] l ps = true then (bd ps, 0) else (0, 22)) else (0, ptE m p.e0 l ps)
theorem Pt.of {m : Qc} {l : List Qa} {p : At2} {ps : List (List Int)} (h : Tr m l p) (hp : ptE m p.e0 l ps = 0) : Pt m l p ps := by
 unfold ptE at hp
 split at hp
 ·split at hp
  ·split at hp
   ·exact ⟨h, ‹_›, ‹_›, ‹_›⟩
   ·cases hp
  ·cases hp
 ·cases hp
theorem Qif {m : Qc} {l : List Qa} {p : At2} (h : Tr m l p) : ∀ i, i < l.length -> 0 < (trn m (apA m (l.getD i default) p.e0)).length := by
 intro i hi
 have := (h.tgt i hi).2
 unfold stpE at this
 split at this
 ·split at this
  ·cases this
  ·omega
 ·cases this
theorem Qqm (k : Nat) (hk : 100 < k) (hk2 : k <= 100000000000000000000) (m : Qc) (h1 : m.Refraction.length < k) (h2 : m.Drift.length < k) (l : List Qa) (p : At2) (ps : List (List Int)) (hr : ∀ r ∈ ps, r.length <= 50) :
 Qac k m l p ps = some (if (trE m l p).2 = 0 then clE m l p ps else (0, (trE m l p).2)) := by
 unfold Qac
 rw [Qiu k hk hk2 m h1 h2, Option.bind_some]
 by_cases c : (trE m l p).2 = 0
 ·have hT := Tr.of c
  have hlen := hT.len
  simp only [if_pos c]
  rw [Qw9 k hk hlen p.e1 ps hr, Option.bind_some]
  unfold clE
  by_cases c1 : ptE m p.e0 l ps = 0
  ·have hP := Pt.of hT c1
   rw [if_pos c1, if_pos c1, show Zx k m p ps (⟨p.e1, l.map (stp m p.e0)⟩, trE m l p) k 0 = _ from Q1b k hk hP (trE m l p).1 (trE m l p).2 l.length k 0 (by omega) (by omega), Option.bind_some, List.drop_zero, List.drop_zero]
   rw [show Qd7 m p l 0 = [p.e1] from rfl, show Qcd ps 0 = [0] from rfl]
   cases okP m p.e0 [p.e1] [0] l ps with
   | false => rfl
   | true =>
     dsimp only [sumB]
     rw [Qlb k hk hP (Qif hT), Option.bind_some, if_pos rfl]
  ·rw [if_neg c1, if_neg c1]
 ·simp only [if_neg c]
theorem Qs0 {m : Qc} {t : Qa} {d : Int} {i : Nat} (h : i < (trn m (apA m t d)).length) : (posL m t d).getD i 0 = pos m t d ((trn m (apA m t d)).getD i 0) := by
 unfold posL
 rw [List.getD_eq_getElem?_getD, List.getElem?_map, List.getElem?_eq_getElem h, List.getD_eq_getElem?_getD, List.getElem?_eq_getElem h]; rfl
theorem Qzr : ∀ (hs vs : List Int) (i : Nat), rowB hs vs = true -> i < hs.length -> i < vs.length -> vs.getD i 0 <= hs.getD i 0
 | [], vs, i, _, h, _ => by simp at h
 | h :: hs, [], i, _, _, h2 => by simp at h2
 | h :: hs, v :: vs, i, hb, h1, h2 => by
   simp only [rowB, Bool.and_eq_true, decide_eq_true_iff] at hb
   cases i with
   | zero => exact hb.1
   | succ i => exact Qzr hs vs i hb.2 (by simpa using h1) (by simpa using h2)
theorem Qra {fs bs : List Int} {i : Nat} (h1 : i < fs.length) (h2 : i < bs.length) : (fs.getD i 0, bs.getD i 0) ∈ fs.zip bs := by
 rw [List.mem_iff_getElem?]
 refine ⟨i, ?_⟩
 rw [List.getElem?_zip_eq_some]
 constructor
 ·show fs[i]? = some (fs.getD i 0)
  rw [List.getD_eq_getElem?_getD, List.getElem?_eq_getElem h1]; rfl
 ·show bs[i]? = some (bs.getD i 0)
  rw [List.getD_eq_getElem?_getD, List.getElem?_eq_getElem h2]; rfl
theorem dual {m : Qc} {d : Int} : ∀ (l : List Qa) (ps : List (List Int)) (xs qs fs bs : List Int) (f b : Int), l ≠ [] -> ps.length = l.length -> shp m d l ps = true -> okP m d fs bs l ps = true -> (f, b) ∈ fs.zip bs -> chL m d l xs = some qs ->
 ∃ v ∈ ps.getD (ps.length - 1) default, v <= b + sumC f qs
 | [], _, _, _, _, _, _, _, h, _, _, _, _, _ => absurd rfl h
 | t :: l, [], _, _, _, _, _, _, _, h, _, _, _, _ => by simp at h
 | t :: l, r :: rs, [], qs, fs, bs, f, b, _, _, _, _, _, hc => by simp [chL] at hc
 | t :: l, r :: rs, x :: xs, qs, fs, bs, f, b, _, hlen, hs, ho, hz, hc => by
   simp only [shp, Bool.and_eq_true, decide_eq_true_iff] at hs
   simp only [okP, Bool.and_eq_true] at ho
   simp only [chL] at hc
   split at hc
   case isFalse => cases hc
   rename_i hx
   cases hq : chL m d l xs with
   | none => rw [hq] at hc; cases hc
   | some qs' =>
     rw [hq] at hc
     simp only [Option.map_some, Option.some.injEq] at hc
     subst hc
     obtain ⟨i, hi, hxi⟩ := List.mem_iff_getElem.1 hx
     have hxi' : (trn m (apA m t d)).getD i 0 = x := by rw [List.getD_eq_getElem?_getD, List.getElem?_eq_getElem hi]; exact hxi
     have hpi : (posL m t d).getD i 0 = pos m t d x := by rw [Qs0 hi, hxi']
     have hpl := Qel m t d
     have hv := Qzr _ r i ho.1 (by rw [List.length_map]; omega) (by omega)
     rw [show ((posL m t d).map fun to => hg to MAXI fs bs).getD i 0 = hg (pos m t d x) MAXI fs bs by
      rw [List.getD_eq_getElem?_getD, List.getElem?_map, List.getElem?_eq_getElem (by omega)]
      rw [List.getD_eq_getElem?_getD, List.getElem?_eq_getElem (by omega)] at hpi
      show hg ((posL m t d)[i]) MAXI fs bs = _
      rw [show (posL m t d)[i] = pos m t d x from hpi]] at hv
     have hg1 := Qw8 (pos m t d x) fs bs MAXI f b hz
     by_cases c : l = []
     ·subst c
      have : rs = [] := by cases rs with | nil => rfl | cons a b => simp at hlen
      subst this
      simp only [chL, Option.some.injEq] at hq
      subst hq
      refine ⟨r.getD i 0, show r.getD i 0 ∈ r from Qcy (by omega), ?_⟩
      simp only [sumC]; omega
     ·have hl2 : rs.length = l.length := by simpa using hlen
      obtain ⟨v, h1, h2⟩ := dual l rs xs qs' (posL m t d) r (pos m t d x) (r.getD i 0) c hl2 hs.2 ho.2 (by rw [<- hpi]; exact Qra (by omega) (by omega)) hq
      have hne : 0 < rs.length := by rw [hl2]; exact List.length_pos_iff.2 c
      refine ⟨v, ?_, ?_⟩
      ·rw [List.length_cons, show rs.length + 1 - 1 = (rs.length - 1) + 1 by omega]; exact h1
      ·simp only [sumC]; omega
theorem Qx6 {m : Qc} {l : List Qa} {p : At2} {xs : List Int} {ps : List (List Int)} (h1 : (chE m l p xs).2 = 0) (h2 : (clE m l p ps).2 = 0) : (clE m l p ps).1 <= (chE m l p xs).1 := by
 unfold chE at h1 ⊢
 unfold clE at h2 ⊢
 split at h1
 case isFalse => cases h1
 rename_i hx
 cases hc : chL m p.e0 l xs with
 | none => rw [hc] at h1; cases h1
 | some qs =>
   rw [if_pos hx]
   split at h2
   case isFalse hn => exact absurd h2 hn
   rename_i hp
   split at h2
   case isFalse => cases h2
   rename_i ho
   rw [if_pos hp, if_pos ho]
   unfold ptE at hp
   split at hp
   case isFalse => cases hp
   rename_i hlen
   split at hp
   case isFalse => cases hp
   rename_i hs
   show bd ps <= sumC p.e1 qs
   unfold bd
   by_cases c : ps.length = 0
   ·rw [if_pos c]
    have : l = [] := List.length_eq_zero_iff.1 (by omega)
    subst this
    simp only [chL, Option.some.injEq] at hc
    subst hc
    exact Int.le_refl _
   ·rw [if_neg c]
    obtain ⟨v, g1, g2⟩ := dual l ps xs qs [p.e1] [0] p.e1 0 (fun e => c (by rw [hlen, e]; rfl)) hlen hs ho (by simp) hc
    have hle : mnF ((ps.getD (ps.length - 1) default).getD 0 0) ((ps.getD (ps.length - 1) default).drop 1) <= v := by
     obtain ⟨k1, k2⟩ := Qxd ((ps.getD (ps.length - 1) default).drop 1) ((ps.getD (ps.length - 1) default).getD 0 0)
     generalize ps.getD (ps.length - 1) default = r at g1 k1 k2
     cases r with
     | nil => cases g1
     | cons a r =>
       rcases List.mem_cons.1 g1 with rfl | g1
       ·exact k1
       ·exact k2 v g1
    omega
theorem Qx5 (k : Nat) (xs : List Int) (h : xs.length <= 1000) : Jl k xs = some xs := by
 unfold Jl
 rw [if_pos (by simp; omega)]; rfl
end Go.Proofs.Ytbgajdbpdhipiaa.Vg
end

section
set_option linter.unusedVariables false
set_option linter.unusedSimpArgs false
namespace Go.Proofs.Ytbgajdbpdhipiaa.Vg
open Go Go.Proofs.Ytbgajdbpdhipiaa.Ev Go.Proofs.Ytbgajdbpdhipiaa.Vv
def potR (m : Qc) (d : Int) : List Int -> List Int -> List Qa -> List (List Int)
 | _, _, [] => []
 | fs, bs, t :: l => ((posL m t d).map fun to => hg to MAXI fs bs) :: potR m d (posL m t d) ((posL m t d).map fun to => hg to MAXI fs bs) l
theorem Qs6 (m : Qc) (d : Int) : ∀ (l : List Qa) (fs bs : List Int), (potR m d fs bs l).length = l.length
 | [], _, _ => rfl
 | t :: l, fs, bs => by simp only [potR, List.length_cons]; rw [Qs6 m d l]
theorem Qs7 (m : Qc) (d : Int) : ∀ (l : List Qa) (fs bs : List Int), shp m d l (potR m d fs bs l) = true
 | [], _, _ => rfl
 | t :: l, fs, bs => by
   simp only [potR, shp, Bool.and_eq_true, decide_eq_true_iff]
   exact ⟨by rw [List.length_map, Qel], Qs7 m d l _ _⟩
theorem Qpx : ∀ r : List Int, rowB r r = true
 | [] => rfl
 | a :: r => by simp only [rowB, Bool.and_eq_true, decide_eq_true_iff]; exact ⟨Int.le_refl _, Qpx r⟩
theorem Qxg (m : Qc) (d : Int) : ∀ (l : List Qa) (fs bs : List Int), okP m d fs bs l (potR m d fs bs l) = true
 | [], fs, bs => by simp [potR, okP]
 | t :: l, fs, bs => by
   simp only [potR, okP, Bool.and_eq_true]
   exact ⟨Qpx _, Qxg m d l _ _⟩
theorem Qs8 (m : Qc) (d : Int) : ∀ (l : List Qa) (fs bs : List Int) (n : Nat), n < l.length -> (potR m d fs bs l).getD n default =
 (posL m (l.getD n default) d).map fun to => hg to MAXI (if n = 0 then fs else posL m (l.getD (n - 1) default) d) (if n = 0 then bs else (potR m d fs bs l).getD (n - 1) default)
 | [], fs, bs, n, h => by simp at h
 | t :: l, fs, bs, 0, h => rfl
 | t :: l, fs, bs, n + 1, h => by
   have ih := Qs8 m d l (posL m t d) ((posL m t d).map fun to => hg to MAXI fs bs) n (by simpa using h)
   rw [show (potR m d fs bs (t :: l)).getD (n + 1) default = (potR m d (posL m t d) ((posL m t d).map fun to => hg to MAXI fs bs) l).getD n default from rfl, ih]
   simp only [if_neg (show ¬(n + 1 = 0) by omega), Nat.add_sub_cancel]
   cases n with
   | zero => rfl
   | succ n =>
     simp only [if_neg (show ¬(n + 1 = 0) by omega), Nat.add_sub_cancel]
     rfl
theorem Qzt (to : Int) : ∀ (fs bs : List Int) (acc : Int), hg to acc fs bs = acc \/ ∃ f b, (f, b) ∈ fs.zip bs /\ hg to acc fs bs = b + cst f to
 | [], bs, acc => .inl (by simp [hg])
 | f :: fs, [], acc => .inl (by simp [hg])
 | f :: fs, b :: bs, acc => by
   simp only [hg]
   rcases Qzt to fs bs (minI acc (b + cst f to)) with h | ⟨f', b', h1, h2⟩
   ·have e : minI acc (b + cst f to) = acc \/ minI acc (b + cst f to) = b + cst f to := by unfold minI; split <;> simp
    rcases e with e | e
    ·left; rw [h, e]
    ·right; exact ⟨f, b, by simp, by rw [h, e]⟩
   ·right; exact ⟨f', b', by simp [h1], h2⟩
theorem Q3i {fs bs : List Int} {f b : Int} (h : (f, b) ∈ fs.zip bs) : ∃ i, i < fs.length /\ i < bs.length /\ f = fs.getD i 0 /\ b = bs.getD i 0 := by
 obtain ⟨i, hi, he⟩ := List.mem_iff_getElem.1 h
 rw [List.length_zip] at hi
 rw [List.getElem_zip] at he
 injection he with e1 e2
 exact ⟨i, by omega, by omega, by rw [List.getD_eq_getElem?_getD, List.getElem?_eq_getElem (by omega)]; exact e1.symm, by rw [List.getD_eq_getElem?_getD, List.getElem?_eq_getElem (by omega)]; exact e2.symm⟩
theorem Q3j {to B : Int} (ht : near to) {fs bs : List Int} (hl : fs.length = bs.length) (hne : 0 < fs.length) (hf : ∀ f ∈ fs, near f) (hb : ∀ b ∈ bs, 0 <= b /\ b <= B) (hB : B <= 1000000000000) :
 (∃ i, i < fs.length /\ hg to MAXI fs bs = bs.getD i 0 + cst (fs.getD i 0) to) /\ 0 <= hg to MAXI fs bs /\ hg to MAXI fs bs <= B + 11000000000 := by
 have h0 := Qw8 to fs bs MAXI _ _ (Qra (fs := fs) (bs := bs) (i := 0) hne (by omega))
 have c0 := Qid (Qcb hf hne) ht
 have b0 := hb _ (Qcy (xs := bs) (i := 0) (by omega))
 rcases Qzt to fs bs MAXI with h | ⟨f, b, h1, h2⟩
 ·exfalso; rw [h] at h0; unfold MAXI at h0; omega
 ·obtain ⟨i, i1, i2, rfl, rfl⟩ := Q3i h1
  have c1 := Qid (Qcb hf i1) ht
  have b1 := hb _ (Qcy (xs := bs) i2)
  exact ⟨⟨i, i1, h2⟩, by omega, by omega⟩
theorem Qmn {m : Qc} (hm : Mnt m) (d : Int) : ∀ (l : List Qa) (fs bs : List Int) (B : Int), (∀ t ∈ l, 0 < (posL m t d).length) -> fs.length = bs.length -> 0 < fs.length -> (∀ f ∈ fs, near f) -> (∀ b ∈ bs, 0 <= b /\ b <= B) -> B + 11000000000 * l.length <= 1000000000000 ->
 ∀ r ∈ potR m d fs bs l, ∀ b ∈ r, 0 <= b /\ b <= 1000000000000
 | [], fs, bs, B, _, _, _, _, _, _, r, hr => by simp [potR] at hr
 | t :: l, fs, bs, B, hp, hl, hne, hf, hb, hB, r, hr => by
   have hrow : ∀ b ∈ (posL m t d).map fun to => hg to MAXI fs bs, 0 <= b /\ b <= B + 11000000000 := fun b hbm => by
    obtain ⟨to, hto, rfl⟩ := List.mem_map.1 hbm
    exact (Q3j (Qc8 hm to hto) hl hne hf hb (by simp only [List.length_cons] at hB; omega)).2
   simp only [potR, List.mem_cons] at hr
   simp only [List.length_cons] at hB
   rcases hr with rfl | hr
   ·intro b hbm
    have := hrow b hbm
    omega
   ·exact Qmn hm d l _ _ (B + 11000000000) (fun t' h => hp t' (by simp [h])) (by rw [List.length_map]) (hp t (by simp)) (Qc8 hm) hrow (by omega) r hr
def pots (m : Qc) (l : List Qa) (p : At2) : List (List Int) := potR m p.e0 [p.e1] [0] l
theorem Qy0 {m : Qc} {l : List Qa} {p : At2} (h : Tr m l p) : ∀ t ∈ l, 0 < (posL m t p.e0).length := fun t ht => by
 obtain ⟨i, hi, rfl⟩ := List.mem_iff_getElem.1 ht
 have := Qif h i hi
 rw [List.getD_eq_getElem?_getD, List.getElem?_eq_getElem hi] at this
 rw [Qel]; exact this
theorem Qxh {m : Qc} {l : List Qa} {p : At2} (h : Tr m l p) : ∀ r ∈ pots m l p, ∀ b ∈ r, 0 <= b /\ b <= 1000000000000 :=
 Qmn h.mnt p.e0 l [p.e1] [0] 0 (Qy0 h) rfl (by simp) (fun f hf => by rw [List.mem_singleton] at hf; subst hf; exact Qek h) (fun b hb => by rw [List.mem_singleton] at hb; subst hb; decide) (by have := h.len; omega)
theorem Qlh {m : Qc} {l : List Qa} {p : At2} (h : Tr m l p) : Pt m l p (pots m l p) := by
 refine ⟨h, Qs6 _ _ _ _ _, Qs7 _ _ _ _ _, ?_⟩
 unfold Qja
 refine List.all_eq_true.2 fun r hr => List.all_eq_true.2 fun b hb => Qhq.2 ?_
 have := Qxh h r hr b hb
 omega
theorem Qqk {m : Qc} {l : List Qa} {p : At2} (h : Tr m l p) : clE m l p (pots m l p) = (bd (pots m l p), 0) := by
 have hp := Qlh h
 unfold clE ptE
 rw [if_pos hp.len, if_pos hp.shape, if_pos hp.small, if_pos rfl, show okP m p.e0 [p.e1] [0] l (pots m l p) = true from Qxg _ _ _ _ _, if_pos rfl]
theorem Qs9 {m : Qc} {l : List Qa} {p : At2} {n : Nat} (hn : n < l.length) : (pots m l p).getD n default = (posL m (l.getD n default) p.e0).map fun to => hg to MAXI (Qd7 m p l n) (Qcd (pots m l p) n) := by
 unfold Qd7 Qcd
 exact Qs8 m p.e0 l [p.e1] [0] n hn
theorem Qxi (k : Nat) (hk : 100 < k) {m : Qc} {l : List Qa} {p : At2} {ps : List (List Int)} (h : Tr m l p) {n : Nat} (hn : n < l.length) (hpl : n <= ps.length) (g1 : (Qd7 m p l n).length = (Qcd ps n).length) (g2 : (Qcd ps n).length <= 50) (g3 : ∀ f ∈ Qd7 m p l n, near f) (g4 : ∀ b ∈ Qcd ps n, -1000000000000 <= b /\ b <= 1000000000000) :
 Xm k ⟨p.e1, l.map (stp m p.e0)⟩ (n : Int) ps = some ((posL m (l.getD n default) p.e0).map fun to => hg to MAXI (Qd7 m p l n) (Qcd ps n)) := by
 have hlen := h.len
 have hrow : (posL m (l.getD n default) p.e0).length <= 43 := by rw [Qel]; exact Qp7 _ _
 have hto := Qc8 h.mnt (t := l.getD n default) (d := p.e0)
 unfold Xm
 have hs : ((l.map (stp m p.e0)).getD n default).positions = posL m (l.getD n default) p.e0 := by rw [Qgy hn]; rfl
 by_cases c : n = 0
 ·subst c
  rw [if_neg (by decide), if_pos (by simp; omega)]
  simp only [Int.toNat_natCast, hs]
  rw [if_pos (by omega)]
  have := Qsz k hk ⟨p.e1, l.map (stp m p.e0)⟩ (posL m (l.getD 0 default) p.e0) hs (Qek h) hto (by omega) (posL m (l.getD 0 default) p.e0).length k 0 [] (by omega) (by omega) rfl
  rw [List.nil_append, List.nil_append, List.drop_zero] at this
  rw [show Zf k ⟨p.e1, l.map (stp m p.e0)⟩ ((0 : Nat) : Int) k (List.replicate (posL m (l.getD 0 default) p.e0).length 0) 0 = _ from this, Option.bind_some]
  rfl
 ·have hw : w64 ((n : Int) - 1) = ((n - 1 : Nat) : Int) := by rw [Jd (by omega) (by omega)]; omega
  rw [if_pos (by omega), hw, if_pos (by simp; omega), if_pos (by omega), if_pos (by simp; omega)]
  simp only [Int.toNat_natCast, hs]
  rw [if_pos (by omega)]
  have hF : ((l.map (stp m p.e0)).getD (n - 1) default).positions = Qd7 m p l n := by rw [Qgy (by omega)]; unfold Qd7; rw [if_neg c]; rfl
  have hB : ps.getD (n - 1) default = Qcd ps n := by unfold Qcd; rw [if_neg c]
  have := Qxa k hk ⟨p.e1, l.map (stp m p.e0)⟩ ps n (by omega) (Qd7 m p l n) (Qcd ps n) (posL m (l.getD n default) p.e0) hF hB hs g1 g2 g3 g4 hto (by omega) (posL m (l.getD n default) p.e0).length k 0 [] (by omega) (by omega) rfl
  rw [List.nil_append, List.nil_append, List.drop_zero] at this
  rw [show Ze k ⟨p.e1, l.map (stp m p.e0)⟩ (n : Int) ps k (List.replicate (posL m (l.getD n default) p.e0).length 0) 0 = _ from this, Option.bind_some]
theorem Quh {ps : List (List Int)} {n : Nat} (hn : n <= ps.length) : Qcd (ps.take n) n = Qcd ps n := by
 unfold Qcd
 by_cases c : n = 0
 ·rw [if_pos c, if_pos c]
 ·rw [if_neg c, if_neg c, List.getD_eq_getElem?_getD, List.getElem?_take, if_pos (by omega), List.getD_eq_getElem?_getD]
theorem Q3t (k : Nat) (hk : 100 < k) {m : Qc} {l : List Qa} {p : At2} (h : Tr m l p) : ∀ (d fuel n : Nat), l.length = n + d -> d < fuel ->
 Za k ⟨p.e1, l.map (stp m p.e0)⟩ fuel ((pots m l p).take n) (n : Int) = some (pots m l p) := by
 have hp := Qlh h
 have hpl := hp.len
 have hlen := h.len
 intro d
 induction d with
 | zero =>
   intro fuel n hd hf
   obtain ⟨g, rfl⟩ : ∃ g, fuel = g + 1 := ⟨fuel - 1, by omega⟩
   rw [Za.eq_2, if_neg (by simp; omega), List.take_of_length_le (by omega)]
 | succ d ih =>
   intro fuel n hd hf
   obtain ⟨g, rfl⟩ : ∃ g, fuel = g + 1 := ⟨fuel - 1, by omega⟩
   obtain ⟨g1, g2, g3, g4⟩ := hp.prev (n := n) (by omega)
   have hb := Quh (ps := pots m l p) (n := n) (by omega)
   rw [Za.eq_2, if_pos (by simp; omega), Qxi k hk h (by omega) (by rw [List.length_take]; omega) (by rw [hb]; exact g1) (by rw [hb]; exact g2) g3 (by rw [hb]; exact g4), Option.bind_some, hb, <- Qs9 (by omega), if_pos (by simp; omega), Yl (by omega)]
   have := ih g (n + 1) (by omega) (by omega)
   rw [List.take_succ_eq_append_getElem (by omega)] at this
   rw [List.getD_eq_getElem?_getD, List.getElem?_eq_getElem (by omega)]
   exact this
theorem Q1g (k : Nat) (hk : 100 < k) {m : Qc} {l : List Qa} {p : At2} (h : Tr m l p) : Jg k ⟨p.e1, l.map (stp m p.e0)⟩ = some (pots m l p) := by
 have hlen := h.len
 unfold Jg
 have := Q3t k hk h l.length k 0 (by omega) (by omega)
 rw [List.take_zero] at this
 rw [show Za k ⟨p.e1, l.map (stp m p.e0)⟩ k [] 0 = _ from this]; rfl
def bst (g : Nat -> Int) : Nat -> Nat
 | 0 => 0
 | i + 1 => if g i < g (bst g i) then i else bst g i
theorem Qpy (g : Nat -> Int) : ∀ n, bst g n = 0 \/ bst g n < n
 | 0 => .inl rfl
 | n + 1 => by
   simp only [bst]
   split
   ·right; omega
   ·rcases Qpy g n with h | h
    ·exact .inl h
    ·right; omega
theorem Qta (g : Nat -> Int) : ∀ n j, j < n -> g (bst g n) <= g j
 | 0, j, h => by omega
 | n + 1, j, h => by
   simp only [bst]
   split
   ·rename_i c
    rcases Nat.eq_or_lt_of_le (Nat.le_of_lt_succ h) with rfl | h'
    ·exact Int.le_refl _
    ·have := Qta g n j h'; omega
   ·rename_i c
    rcases Nat.eq_or_lt_of_le (Nat.le_of_lt_succ h) with rfl | h'
    ·omega
    ·exact Qta g n j h'
theorem Q3u (k : Nat) (T : Zy) (P : List (List Int)) (S : List Z8) (y2 : List Int) (x : Int × Z8) (n : Nat) (hx : x.1 = (n : Int)) (hn : n < P.length) (hl : (P.getD n default).length = x.2.positions.length) (hl2 : x.2.positions.length <= 1000) (hb : ∀ b ∈ P.getD n default, 0 <= b /\ b <= 1000000000000) :
 ∀ (d fuel i : Nat), x.2.positions.length = i + d -> d < fuel ->
   Zg k T P S y2 x fuel (bst (fun j => (P.getD n default).getD j 0 + 0) i : Nat) (i : Int) = some ((bst (fun j => (P.getD n default).getD j 0 + 0) x.2.positions.length : Nat) : Int) := by
 intro d
 induction d with
 | zero =>
   intro fuel i h hf
   obtain ⟨g, rfl⟩ : ∃ g, fuel = g + 1 := ⟨fuel - 1, by omega⟩
   rw [Zg.eq_2, if_neg (by omega), show i = x.2.positions.length by omega]
 | succ d ih =>
   intro fuel i h hf
   obtain ⟨g, rfl⟩ : ∃ g, fuel = g + 1 := ⟨fuel - 1, by omega⟩
   have hbt := Qpy (fun j => (P.getD n default).getD j 0 + 0) i
   have ih' := ih g (i + 1) (by omega) (by omega)
   have h1 := hb _ (Qcy (xs := P.getD n default) (i := i) (by omega))
   have h2 := hb _ (Qcy (xs := P.getD n default) (i := bst (fun j => (P.getD n default).getD j 0 + 0) i) (by omega))
   simp only [bst] at ih'
   rw [Zg.eq_2, hx]
   simp only [Int.toNat_natCast]
   rw [if_pos (by omega), if_pos (by omega), if_pos (by omega), if_pos (by omega)]
   unfold J4
   rw [Option.bind_some, if_pos (by omega), if_pos (by omega), Option.bind_some, Yl (by omega)]
   have e1 : w64 ((P.getD n default).getD i 0 + 0) = (P.getD n default).getD i 0 + 0 := Jd (by omega) (by omega)
   have e2 : w64 ((P.getD n default).getD (bst (fun j => (P.getD n default).getD j 0 + 0) i) 0 + 0) = (P.getD n default).getD (bst (fun j => (P.getD n default).getD j 0 + 0) i) 0 + 0 := Jd (by omega) (by omega)
   by_cases c : (P.getD n default).getD i 0 + 0 < (P.getD n default).getD (bst (fun j => (P.getD n default).getD j 0 + 0) i) 0 + 0
   ·rw [if_pos (by rw [e1, e2]; exact c)]; rw [if_pos c] at ih'; exact ih'
   ·rw [if_neg (by rw [e1, e2]; exact c)]; rw [if_neg c] at ih'; exact ih'
theorem Q3v (k : Nat) (T : Zy) (P : List (List Int)) (S : List Z8) (y2 : List Int) (z : ByteArray × Int × Int × Int × Int × Int × (List Int) × (List Int) × Int) (q : Int) (hq : near q) (x : Int × Z8) (n : Nat) (hx : x.1 = (n : Int)) (hn : n < P.length) (hl : (P.getD n default).length = x.2.positions.length) (hl2 : x.2.positions.length <= 1000) (hb : ∀ b ∈ P.getD n default, 0 <= b /\ b <= 1000000000000)
 (hp : ∀ f ∈ x.2.positions, near f) (hz : 0 <= z.2.2.2.2.2.2.2.2 /\ z.2.2.2.2.2.2.2.2 < (z.2.2.2.2.2.2.2.1.length : Int)) (hzq : z.2.2.2.2.2.2.2.1.getD z.2.2.2.2.2.2.2.2.toNat 0 = q) :
 ∀ (d fuel i : Nat), x.2.positions.length = i + d -> d < fuel ->
   Zh k T P S y2 z x fuel (bst (fun j => (P.getD n default).getD j 0 + cst (x.2.positions.getD j 0) q) i : Nat) (i : Int) = some ((bst (fun j => (P.getD n default).getD j 0 + cst (x.2.positions.getD j 0) q) x.2.positions.length : Nat) : Int) := by
 intro d
 induction d with
 | zero =>
   intro fuel i h hf
   obtain ⟨g, rfl⟩ : ∃ g, fuel = g + 1 := ⟨fuel - 1, by omega⟩
   rw [Zh.eq_2, if_neg (by omega), show i = x.2.positions.length by omega]
 | succ d ih =>
   intro fuel i h hf
   obtain ⟨g, rfl⟩ : ∃ g, fuel = g + 1 := ⟨fuel - 1, by omega⟩
   have hbt := Qpy (fun j => (P.getD n default).getD j 0 + cst (x.2.positions.getD j 0) q) i
   have ih' := ih g (i + 1) (by omega) (by omega)
   simp only [bst] at ih'
   rw [Zh.eq_2, hx]
   generalize hB : bst (fun j => (P.getD n default).getD j 0 + cst (x.2.positions.getD j 0) q) i = B at *
   have h1 := hb _ (Qcy (xs := P.getD n default) (i := i) (by omega))
   have h2 := hb _ (Qcy (xs := P.getD n default) (i := B) (by omega))
   have n1 := Qcb hp (i := i) (by omega)
   have n2 := Qcb hp (i := B) (by omega)
   have c1 := Qid n1 hq
   have c2 := Qid n2 hq
   simp only [Int.toNat_natCast]
   rw [if_pos (by omega), if_pos (by omega), if_pos (by omega), if_pos (by omega)]
   unfold J5
   rw [if_pos hz, if_pos hz, hzq, Qfe k n1.small hq.small, Qfe k n2.small hq.small]
   simp only [Option.bind_some]
   rw [if_pos (by omega), if_pos (by omega), Yl (by omega)]
   have e1 : w64 ((P.getD n default).getD i 0 + cst (x.2.positions.getD i 0) q) = (P.getD n default).getD i 0 + cst (x.2.positions.getD i 0) q := Jd (by omega) (by omega)
   have e2 : w64 ((P.getD n default).getD B 0 + cst (x.2.positions.getD B 0) q) = (P.getD n default).getD B 0 + cst (x.2.positions.getD B 0) q := Jd (by omega) (by omega)
   by_cases c : (P.getD n default).getD i 0 + cst (x.2.positions.getD i 0) q < (P.getD n default).getD B 0 + cst (x.2.positions.getD B 0) q
   ·rw [if_pos (by rw [e1, e2]; exact c)]; rw [if_pos c] at ih'; exact ih'
   ·rw [if_neg (by rw [e1, e2]; exact c)]; rw [if_neg c] at ih'; exact ih'
theorem Qxj : ∀ (l : List Int) (x : Int), mnF x l = x \/ mnF x l ∈ l
 | [], x => .inl rfl
 | a :: l, x => by
   have e : mnF x (a :: l) = mnF (minI x a) l := rfl
   rw [e]
   have h : minI x a = x \/ minI x a = a := by unfold minI; split <;> simp
   rcases Qxj l (minI x a) with h1 | h1
   ·rcases h with h | h
    ·left; rw [h1, h]
    ·right; rw [h1, h]; simp
   ·right; exact List.mem_cons_of_mem _ h1
theorem Q1h {P : List (List Int)} (hP : 0 < P.length) (hr : 0 < (P.getD (P.length - 1) default).length) {b : Nat} (hb : b < (P.getD (P.length - 1) default).length) (hle : ∀ j, j < (P.getD (P.length - 1) default).length -> (P.getD (P.length - 1) default).getD b 0 <= (P.getD (P.length - 1) default).getD j 0) : bd P = (P.getD (P.length - 1) default).getD b 0 := by
 unfold bd
 rw [if_neg (by omega)]
 generalize P.getD (P.length - 1) default = r at *
 cases r with
 | nil => simp at hr
 | cons a r =>
   have e1 : (a :: r).getD 0 0 = a := rfl
   have e2 : (a :: r).drop 1 = r := rfl
   rw [e1, e2]
   obtain ⟨h1, h2⟩ := Qxd r a
   refine Int.le_antisymm ?_ ?_
   ·cases b with
    | zero => exact h1
    | succ b => exact h2 _ (Qcy (xs := r) (i := b) (by simpa using hb))
   ·rcases Qxj r a with h | h
    ·rw [h]; exact hle 0 (by simp)
    ·obtain ⟨j, hj, he⟩ := List.mem_iff_getElem.1 h
     have := hle (j + 1) (by simpa using hj)
     rw [<- he]
     rw [show (a :: r).getD (j + 1) 0 = r.getD j 0 from rfl, List.getD_eq_getElem?_getD (l := r), List.getElem?_eq_getElem hj] at this
     exact this
theorem set_drop {y : List Int} {d : Nat} (h : d < y.length) (v : Int) : (y.set d v).drop d = v :: y.drop (d + 1) := by
 rw [List.set_eq_take_append_cons_drop, if_pos h, List.drop_append_of_le_length (by rw [List.length_take]; omega), List.drop_of_length_le (by rw [List.length_take]; omega), List.nil_append]
def Inv (m : Qc) (l : List Qa) (p : At2) (d : Nat) (y2 : List Int) (st : Sum Unit (ByteArray × Int × Int × Int × Int × Int × (List Int) × (List Int) × Int)) : Prop :=
 (d = l.length /\ st = .inl ()) \/ (d < l.length /\ ∃ (b : Nat) (q : Int) (tail : List Int) (z : ByteArray × Int × Int × Int × Int × Int × (List Int) × (List Int) × Int), st = .inr z /\ z.2.2.2.2.2.2.2.1 = posL m (l.getD d default) p.e0 /\ z.2.2.2.2.2.2.2.2 = (b : Int) /\ b < (posL m (l.getD d default) p.e0).length /\ q = (posL m (l.getD d default) p.e0).getD b 0 /\
  chL m p.e0 (l.drop d) (y2.drop d) = some (q :: tail) /\ ((pots m l p).getD d default).getD b 0 + sumC q tail = bd (pots m l p))
theorem Q3k {f : Int -> Int} {xs : List Int} {b : Nat} (hb : b < xs.length) : (xs.map f).getD b 0 = f (xs.getD b 0) := by
 rw [List.getD_eq_getElem?_getD, List.getElem?_map, List.getElem?_eq_getElem hb, List.getD_eq_getElem?_getD, List.getElem?_eq_getElem hb]; rfl
theorem Qzu {m : Qc} {l : List Qa} {p : At2} {d b : Nat} (hd : d < l.length) (hb : b < (posL m (l.getD d default) p.e0).length) : ((pots m l p).getD d default).getD b 0 = hg ((posL m (l.getD d default) p.e0).getD b 0) MAXI (Qd7 m p l d) (Qcd (pots m l p) d) := by
 rw [Qs9 hd]; exact Q3k hb
theorem Qtb {m : Qc} {l : List Qa} {p : At2} {d b : Nat} (hd : d < l.length) (hb : b < (trn m (apA m (l.getD d default) p.e0)).length) {y2 qs : List Int} (hy : d < y2.length) (h : chL m p.e0 (l.drop (d + 1)) (y2.drop (d + 1)) = some qs) :
 chL m p.e0 (l.drop d) ((y2.set d ((trn m (apA m (l.getD d default) p.e0)).getD b 0)).drop d) = some ((posL m (l.getD d default) p.e0).getD b 0 :: qs) := by
 rw [set_drop hy, Je (y := l) (i := d) hd default]
 simp only [chL]
 rw [if_pos (Qcy hb), h, Qs0 hb]; rfl
theorem Q3l (k : Nat) (hk : 100 < k) {m : Qc} {l : List Qa} {p : At2} (h : Tr m l p) : ∀ (d : Nat) (y2 : List Int) (st : Sum Unit (ByteArray × Int × Int × Int × Int × Int × (List Int) × (List Int) × Int)), d <= l.length -> y2.length = l.length -> Inv m l p d y2 st ->
 ∃ r, Zd k ⟨p.e1, l.map (stp m p.e0)⟩ (pots m l p) (l.map (stp m p.e0)) (Qm1 (l.map (stp m p.e0)) d) y2 st = some r /\ r.1.length = l.length /\ ∃ qs, chL m p.e0 l r.1 = some qs /\ sumC p.e1 qs = bd (pots m l p) := by
 have hp := Qlh h
 have hpl := hp.len
 have hlen := h.len
 intro d
 induction d with
 | zero =>
   intro y2 st hd hy hI
   refine ⟨(y2, st), by simp only [Qm1]; rw [Zd.eq_1], hy, ?_⟩
   rcases hI with ⟨h0, _⟩ | ⟨h0, b, q, tail, z, h1, h2, h3, h4, h5, h6, h7⟩
   ·have hl : l = [] := List.eq_nil_of_length_eq_zero h0.symm
    subst hl
    exact ⟨[], rfl, rfl⟩
   ·rw [List.drop_zero, List.drop_zero] at h6
    refine ⟨_, h6, ?_⟩
    rw [<- h7, Qzu h0 h4, <- h5]
    have hq : near q := by rw [h5]; exact Qcb (Qc8 h.mnt) h4
    have hc := Qid (Qek h) hq
    have e1 : Qd7 m p l 0 = [p.e1] := rfl
    have e2 : Qcd (pots m l p) 0 = [0] := rfl
    have e3 : hg q MAXI [p.e1] [0] = minI MAXI (0 + cst p.e1 q) := rfl
    rw [e1, e2, e3]
    have e4 : minI MAXI (0 + cst p.e1 q) = cst p.e1 q := by
     unfold minI MAXI
     rw [if_pos (by omega)]; omega
    rw [e4]; rfl
 | succ d ih =>
   intro y2 st hd hy hI
   have hd' : d < l.length := by omega
   have hrow := hp.row hd'
   have hpos := Qif h d hd'
   have hpl2 := Qel m (l.getD d default) p.e0
   have hnr := Qc8 h.mnt (t := l.getD d default) (d := p.e0)
   have hbs : ∀ b ∈ (pots m l p).getD d default, 0 <= b /\ b <= 1000000000000 := Qxh h _ (by rw [List.getD_eq_getElem?_getD, List.getElem?_eq_getElem (by omega)]; exact List.getElem_mem _)
   have hst : (l.map (stp m p.e0)).getD ((d : Int).toNat) default = stp m p.e0 (l.getD d default) := by rw [Int.toNat_natCast]; exact Qgy hd'
   simp only [Qm1]
   rw [hst]
   rcases hI with ⟨h0, rfl⟩ | ⟨h0, b', q', tail, z, rfl, h2, h3, h4, h5, h6, h7⟩
   ·have hl0 := Q3u k ⟨p.e1, l.map (stp m p.e0)⟩ (pots m l p) (l.map (stp m p.e0)) y2 ((d : Int), stp m p.e0 (l.getD d default)) d rfl (by omega) hrow.1 (by show (posL m (l.getD d default) p.e0).length <= 1000; omega) hbs (posL m (l.getD d default) p.e0).length k 0 (by show (posL m (l.getD d default) p.e0).length = _; omega) (by omega)
    have hB := Qpy (fun j => ((pots m l p).getD d default).getD j 0 + 0) (posL m (l.getD d default) p.e0).length
    have hM := Qta (fun j => ((pots m l p).getD d default).getD j 0 + 0) (posL m (l.getD d default) p.e0).length
    change Zg k _ _ _ y2 _ k 0 0 = some ((bst (fun j => ((pots m l p).getD d default).getD j 0 + 0) (posL m (l.getD d default) p.e0).length : Nat) : Int) at hl0
    generalize hb : bst (fun j => ((pots m l p).getD d default).getD j 0 + 0) (posL m (l.getD d default) p.e0).length = b at *
    rw [Zd.eq_2, hl0, Option.bind_some, if_pos (by show 0 <= (b : Int) /\ (b : Int) < ((trn m (apA m (l.getD d default) p.e0)).length : Int); omega), if_pos (by show 0 <= (d : Int) /\ (d : Int) < (y2.length : Int); omega), if_pos (by show (d : Int) < _; simp; omega)]
    refine ih _ _ (by omega) (by rw [List.length_set]; exact hy) (.inr ⟨hd', b, (posL m (l.getD d default) p.e0).getD b 0, [], _, rfl, rfl, rfl, by omega, rfl, ?_, ?_⟩)
    ·have e0 : l.drop (d + 1) = [] := List.drop_of_length_le (by omega)
     exact Qtb hd' (by omega) (by omega) (by rw [e0]; rfl)
    ·rw [show sumC ((posL m (l.getD d default) p.e0).getD b 0) [] = 0 from rfl, Int.add_zero]
     have e1 : (pots m l p).length - 1 = d := by omega
     have := Q1h (P := pots m l p) (by omega) (by rw [e1]; omega) (b := b) (by rw [e1]; omega) (fun j hj => by
      rw [e1] at hj ⊢
      have := hM j (by omega)
      simp only [Int.add_zero] at this
      exact this)
     rw [e1] at this
     exact this.symm
   ·have hq' : near q' := by rw [h5]; exact Qcb (Qc8 h.mnt) h4
    have hl1 := Q3v k ⟨p.e1, l.map (stp m p.e0)⟩ (pots m l p) (l.map (stp m p.e0)) y2 z q' hq' ((d : Int), stp m p.e0 (l.getD d default)) d rfl (by omega) hrow.1 (by show (posL m (l.getD d default) p.e0).length <= 1000; omega) hbs hnr (by rw [h3, h2]; omega) (by rw [h2, h3, Int.toNat_natCast]; exact h5.symm) (posL m (l.getD d default) p.e0).length k 0 (by show (posL m (l.getD d default) p.e0).length = _; omega) (by omega)
    have hB := Qpy (fun j => ((pots m l p).getD d default).getD j 0 + cst ((posL m (l.getD d default) p.e0).getD j 0) q') (posL m (l.getD d default) p.e0).length
    have hM := Qta (fun j => ((pots m l p).getD d default).getD j 0 + cst ((posL m (l.getD d default) p.e0).getD j 0) q') (posL m (l.getD d default) p.e0).length
    change Zh k _ _ _ y2 z _ k 0 0 = some ((bst (fun j => ((pots m l p).getD d default).getD j 0 + cst ((posL m (l.getD d default) p.e0).getD j 0) q') (posL m (l.getD d default) p.e0).length : Nat) : Int) at hl1
    generalize hb : bst (fun j => ((pots m l p).getD d default).getD j 0 + cst ((posL m (l.getD d default) p.e0).getD j 0) q') (posL m (l.getD d default) p.e0).length = b at *
    rw [Zd.eq_3, hl1, Option.bind_some, if_pos (by show 0 <= (b : Int) /\ (b : Int) < ((trn m (apA m (l.getD d default) p.e0)).length : Int); omega), if_pos (by show 0 <= (d : Int) /\ (d : Int) < (y2.length : Int); omega), if_pos (by show (d : Int) < _; simp; omega)]
    refine ih _ _ (by omega) (by rw [List.length_set]; exact hy) (.inr ⟨hd', b, (posL m (l.getD d default) p.e0).getD b 0, q' :: tail, _, rfl, rfl, rfl, by omega, rfl, Qtb hd' (by omega) (by omega) h6, ?_⟩)
    have hr := Qzu (m := m) (p := p) h0 h4
    rw [Qmi, Qmj, <- h5] at hr
    have hbl : b < (posL m (l.getD d default) p.e0).length := by omega
    have hup := Qw8 q' (posL m (l.getD d default) p.e0) ((pots m l p).getD d default) MAXI _ _ (Qra (i := b) hbl (by omega))
    obtain ⟨⟨i, hi1, hi2⟩, _, _⟩ := Q3j hq' hrow.1.symm (by omega) hnr hbs (Int.le_refl _)
    have hlow := hM i hi1
    have e : hg q' MAXI (posL m (l.getD d default) p.e0) ((pots m l p).getD d default) = ((pots m l p).getD d default).getD b 0 + cst ((posL m (l.getD d default) p.e0).getD b 0) q' := by omega
    rw [<- h7, hr, e]
    simp only [sumC]
    omega
theorem Qui (k : Nat) (hk : 100 < k) {m : Qc} {l : List Qa} {p : At2} (h : Tr m l p) : ∃ xs, Y3 k ⟨p.e1, l.map (stp m p.e0)⟩ (pots m l p) = some xs /\ xs.length = l.length /\ chE m l p xs = (bd (pots m l p), 0) := by
 have hlen := h.len
 obtain ⟨r, h1, h2, qs, h3, h4⟩ := Q3l k hk h l.length (List.replicate l.length 0) (.inl ()) (Nat.le_refl _) (by simp) (.inl ⟨rfl, rfl⟩)
 refine ⟨r.1, ?_, h2, ?_⟩
 ·unfold Y3 Xa
  rw [if_pos (by simp; omega), Option.bind_some, if_pos (by simp; omega)]
  have e : ((l.map (stp m p.e0)).length : Int).toNat = l.length := by simp
  show (Zd k ⟨p.e1, l.map (stp m p.e0)⟩ (pots m l p) (l.map (stp m p.e0)) (Qm1 (l.map (stp m p.e0)) (l.map (stp m p.e0)).length) (List.replicate ((l.map (stp m p.e0)).length : Int).toNat 0) (.inl ())).bind (fun r => if r.1.length = ((l.map (stp m p.e0)).length : Int).toNat then some r.1 else none) = _
  rw [e, List.length_map, h1, Option.bind_some, if_pos h2]
 ·unfold chE
  rw [if_pos h2, h3]
  show (sumC p.e1 qs, (0 : Int)) = _
  rw [h4]
theorem Qtz (k : Nat) (hk : 100 < k) (hk2 : k <= 100000000000000000000) (m : Qc) (h1 : m.Refraction.length < k) (h2 : m.Drift.length < k) (l : List Qa) (p : At2) :
 ((trE m l p).2 ≠ 0 /\ Qbe k m l p = some (⟨[], []⟩, 0, (trE m l p).2)) \/
   (Tr m l p /\ (trE m l p).2 = 0 /\ ∃ xs, Qbe k m l p = some (⟨xs, pots m l p⟩, bd (pots m l p), 0) /\ xs.length = l.length /\ chE m l p xs = (bd (pots m l p), 0)) := by
 unfold Qbe
 rw [Qiu k hk hk2 m h1 h2, Option.bind_some]
 by_cases c : (trE m l p).2 = 0
 ·right
  have hT := Tr.of c
  obtain ⟨xs, e1, e2, e3⟩ := Qui k hk hT
  refine ⟨hT, c, xs, ?_, e2, e3⟩
  simp only [if_pos c]
  rw [Q1g k hk hT, Option.bind_some, e1, Option.bind_some, Qlb k hk (Qlh hT) (Qif hT), Option.bind_some]
 ·left
  refine ⟨c, ?_⟩
  simp only [if_neg c]
theorem Qx7 {m : Qc} {l : List Qa} {p : At2} (h : Tr m l p) : ∀ r ∈ pots m l p, r.length <= 50 := fun r hr => by
 have hp := Qlh h
 obtain ⟨i, hi, rfl⟩ := List.mem_iff_getElem.1 hr
 have := hp.row (i := i) (by rw [<- hp.len]; exact hi)
 rw [List.getD_eq_getElem?_getD, List.getElem?_eq_getElem hi] at this
 simp only [Option.getD_some] at this
 omega
end Go.Proofs.Ytbgajdbpdhipiaa.Vg
end

section
set_option linter.unusedVariables false
set_option linter.unusedSimpArgs false
namespace Go.Proofs.Ytbgajdbpdhipiaa.Vg
open Go Go.Proofs.Ytbgajdbpdhipiaa.Ev Go.Proofs.Ytbgajdbpdhipiaa.Vv
theorem Qtx (k : Nat) (x : Qex) (xs : List Int) (hx : x.Targets.length <= 9223372036854775807) (hk : k = x.Targets.length + 1000) : Xt k x xs = some true := by
 unfold Xt
 rw [show Qvr k = some true from rfl, Option.bind_some, if_pos rfl, short_any _ x (by omega) hx, Option.bind_some]
 cases h : Qov x with
 | false => rfl
 | true =>
   obtain ⟨a, b, c⟩ := Qqj h
   rw [if_pos rfl]
   by_cases c1 : 5 < (x.Targets.length : Int)
   ·rw [if_pos c1]
   rw [if_neg c1]
   by_cases c2 : 8 < (xs.length : Int)
   ·rw [if_pos c2]
   rw [if_neg c2, Qx5 k xs (by omega), Option.bind_some, Qow k (by omega) (by omega) x.Mount (by omega) (by omega) x.Targets x.At xs (by omega), Option.bind_some]
   rcases Qtz k (by omega) (by omega) x.Mount (by omega) (by omega) x.Targets x.At with ⟨h1, h2⟩ | ⟨hT, h1, ys, h2, h3, h4⟩
   ·rw [if_neg h1, if_neg h1]
   ·rw [if_pos h1]
    by_cases c3 : (chE x.Mount x.Targets x.At xs).2 = 0
    case neg => rw [if_neg c3]
    have hle := Qx6 c3 (show (clE x.Mount x.Targets x.At (pots x.Mount x.Targets x.At)).2 = 0 by rw [Qqk hT])
    rw [Qqk hT] at hle
    dsimp only at hle
    have hbd : 0 <= (chE x.Mount x.Targets x.At xs).1 /\ (chE x.Mount x.Targets x.At xs).1 <= 1000000000000000 := by
     have hl := hT.len
     unfold chE at c3 ⊢
     split
     ·cases hq : chL x.Mount x.At.e0 x.Targets xs with
      | none => exact ⟨Int.le_refl 0, by show (0 : Int) <= 1000000000000000; omega⟩
      | some qs =>
        obtain ⟨q3, q4⟩ := Qjs hT.mnt hq
        have := Qql qs x.At.e1 (Qek hT) q3
        show 0 <= sumC x.At.e1 qs /\ sumC x.At.e1 qs <= 1000000000000000
        omega
     ·exact ⟨Int.le_refl 0, by show (0 : Int) <= 1000000000000000; omega⟩
    have hb0 : 0 <= bd (pots x.Mount x.Targets x.At) := by
     unfold chE at h4
     rw [if_pos h3] at h4
     cases hq : chL x.Mount x.At.e0 x.Targets ys with
     | none => rw [hq] at h4; injection h4 with e1 e2; cases e2
     | some qs =>
       rw [hq] at h4; injection h4 with e1 e2
       obtain ⟨q3, q4⟩ := Qjs hT.mnt hq
       have := Qql qs x.At.e1 (Qek hT) q3
       omega
    rw [if_pos c3, h2, Option.bind_some]
    dsimp only
    rw [Qqm k (by omega) (by omega) x.Mount (by omega) (by omega) x.Targets x.At _ (Qx7 hT), Option.bind_some, if_pos h1, Qqk hT]
    dsimp only
    rw [if_pos rfl, if_pos rfl, if_pos rfl, if_neg (by omega), Qox k (by omega) (by decide), Option.bind_some, Qox k (by omega) (by decide), Option.bind_some]
    rw [decide_eq_true (Int.ediv_le_ediv (by decide) hle)]
theorem Quk (x : Qex) (xs : List Int) (hx : x.Targets.length <= 9223372036854775807) : VC Try.prog 3 [VV.ag (Qfh x), VV.tr (xs.map vi) xs.length] (vb true) := Qbv _ _ _ _ (Qtx _ x xs hx rfl)
end Go.Proofs.Ytbgajdbpdhipiaa.Vg
end

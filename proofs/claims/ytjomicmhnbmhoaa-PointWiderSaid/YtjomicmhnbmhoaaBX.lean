import Derived.Test.YtjomicmhnbmhoaaB1
import Derived.Test.YtjomicmhnbmhoaaB2
import Derived.Test.YtjomicmhnbmhoaaB4
import Derived.Test.YtjomicmhnbmhoaaB6
import Derived.Test.YtjomicmhnbmhoaaBL
import Derived.Test.YtjomicmhnbmhoaaBW
section
set_option linter.unusedVariables false
set_option linter.unusedSimpArgs false
namespace Go.Proofs.Ytjomicmhnbmhoaa.Vg
open Go Go.Proofs.Ytjomicmhnbmhoaa.Ev Go.Proofs.Ytjomicmhnbmhoaa.Vv
theorem Xu {n : Int} (h1 : -9223372036854775808 <= n) (h2 : n <= 9223372036854775807) : w64 n = n := by
 unfold w64 IntKind.wrap
 simp [IntKind.signed, IntKind.bits]
 omega
theorem Qav {i : Nat} (h : i < 1000000000000) : w64 ((i : Int) + 1) = ((i + 1 : Nat) : Int) := by
 rw [Xu (by omega) (by omega)]; omega
theorem Qag {α : Type} {y : List α} {i : Nat} (h : i < y.length) (d : α) : y.drop i = y.getD i d :: y.drop (i + 1) := by
 rw [List.drop_eq_getElem_cons h, List.getD_eq_getElem?_getD, List.getElem?_eq_getElem h]; rfl
def sumB (b : Bool) : Sum Unit Unit := match b with | true => .inr () | false => .inl ()
def sumE (e : Int) : Sum Int Unit := if e = 0 then .inr () else .inl e
def inR (a b n : Int) : Bool := decide (a <= n /\ n <= b)
theorem Qcm {a b n : Int} : inR a b n = true ↔ a <= n /\ n <= b := by unfold inR; exact decide_eq_true_iff
theorem Qtv {a b n : Int} : inR a b n = false ↔ ¬(a <= n /\ n <= b) := by unfold inR; exact decide_eq_false_iff_not
theorem Qgp (k : Nat) (a b c : Int) : Xo k a b c = some (inR b c a) := by
 unfold Xo inR
 by_cases h : b <= a
 ·rw [if_pos h]; simp [h]
 ·rw [if_neg h]; simp [h]
theorem Qql (k : Nat) (a b : Int) (xs : List Int) (hl : xs.length < 1000000000000) : ∀ (d fuel i : Nat), xs.length = i + d -> d < fuel ->
 Zx k a b xs fuel (i : Int) = some (sumB ((xs.drop i).all (inR a b))) := by
 intro d
 induction d with
 | zero =>
   intro fuel i h hf
   obtain ⟨g, rfl⟩ : ∃ g, fuel = g + 1 := ⟨fuel - 1, by omega⟩
   rw [Zx.eq_2, if_neg (by omega), List.drop_eq_nil_of_le (by omega)]; rfl
 | succ d ih =>
   intro fuel i h hf
   obtain ⟨g, rfl⟩ : ∃ g, fuel = g + 1 := ⟨fuel - 1, by omega⟩
   rw [Zx.eq_2, if_pos (by omega), if_pos (by omega), Qav (by omega), ih g (i + 1) (by omega) (by omega), Qag (y := xs) (i := i) (by omega) 0]
   simp only [Int.toNat_natCast, List.all_cons]
   by_cases h1 : xs.getD i 0 < a
   ·rw [if_pos h1, show inR a b (xs.getD i 0) = false from Qtv.2 (by omega)]; rfl
   ·rw [if_neg h1]
    by_cases h2 : b < xs.getD i 0
    ·rw [if_pos h2, show inR a b (xs.getD i 0) = false from Qtv.2 (by omega)]; rfl
    ·rw [if_neg h2, show inR a b (xs.getD i 0) = true from Qcm.2 (by omega)]; rfl
theorem Qez (k : Nat) (a b : Int) (xs : List Int) (hl : xs.length < k) (hk : xs.length < 1000000000000) : Q8 k a b xs = some (xs.all (inR a b)) := by
 unfold Q8
 rw [show Zx k a b xs k 0 = _ from Qql k a b xs (by omega) xs.length k 0 (by omega) hl]
 simp only [List.drop_zero]
 cases xs.all (inR a b) <;> rfl
theorem Y0 (k : Nat) (a b x : Int) (hk : 100 < k) (hk2 : k <= 100000000000000000000) : Q8 k a b [x] = some (inR a b x) := by
 rw [Qez k a b [x] (by simp; omega) (by simp)]; simp
theorem Qi7 (k : Nat) (a b x y : Int) (hk : 100 < k) (hk2 : k <= 100000000000000000000) : Q8 k a b [x, y] = some (inR a b x && inR a b y) := by
 rw [Qez k a b [x, y] (by simp; omega) (by simp)]; simp
theorem Qpd (k : Nat) (b : Int) (xs : List Int) (hb : 0 <= b /\ b <= 1000000000000) (hl : xs.length < k) (hk : xs.length < 1000000000000) : Jl k b xs = some (xs.all (inR (-b) b)) := by
 unfold Jl
 rw [Xu (by omega) (by omega), Qez k _ _ _ hl hk, Option.bind_some, show (0 : Int) - b = -b by omega]
theorem Qho (k : Nat) (b x y : Int) (hb : 0 <= b /\ b <= 1000000000000) (hk : 100 < k) (hk2 : k <= 100000000000000000000) : Jl k b [x, y] = some (inR (-b) b x && inR (-b) b y) := by
 rw [Qpd k b [x, y] hb (by simp; omega) (by simp)]; simp
theorem Qtt {n d : Int} (hd : 0 < d) : (if n.tmod d < 0 then n.tdiv d - 1 else n.tdiv d) = n / d := by
 have h := Int.mul_tdiv_add_tmod n d
 have h1 : n.tmod d < d := Int.tmod_lt_of_pos n hd
 have h2 : -d < n.tmod d := by
  have := Int.lt_tmod_of_pos n hd
  omega
 split
 ·rename_i hn
  symm
  rw [Int.ediv_eq_iff_of_pos hd]
  constructor <;> (rw [Int.sub_mul, Int.mul_comm] ; omega)
 ·symm
  rw [Int.ediv_eq_iff_of_pos hd]
  constructor <;> (rw [Int.mul_comm]; omega)
theorem Qiw (k : Nat) {n d : Int} (hn : -1000000000000000000 <= n /\ n <= 1000000000000000000) (hd : 0 < d) : Qap k n d = some (n / d) := by
 unfold Qap
 have hq : -1000000000000000000 <= n.tdiv d /\ n.tdiv d <= 1000000000000000000 := by
  have := Int.natAbs_tdiv_le_natAbs n d
  omega
 rw [if_pos (by omega), Xu (n := n.tdiv d) (by omega) (by omega), Xu (n := n.tdiv d - 1) (by omega) (by omega), <- Qtt hd]
 split <;> rfl
theorem Qu6 (k : Nat) {n d : Int} (hn : -1000000000000000000 <= n /\ n <= 1000000000000000000) (hd : 0 < d) : Wq k n d = some (n / d) := by
 rw [<- Qiw k hn hd]; rfl
def Qtu (r : Qo) : Bool := inR (-1000000) 1000000 r.At && inR (-1000000) 1000000 r.Value
def late (p : Option Int) (n : Int) : Bool := match p with
 | some m => decide (n <= m)
 | none => false
def chk : Option Int -> List Qo -> Int
 | _, [] => 0
 | p, r :: l => match Qtu r with
   | true => match late p r.At with
     | true => 9
     | false => chk (some r.At) l
   | false => 2
def tabE (l : List Qo) : Int := match inR 1 40 l.length with
 | true => chk none l
 | false => 10
def bef (l : List Qo) (i : Nat) : Option Int := if i = 0 then none else some (l.getD (i - 1) default).At
theorem Qya (l : List Qo) (i : Nat) : bef l (i + 1) = some (l.getD i default).At := by
 unfold bef; rw [if_neg (by omega)]; rfl
theorem Qyb (l : List Qo) (i : Nat) (n : Int) : late (bef l i) n = (decide (0 < i) && decide (n <= (l.getD (i - 1) default).At)) := by
 unfold bef
 by_cases h : i = 0
 ·subst h; rfl
 ·rw [if_neg h]
  show decide _ = _
  simp [show 0 < i by omega]
theorem Q0f (k : Nat) (hk : 100 < k) (hk2 : k <= 100000000000000000000) (l : List Qo) (hl : l.length < 1000000000) : ∀ (d fuel i : Nat), l.length = i + d -> d < fuel ->
 Zk k l fuel (i : Int) = some (sumE (chk (bef l i) (l.drop i))) := by
 intro d
 induction d with
 | zero =>
   intro fuel i h hf
   obtain ⟨g, rfl⟩ : ∃ g, fuel = g + 1 := ⟨fuel - 1, by omega⟩
   rw [Zk.eq_2, if_neg (by omega), List.drop_eq_nil_of_le (by omega)]; rfl
 | succ d ih =>
   intro fuel i h hf
   obtain ⟨g, rfl⟩ : ∃ g, fuel = g + 1 := ⟨fuel - 1, by omega⟩
   rw [Zk.eq_2, if_pos (by omega), if_pos (by omega), Qho k _ _ _ (by decide) hk hk2, Option.bind_some, Qav (by omega), ih g (i + 1) (by omega) (by omega), Qag (y := l) (i := i) (by omega) default, Qya]
   simp only [Int.toNat_natCast, chk, Qyb]
   rw [show (inR (-1000000) 1000000 (l.getD i default).At && inR (-1000000) 1000000 (l.getD i default).Value) = Qtu (l.getD i default) from rfl]
   cases Qtu (l.getD i default) with
   | false => rfl
   | true =>
     rw [if_pos rfl]
     by_cases h0 : 0 < i
     ·rw [if_pos (by omega), Xu (by omega) (by omega), if_pos (by omega), show ((i : Int) - 1).toNat = i - 1 by omega]
      by_cases h1 : (l.getD i default).At <= (l.getD (i - 1) default).At
      ·rw [if_pos h1, decide_eq_true h0, decide_eq_true h1]; rfl
      ·rw [if_neg h1, decide_eq_true h0, decide_eq_false h1]; rfl
     ·rw [if_neg (by omega), decide_eq_false h0]; rfl
theorem Qi8 (k : Nat) (hk : 100 < k) (hk2 : k <= 100000000000000000000) (l : List Qo) (hl : l.length < k) : Yh k l = some (tabE l) := by
 unfold Yh tabE
 rw [Y0 k _ _ _ hk hk2, Option.bind_some]
 cases hin : inR 1 40 (l.length : Int) with
 | false => rfl
 | true =>
   have hin := Qcm.1 hin
   rw [if_pos rfl, show Zk k l k 0 = _ from Q0f k hk hk2 l (by omega) l.length k 0 (by omega) hl, Option.bind_some]
   show (match sumE (chk none l) with | .inl r => some r | .inr _ => some 0) = some (chk none l)
   unfold sumE
   by_cases h : chk none l = 0
   ·rw [if_pos h, h]
   ·rw [if_neg h]
structure Tab (l : List Qo) : Prop where
 pos : 0 < l.length
 le : l.length <= 40
 row : ∀ i, i < l.length -> -1000000 <= (l.getD i default).At /\ (l.getD i default).At <= 1000000 /\ -1000000 <= (l.getD i default).Value /\ (l.getD i default).Value <= 1000000
 inc : ∀ i, i + 1 < l.length -> (l.getD i default).At < (l.getD (i + 1) default).At
theorem Qsn : ∀ (l : List Qo) (p : Option Int), chk p l = 0 -> (∀ i, i < l.length -> Qtu (l.getD i default) = true) /\ (∀ i, i + 1 < l.length -> (l.getD i default).At < (l.getD (i + 1) default).At) /\ (0 < l.length -> late p (l.getD 0 default).At = false)
 | [], p, h => ⟨fun i hi => by simp at hi, fun i hi => by simp at hi, fun hi => by simp at hi⟩
 | r :: l, p, h => by
   simp only [chk] at h
   cases h1 : Qtu r with
   | false => rw [h1] at h; cases h
   | true =>
     rw [h1] at h
     cases h2 : late p r.At with
     | true => rw [h2] at h; cases h
     | false =>
       rw [h2] at h
       obtain ⟨g1, g2, g3⟩ := Qsn l (some r.At) h
       refine ⟨fun i hi => ?_, fun i hi => ?_, fun _ => h2⟩
       ·cases i with
        | zero => exact h1
        | succ i => exact g1 i (by simpa using hi)
       ·cases i with
        | zero =>
          have := g3 (by simp at hi; omega)
          simp only [late, decide_eq_false_iff_not] at this
          show r.At < (l.getD 0 default).At
          omega
        | succ i => exact g2 i (by simp at hi; omega)
theorem Tab.of {l : List Qo} (h : tabE l = 0) : Tab l := by
 unfold tabE at h
 cases h1 : inR 1 40 (l.length : Int) with
 | false => rw [h1] at h; cases h
 | true =>
   rw [h1] at h
   have h1 := Qcm.1 h1
   obtain ⟨g1, g2, _⟩ := Qsn l none h
   refine ⟨by omega, by omega, fun i hi => ?_, g2⟩
   have := g1 i hi
   simp only [Qtu, Bool.and_eq_true, Qcm] at this
   omega
def mid (a b : Qo) (t : Int) : Int := a.Value + ((b.Value - a.Value) * (t - a.At)) / (b.At - a.At)
def vrec (a : Qo) (t : Int) : List Qo -> Int
 | [] => a.Value
 | b :: l => if t < b.At then mid a b t else vrec b t l
def val (l : List Qo) (t : Int) : Int := if t < (l.getD 0 default).At then (l.getD 0 default).Value else vrec (l.getD 0 default) t (l.drop 1)
theorem Q0g {x y A B : Int} (h1 : -A <= x /\ x <= A) (h2 : -B <= y /\ y <= B) (hA : 0 <= A) (hB : 0 <= B) : -(A * B) <= x * y /\ x * y <= A * B := by
 have h : (x * y).natAbs <= (A * B).natAbs := by
  rw [Int.natAbs_mul, Int.natAbs_mul]
  exact Nat.mul_le_mul (by omega) (by omega)
 have := Int.mul_nonneg hA hB
 omega
theorem Q2c {p d A : Int} (hp : -A <= p /\ p <= A) (hd : 0 < d) : -A <= p / d /\ p / d <= A := by
 have e := Int.mul_ediv_add_emod p d
 have e1 := Int.emod_nonneg p (show d ≠ 0 by omega)
 have e2 := Int.emod_lt_of_pos p hd
 generalize p / d = q at e
 constructor
 ·rcases Int.lt_or_le q (-A) with hc | hc
  ·have h1 : d * q <= d * (-A - 1) := Int.mul_le_mul_of_nonneg_left (by omega) (by omega)
   have h2 : d * (-A - 1) = d * (-A) - d := by rw [Int.mul_sub, Int.mul_one]
   have h3 : d * (-A) <= 1 * (-A) := Int.mul_le_mul_of_nonpos_right (by omega) (by omega)
   omega
  ·exact hc
 ·rcases Int.lt_or_le A q with hc | hc
  ·have : 1 * q <= d * q := Int.mul_le_mul_of_nonneg_right (by omega) (by omega)
   omega
  ·exact hc
theorem Q0h (k : Nat) {a b : Qo} {t : Int} (ha : -1000000 <= a.At /\ a.At <= 1000000 /\ -1000000 <= a.Value /\ a.Value <= 1000000) (hb : -1000000 <= b.At /\ b.At <= 1000000 /\ -1000000 <= b.Value /\ b.Value <= 1000000) (hab : a.At < b.At) (ht : -1000000 <= t /\ t <= 1000000) :
 Qap k (w64 ((w64 (b.Value - a.Value)) * (w64 (t - a.At)))) (w64 (b.At - a.At)) = some (((b.Value - a.Value) * (t - a.At)) / (b.At - a.At)) /\ w64 (a.Value + ((b.Value - a.Value) * (t - a.At)) / (b.At - a.At)) = mid a b t := by
 have hp := Q0g (x := b.Value - a.Value) (y := t - a.At) (A := 2000000) (B := 2000000) (by omega) (by omega) (by decide) (by decide)
 have hq := Q2c (d := b.At - a.At) hp (by omega)
 rw [Xu (n := b.Value - a.Value) (by omega) (by omega), Xu (n := t - a.At) (by omega) (by omega), Xu (n := b.At - a.At) (by omega) (by omega)]
 exact ⟨by rw [Xu (by omega) (by omega), Qiw k (by omega) (by omega)], Xu (by omega) (by omega)⟩
def fst (t : Int) : Nat -> List Qo -> Option Nat
 | _, [] => none
 | i, r :: l => if t < r.At then some i else fst t (i + 1) l
theorem Q0i (k : Nat) (l : List Qo) (t : Int) (hl : l.length < 1000000000) : ∀ (d fuel i : Nat), l.length = i + d -> d < fuel ->
 Qg k l t fuel (i : Int) = some (match fst t i (l.drop i) with | some j => .inl (j : Int) | none => .inr ()) := by
 intro d
 induction d with
 | zero =>
   intro fuel i h hf
   obtain ⟨g, rfl⟩ : ∃ g, fuel = g + 1 := ⟨fuel - 1, by omega⟩
   rw [Qg.eq_2, if_neg (by omega), List.drop_eq_nil_of_le (by omega)]; rfl
 | succ d ih =>
   intro fuel i h hf
   obtain ⟨g, rfl⟩ : ∃ g, fuel = g + 1 := ⟨fuel - 1, by omega⟩
   rw [Qg.eq_2, if_pos (by omega), if_pos (by omega), Qav (by omega), ih g (i + 1) (by omega) (by omega), Qag (y := l) (i := i) (by omega) default]
   simp only [Int.toNat_natCast, fst]
   show ((some (decide (t < (l.getD i default).At))).bind _) = _
   rw [Option.bind_some]
   by_cases h1 : t < (l.getD i default).At
   ·rw [if_pos (by simpa using h1), if_pos h1]
   ·rw [if_neg (by simpa using h1), if_neg h1]
def idxv : Option Nat -> Int
 | some j => (j : Int)
 | none => -1
theorem Qwp (j : Nat) : idxv (some j) = (j : Int) := rfl
theorem Qwq : idxv none = -1 := rfl
theorem Qwr (k : Nat) (l : List Qo) (t : Int) (hl : l.length < 1000000000) (hk : l.length < k) : Qp k l t = some (idxv (fst t 0 l)) := by
 unfold Qp
 rw [show Qg k l t k 0 = _ from Q0i k l t hl l.length k 0 (by omega) hk, Option.bind_some, List.drop_zero]
 cases fst t 0 l <;> rfl
theorem Qso : ∀ (t : Int) (l : List Qo) (i j : Nat), fst t i l = some j -> i <= j /\ j - i < l.length /\ t < (l.getD (j - i) default).At /\ ∀ m, m < j - i -> (l.getD m default).At <= t
 | t, [], i, j, h => by cases h
 | t, r :: l, i, j, h => by
   simp only [fst] at h
   split at h
   ·injection h with h; subst h
    refine ⟨Nat.le_refl _, by simp, by simpa using ‹t < r.At›, fun m hm => by omega⟩
   ·rename_i hn
    obtain ⟨g1, g2, g3, g4⟩ := Qso t l (i + 1) j h
    refine ⟨by omega, by simp only [List.length_cons]; omega, ?_, fun m hm => ?_⟩
    ·rw [show j - i = (j - (i + 1)) + 1 by omega]; exact g3
    ·cases m with
     | zero => show r.At <= t; omega
     | succ m => exact g4 m (by omega)
theorem Qsp : ∀ (t : Int) (l : List Qo) (i : Nat), fst t i l = none -> ∀ m, m < l.length -> (l.getD m default).At <= t
 | t, [], i, h, m, hm => by simp at hm
 | t, r :: l, i, h, m, hm => by
   simp only [fst] at h
   split at h
   ·cases h
   ·cases m with
    | zero => show r.At <= t; omega
    | succ m => exact Qsp t l (i + 1) h m (by simpa using hm)
theorem Qws : ∀ (l : List Qo) (a : Qo) (t : Int) (j : Nat), j < l.length -> t < (l.getD j default).At -> (∀ m, m < j -> (l.getD m default).At <= t) -> vrec a t l = mid ((a :: l).getD j default) (l.getD j default) t
 | [], a, t, j, h, _, _ => by simp at h
 | b :: l, a, t, j, h, h1, h2 => by
   cases j with
   | zero =>
     have h1 : t < b.At := h1
     simp only [vrec]; rw [if_pos h1]; rfl
   | succ j =>
     have := h2 0 (by omega)
     have : b.At <= t := this
     simp only [vrec]
     rw [if_neg (by omega), Qws l b t j (by simpa using h) h1 (fun m hm => h2 (m + 1) (by omega))]
     rfl
theorem Qsq : ∀ (l : List Qo) (a : Qo) (t : Int), (∀ m, m < l.length -> (l.getD m default).At <= t) -> vrec a t l = ((a :: l).getD l.length default).Value
 | [], a, t, _ => rfl
 | b :: l, a, t, h => by
   have : b.At <= t := h 0 (by simp)
   simp only [vrec]
   rw [if_neg (by omega), Qsq l b t (fun m hm => h (m + 1) (by simpa using hm))]
   rfl
theorem Qhn {l : List Qo} {i : Nat} : (l.drop 1).getD i default = l.getD (i + 1) default := by
 rw [List.getD_eq_getElem?_getD, List.getD_eq_getElem?_getD, List.getElem?_drop, Nat.add_comm]
theorem head_tail {l : List Qo} (h : 0 < l.length) : l.getD 0 default :: l.drop 1 = l := by
 cases l with
 | nil => simp at h
 | cons a l => rfl
theorem Qi9 (k : Nat) (hk : 100 < k) {l : List Qo} (h : Tab l) {t : Int} (ht : -1000000 <= t /\ t <= 1000000) : Qaf k l t = some (val l t) := by
 unfold Qaf val
 have hle := h.le
 have hpos := h.pos
 rw [Qwr k l t (by omega) (by omega), Option.bind_some]
 cases hf : fst t 0 l with
 | none =>
   have hn := Qsp t l 0 hf
   have h0 := hn 0 hpos
   rw [Qwq, if_pos rfl, Xu (by omega) (by omega), if_pos (by omega), if_neg (by omega), Qsq _ _ _ (fun m hm => by rw [Qhn]; exact hn (m + 1) (by simp at hm; omega)), head_tail hpos, List.length_drop, show ((l.length : Int) - 1).toNat = l.length - 1 by omega]
 | some j =>
   obtain ⟨_, g2, g3, g4⟩ := Qso t l 0 j hf
   rw [Nat.sub_zero] at g2 g3 g4
   rw [Qwp, if_neg (show ¬(j : Int) = -1 by omega)]
   cases j with
   | zero =>
     rw [if_pos (show ((0 : Nat) : Int) = 0 from rfl), if_pos (by omega), if_pos g3]; rfl
   | succ j =>
     have h0 := g4 0 (by omega)
     have e1 : ((j + 1 : Nat) : Int) = (j : Int) + 1 := by omega
     rw [e1, if_neg (show ¬(j : Int) + 1 = 0 by omega), Xu (n := (j : Int) + 1 - 1) (by omega) (by omega), if_pos (show 0 <= (j : Int) + 1 - 1 /\ (j : Int) + 1 - 1 < (l.length : Int) by omega), if_pos (show 0 <= (j : Int) + 1 /\ (j : Int) + 1 < (l.length : Int) by omega), show ((j : Int) + 1 - 1).toNat = j by omega, show ((j : Int) + 1).toNat = j + 1 by omega]
     obtain ⟨m1, m2⟩ := Q0h k (h.row j (by omega)) (h.row (j + 1) g2) (h.inc j g2) ht
     rw [m1, Option.bind_some, m2, if_neg (show ¬t < (l.getD 0 default).At by omega), Qws _ _ _ j (by simp; omega) (by rw [Qhn]; exact g3) (fun m hm => by rw [Qhn]; exact g4 (m + 1) (by omega)), head_tail hpos, Qhn]
def Qsv (l : List Qo) : Bool := decide (l.length <= 6 \/ 40 < l.length /\ l.length <= 43)
theorem Qqq (k : Nat) (l : List Qo) : Jf k l = some (Qsv l) := by
 unfold Jf Qsv
 by_cases h : (l.length : Int) <= 6
 ·rw [if_pos h, decide_eq_true (by omega)]
 ·rw [if_neg h]
  by_cases h2 : 40 < (l.length : Int)
  ·rw [if_pos h2]; congr 1; rw [decide_eq_decide]; omega
  ·rw [if_neg h2, decide_eq_false (by omega)]
theorem Qk7 (k : Nat) (l : List Qo) (hl : l.length <= 1000000000) : X7 k l = some l := by
 unfold X7
 rw [if_pos (by simpa using hl)]; rfl
theorem Q0j {v t d : Int} (ht : 0 <= t) (htd : t <= d) (hd : 0 < d) : (0 <= v -> 0 <= v * t / d /\ v * t / d <= v) /\ (v <= 0 -> v <= v * t / d /\ v * t / d <= 0) := by
 constructor
 ·intro hv
  refine ⟨Int.ediv_nonneg (Int.mul_nonneg hv ht) (by omega), ?_⟩
  have h1 : v * t <= v * d := Int.mul_le_mul_of_nonneg_left htd hv
  have := Int.ediv_le_ediv hd h1
  rwa [Int.mul_ediv_cancel _ (by omega)] at this
 ·intro hv
  constructor
  ·have h1 : v * d <= v * t := Int.mul_le_mul_of_nonpos_left hv htd
   have := Int.ediv_le_ediv hd h1
   rwa [Int.mul_ediv_cancel _ (by omega)] at this
  ·have h1 : v * t <= 0 := Int.mul_nonpos_of_nonpos_of_nonneg hv ht
   have := Int.ediv_le_ediv hd h1
   simpa using this
theorem Qwt (L H : Int) (t : Int) : ∀ (l : List Qo) (a : Qo), a.At <= t -> (∀ r ∈ a :: l, L <= r.Value /\ r.Value <= H) -> L <= vrec a t l /\ vrec a t l <= H
 | [], a, _, h => h a (by simp)
 | b :: l, a, ha, h => by
   simp only [vrec]
   by_cases c : t < b.At
   ·rw [if_pos c]
    have h1 := h a (by simp)
    have h2 := h b (by simp)
    obtain ⟨p1, p2⟩ := Q0j (v := b.Value - a.Value) (t := t - a.At) (d := b.At - a.At) (by omega) (by omega) (by omega)
    unfold mid
    rcases Int.le_total 0 (b.Value - a.Value) with e | e
    ·have := p1 e; omega
    ·have := p2 e; omega
   ·rw [if_neg c]
    exact Qwt L H t l b (by omega) (fun r hr => h r (List.mem_cons_of_mem _ hr))
theorem Qyc {l : List Qo} (h : Tab l) (t : Int) : -1000000 <= val l t /\ val l t <= 1000000 := by
 have hpos := h.pos
 unfold val
 by_cases c : t < (l.getD 0 default).At
 ·rw [if_pos c]
  have := h.row 0 hpos; omega
 ·rw [if_neg c]
  refine Qwt _ _ t (l.drop 1) _ (by omega) (fun r hr => ?_)
  rw [head_tail hpos] at hr
  obtain ⟨i, hi, rfl⟩ := List.mem_iff_getElem.1 hr
  have := h.row i hi
  rw [List.getD_eq_getElem?_getD, List.getElem?_eq_getElem hi] at this
  exact this.2.2
end Go.Proofs.Ytjomicmhnbmhoaa.Vg
end

section
set_option linter.unusedVariables false
set_option linter.unusedSimpArgs false
namespace Go.Proofs.Ytjomicmhnbmhoaa.Vg
open Go Go.Proofs.Ytjomicmhnbmhoaa.Ev Go.Proofs.Ytjomicmhnbmhoaa.Vv
def letB (n : Int) : Bool := decide (97 <= n /\ n <= 122) || decide (65 <= n /\ n <= 90)
def namB (n : Int) : Bool := letB n || decide (48 <= n /\ n <= 57) || decide (n = 45)
theorem Qh5 (k : Nat) (n : Int) : Y6 k n = some (letB n) := by
 unfold Y6 letB
 by_cases h1 : 97 <= n <;> by_cases h2 : n <= 122 <;> by_cases h3 : 65 <= n <;> simp [h1, h2, h3]
theorem Ql1 (k : Nat) (n : Int) : Qab k n = some (!namB n) := by
 unfold Qab namB
 rw [Qh5, Option.bind_some]
 cases letB n
 ·by_cases h1 : 48 <= n <;> by_cases h2 : n <= 57 <;> simp [h1, h2]
 ·rfl
def bt8 (s : ByteArray) (i : Nat) : Int := bat s (i : Int)
theorem Ql2 {s : ByteArray} {i : Nat} (h : i < s.size) : bt8 s i = ((s.get! i).toNat : Int) := by
 unfold bt8 bat
 rw [show ((i : Int)).toNat = i from rfl, getElem?_pos s i h]
 dsimp only
 rw [show s.get! i = s[i] from by cases s; exact getElem!_pos _ i h]
theorem Qsr {s : ByteArray} {i : Nat} (h : i < s.size) (hb : bt8 s i < 128) : Go.Utf8.decode s i = ((bt8 s i).toNat, 1) := by
 rw [Ql2 h] at hb ⊢
 unfold Go.Utf8.decode
 dsimp only
 rw [if_pos (by rw [Nat.add_zero]; omega)]
 simp
theorem decode_high {s : ByteArray} {i : Nat} (h : i < s.size) (hb : 128 <= bt8 s i) : 128 <= (Go.Utf8.decode s i).1 := by
 rw [Ql2 h] at hb
 have he : 128 <= Go.Utf8.runeError := by decide
 unfold Go.Utf8.decode
 dsimp only
 rw [if_neg (by rw [Nat.add_zero]; omega)]
 split
 ·split
  ·dsimp only; omega
  ·exact he
 ·split
  ·split
   ·rename_i hh; simp only [Bool.and_eq_true, decide_eq_true_eq] at hh; dsimp only; omega
   ·exact he
  ·split
   ·split
    ·rename_i hh; simp only [Bool.and_eq_true, decide_eq_true_eq] at hh; dsimp only; omega
    ·exact he
   ·exact he
theorem Qqn {n : Int} (h : 128 <= n) : namB n = false := by
 unfold namB letB
 simp
 omega
def allN (s : ByteArray) : Nat -> Nat -> Bool
 | 0, _ => true
 | d + 1, i => namB (bt8 s i) && allN s d (i + 1)
theorem Qss (k : Nat) (s : ByteArray) : ∀ (d fuel i : Nat), s.size = i + d -> d < fuel ->
 ∃ j : Nat, Qj k s true fuel (i : Int) = some (match allN s d i with | true => .inr () | false => .inl (j : Int)) := by
 intro d
 induction d with
 | zero =>
   intro fuel i h hf
   obtain ⟨g, rfl⟩ : ∃ g, fuel = g + 1 := ⟨fuel - 1, by omega⟩
   rw [Qj.eq_2, if_neg (by omega)]
   exact ⟨0, rfl⟩
 | succ d ih =>
   intro fuel i h hf
   obtain ⟨g, rfl⟩ : ∃ g, fuel = g + 1 := ⟨fuel - 1, by omega⟩
   obtain ⟨j, hj⟩ := ih g (i + 1) (by omega) (by omega)
   rw [Qj.eq_2, if_pos (by omega), if_pos (by omega), Ql1, Option.bind_some]
   rw [show ((i : Int)).toNat = i from rfl]
   unfold allN
   by_cases hb : bt8 s i < 128
   ·rw [Qsr (by omega) hb]
    have h0 : 0 <= bt8 s i := by rw [Ql2 (by omega)]; omega
    dsimp only
    rw [show (((bt8 s i).toNat : Nat) : Int) = bt8 s i by omega]
    cases hn : namB (bt8 s i) with
    | true =>
      rw [if_neg (by decide), show (i : Int) + ((1 : Nat) : Int) = ((i + 1 : Nat) : Int) by omega, hj]
      exact ⟨j, rfl⟩
    | false => exact ⟨i, by rw [if_pos (by decide)]; rfl⟩
   ·have := decode_high (s := s) (i := i) (by omega) (by omega)
    rw [Qqn (n := ((Go.Utf8.decode s i).1 : Int)) (by omega), Qqn (n := bt8 s i) (by omega)]
    exact ⟨i, by rw [if_pos (by decide)]; rfl⟩
def nameB (s : ByteArray) : Bool := match inR 1 12 (s.size : Int) with
 | true => letB (bt8 s 0) && allN s s.size 0
 | false => false
theorem Qst (k : Nat) (hk : 100 < k) (hk2 : k <= 100000000000000000000) (s : ByteArray) : Qbf k s = some (nameB s) := by
 unfold Qbf nameB
 rw [Y0 k _ _ _ (by omega) hk2, Option.bind_some]
 cases h : inR 1 12 (s.size : Int) with
 | false => rfl
 | true =>
   have h := Qcm.1 h
   have h0 : bt8 s 0 = ((s.get! 0).toNat : Int) := Ql2 (by omega)
   have hlt : (s.get! 0).toNat < 256 := (s.get! 0).toNat_lt
   rw [if_pos rfl, if_pos (by omega), Qh5, Option.bind_some]
   rw [show IntKind.i32.wrap (bat s 0) = bt8 s 0 by
    show IntKind.i32.wrap (bt8 s 0) = bt8 s 0
    rw [h0]
    unfold IntKind.wrap
    simp [IntKind.signed, IntKind.bits]
    omega]
   cases letB (bt8 s 0) with
   | false => rfl
   | true =>
     rw [if_pos rfl]
     unfold Zr Z5 Z7
     obtain ⟨j, hj⟩ := Qss k s s.size k 0 (by omega) (by omega)
     rw [show Qj k s true k 0 = _ from hj]
     cases allN s s.size 0 with
     | true => rfl
     | false =>
       simp only [Option.bind_some]
       rw [decide_eq_true (show (0 : Int) <= (j : Int) by omega)]; rfl
def mOK (m : Qc) : Bool := inR (-25920000) 25920000 m.Least && (inR (-25920000) 25920000 m.Most && (inR 0 324000 m.Low && (inR 0 324000 m.High && inR 1 1000000 m.Speed)))
def mntE (m : Qc) : Int := match mOK m with
 | true => if m.Most < m.Least then 9 else if m.High < m.Low then 9 else if tabE m.Refraction = 0 then tabE m.Drift else tabE m.Refraction
 | false => 2
theorem Qi6 (k : Nat) (hk : 100 < k) (hk2 : k <= 100000000000000000000) (m : Qc) (h1 : m.Refraction.length < k) (h2 : m.Drift.length < k) : Yd k m = some (mntE m) := by
 unfold Yd mntE mOK
 rw [Qho k _ _ _ (by decide) hk hk2, Option.bind_some]
 cases inR (-25920000) 25920000 m.Least with
 | false => rfl
 | true =>
   cases inR (-25920000) 25920000 m.Most with
   | false => rfl
   | true =>
     rw [show (true && true) = true from rfl, if_pos rfl, Qi7 k _ _ _ _ hk hk2, Option.bind_some]
     cases inR 0 324000 m.Low with
     | false => rfl
     | true =>
       cases inR 0 324000 m.High with
       | false => rfl
       | true =>
         rw [show (true && true) = true from rfl, if_pos rfl, Y0 k _ _ _ hk hk2, Option.bind_some]
         cases inR 1 1000000 m.Speed with
         | false => rfl
         | true =>
           rw [if_pos rfl, Qi8 k hk hk2 _ h1, Qi8 k hk hk2 _ h2, Option.bind_some, Option.bind_some]
           show _ = some (if m.Most < m.Least then 9 else if m.High < m.Low then 9 else if tabE m.Refraction = 0 then tabE m.Drift else tabE m.Refraction)
           split
           ·rfl
           ·split
            ·rfl
            ·split <;> rfl
structure Mnt (m : Qc) : Prop where
 lo : -25920000 <= m.Least
 mid : m.Least <= m.Most
 hi : m.Most <= 25920000
 h0 : 0 <= m.Low /\ m.Low <= m.High /\ m.High <= 324000
 sp : 1 <= m.Speed /\ m.Speed <= 1000000
 re : Tab m.Refraction
 dr : Tab m.Drift
theorem Mnt.of {m : Qc} (h : mntE m = 0) : Mnt m := by
 unfold mntE at h
 cases h1 : mOK m with
 | false => rw [h1] at h; cases h
 | true =>
   rw [h1] at h
   have h : (if m.Most < m.Least then (9 : Int) else if m.High < m.Low then 9 else if tabE m.Refraction = 0 then tabE m.Drift else tabE m.Refraction) = 0 := h
   simp only [mOK, Bool.and_eq_true, Qcm] at h1
   split at h
   ·omega
   ·split at h
    ·omega
    ·split at h
     ·exact ⟨by omega, by omega, by omega, by omega, by omega, Tab.of ‹_›, Tab.of h⟩
     ·omega
def tOK (t : Qa) : Bool := inR 0 1295999 t.Azimuth && (inR 0 324000 t.Height && (inR 0 10000000 t.From && (inR 0 10000000 t.To && inR 1 10000 t.Dwell)))
def tgtE (t : Qa) : Int := match nameB t.Name with
 | true => match tOK t with
   | true => if t.To <= t.From then 9 else 0
   | false => 2
 | false => 4
theorem Qh6 (k : Nat) (hk : 100 < k) (hk2 : k <= 100000000000000000000) (t : Qa) : Jq k t = some (tgtE t) := by
 unfold Jq tgtE tOK
 rw [Qst k hk hk2, Option.bind_some]
 cases nameB t.Name with
 | false => rfl
 | true =>
   rw [if_pos rfl, Y0 k _ _ _ hk hk2, Option.bind_some]
   cases inR 0 1295999 t.Azimuth with
   | false => rfl
   | true =>
     rw [if_pos rfl, Y0 k _ _ _ hk hk2, Option.bind_some]
     cases inR 0 324000 t.Height with
     | false => rfl
     | true =>
       rw [if_pos rfl, Qi7 k _ _ _ _ hk hk2, Option.bind_some]
       cases inR 0 10000000 t.From with
       | false => rfl
       | true =>
         cases inR 0 10000000 t.To with
         | false => rfl
         | true =>
           rw [show (true && true) = true from rfl, if_pos rfl, Y0 k _ _ _ hk hk2, Option.bind_some]
           cases inR 1 10000 t.Dwell with
           | false => rfl
           | true =>
             show (if t.To <= t.From then some 9 else some 0) = some (if t.To <= t.From then 9 else 0)
             split <;> rfl
structure Tgt (t : Qa) : Prop where
 az : 0 <= t.Azimuth /\ t.Azimuth < 1296000
 he : 0 <= t.Height /\ t.Height <= 324000
 fr : 0 <= t.From /\ t.From < t.To /\ t.To <= 10000000
 dw : 1 <= t.Dwell /\ t.Dwell <= 10000
theorem Tgt.of {t : Qa} (h : tgtE t = 0) : Tgt t := by
 unfold tgtE at h
 cases h0 : nameB t.Name with
 | false => rw [h0] at h; cases h
 | true =>
   rw [h0] at h
   cases h1 : tOK t with
   | false => rw [h1] at h; cases h
   | true =>
     rw [h1] at h
     have h : (if t.To <= t.From then (9 : Int) else 0) = 0 := h
     simp only [tOK, Bool.and_eq_true, Qcm] at h1
     split at h
     ·omega
     ·exact ⟨by omega, by omega, by omega, by omega⟩
def apA (m : Qc) (t : Qa) (d : Int) : Int := (t.Azimuth + val m.Drift d) % 1296000
def apH (m : Qc) (t : Qa) : Int := t.Height + val m.Refraction t.Height
theorem Q0n (m : Qc) (t : Qa) (d : Int) : 0 <= apA m t d /\ apA m t d < 1296000 := by unfold apA; omega
theorem Qf9 (k : Nat) (hk : 100 < k) {m : Qc} {t : Qa} {d : Int} (hm : Mnt m) (ht : Tgt t) (hd : 0 <= d /\ d <= 100000) : Y7 k m t d = some ⟨apA m t d, apH m t⟩ := by
 unfold Y7
 have hz := ht.az
 have hh := ht.he
 have v1 := Qyc hm.dr d
 have v2 := Qyc hm.re t.Height
 rw [Qi9 k hk hm.dr (by omega), Option.bind_some, Xu (n := t.Azimuth + val m.Drift d) (by omega) (by omega), Qiw k (by omega) (by decide), Option.bind_some, Qi9 k hk hm.re (by omega), Option.bind_some, Xu (n := t.Height + _) (by omega) (by omega), Xu (n := (t.Azimuth + val m.Drift d) / 1296000 * 1296000) (by omega) (by omega), Xu (by omega) (by omega)]
 unfold apA apH
 rw [show t.Azimuth + val m.Drift d - (t.Azimuth + val m.Drift d) / 1296000 * 1296000 = (t.Azimuth + val m.Drift d) % 1296000 by omega]
def ups (a most : Int) : Nat -> Int -> List Int
 | 0, _ => []
 | d + 1, x => if a + x * 1296000 <= most then x :: ups a most d (x + 1) else []
def flt (a least most : Int) : Nat -> Int -> List Int
 | 0, _ => []
 | d + 1, x => match inR least most (a + x * 1296000) with
   | true => x :: flt a least most d (x + 1)
   | false => flt a least most d (x + 1)
theorem Qqo (a least most : Int) : ∀ (d : Nat) (x : Int), most < a + x * 1296000 -> flt a least most d x = []
 | 0, x, _ => rfl
 | d + 1, x, h => by
   simp only [flt]
   rw [show inR least most (a + x * 1296000) = false from Qtv.2 (by omega)]
   exact Qqo a least most d (x + 1) (by omega)
theorem Qtw (a least most : Int) : ∀ (d : Nat) (x : Int), least <= a + x * 1296000 -> flt a least most d x = ups a most d x
 | 0, x, _ => rfl
 | d + 1, x, h => by
   simp only [flt, ups]
   by_cases c : a + x * 1296000 <= most
   ·rw [if_pos c, show inR least most (a + x * 1296000) = true from Qcm.2 ⟨h, c⟩]
    show x :: _ = _
    rw [Qtw a least most d (x + 1) (by omega)]
   ·rw [if_neg c, show inR least most (a + x * 1296000) = false from Qtv.2 (by omega)]
    exact Qqo a least most d (x + 1) (by omega)
theorem Qqp (a least most : Int) : ∀ (n d : Nat) (x : Int), a + (x + n - 1) * 1296000 < least -> flt a least most (n + d) x = flt a least most d (x + n)
 | 0, d, x, _ => by rw [Nat.zero_add]; congr 1; omega
 | n + 1, d, x, h => by
   rw [show n + 1 + d = (n + d) + 1 by omega]
   simp only [flt]
   rw [show inR least most (a + x * 1296000) = false from Qtv.2 (by omega)]
   show flt a least most (n + d) (x + 1) = _
   rw [Qqp a least most n d (x + 1) (by omega)]
   congr 1; omega
def trn (m : Qc) (a : Int) : List Int := flt a m.Least m.Most 43 (-21)
theorem Qy0 {m : Qc} (hm : Mnt m) {a : Int} (ha : 0 <= a /\ a < 1296000) : trn m a = ups a m.Most (22 - -((a - m.Least) / 1296000)).toNat (-((a - m.Least) / 1296000)) := by
 have h1 := hm.lo
 have h2 := hm.hi
 have h3 := hm.mid
 obtain ⟨x, hx⟩ : ∃ x : Int, x = -((a - m.Least) / 1296000) := ⟨_, rfl⟩
 obtain ⟨n, hn⟩ : ∃ n : Nat, (n : Int) = x + 21 := ⟨(x + 21).toNat, by omega⟩
 rw [<- hx]
 unfold trn
 rw [show 43 = n + (22 - x).toNat by omega, Qqp a m.Least m.Most n _ (-21) (by omega), show (-21 : Int) + n = x by omega]
 exact Qtw a m.Least m.Most _ x (by omega)
theorem Q0o (k : Nat) (m : Qc) (t : Qa) (p : A26) (hm : Mnt m) (ha : 0 <= p.e0 /\ p.e0 < 1296000) : ∀ (d fuel : Nat) (y6 y7 : List Int) (x : Int), x + d = 22 -> -30 <= x -> d < fuel -> y6.length + d <= 1000 -> y7.length + d <= 1000 ->
 Xq k m t p fuel y6 y7 x = some (y6 ++ ups p.e0 m.Most d x, y7 ++ (ups p.e0 m.Most d x).map fun x => p.e0 + x * 1296000) := by
 have h2 := hm.hi
 intro d
 induction d with
 | zero =>
   intro fuel y6 y7 x hx hx2 hf h6 h7
   obtain ⟨g, rfl⟩ : ∃ g, fuel = g + 1 := ⟨fuel - 1, by omega⟩
   rw [Xq.eq_2, Xu (n := x * 1296000) (by omega) (by omega), Xu (n := p.e0 + _) (by omega) (by omega), if_neg (by omega)]
   simp [ups]
 | succ d ih =>
   intro fuel y6 y7 x hx hx2 hf h6 h7
   obtain ⟨g, rfl⟩ : ∃ g, fuel = g + 1 := ⟨fuel - 1, by omega⟩
   rw [Xq.eq_2, Xu (n := x * 1296000) (by omega) (by omega), Xu (n := p.e0 + _) (by omega) (by omega)]
   simp only [ups]
   by_cases c : p.e0 + x * 1296000 <= m.Most
   ·rw [if_pos c, if_pos (by simp; omega), if_pos (by simp; omega), Xu (n := x + 1) (by omega) (by omega), ih g _ _ (x + 1) (by omega) (by omega) (by omega) (by simp; omega) (by simp; omega), if_pos c]
    simp
   ·rw [if_neg c, if_neg c]; simp
def stpE (m : Qc) (t : Qa) (d : Int) : Int := match inR m.Low m.High (apH m t) with
 | true => if (trn m (apA m t d)).length = 0 then 12 else 0
 | false => 26
def posL (m : Qc) (t : Qa) (d : Int) : List Int := (trn m (apA m t d)).map fun x => apA m t d + x * 1296000
def Q0p : Zv := ⟨⟨ByteArray.empty, 0, 0, 0, 0, 0⟩, [], []⟩
theorem Qsu (k : Nat) (hk : 100 < k) (hk2 : k <= 100000000000000000000) {m : Qc} {t : Qa} {d : Int} (hm : Mnt m) (ht : Tgt t) (hd : 0 <= d /\ d <= 100000) :
 Qbg k m t d = some (if stpE m t d = 0 then (⟨t, trn m (apA m t d), posL m t d⟩, 0) else (Q0p, stpE m t d)) := by
 unfold Qbg stpE
 rw [Qf9 k hk hm ht hd, Option.bind_some, Y0 k _ _ _ hk hk2, Option.bind_some]
 cases inR m.Low m.High (apH m t) with
 | false => rfl
 | true =>
   have h1 := hm.lo
   have h2 := hm.hi
   have h3 := hm.mid
   have ha := Q0n m t d
   unfold Qgu
   dsimp only
   rw [if_pos rfl, Xu (n := m.Least - _) (by omega) (by omega), Xu (n := 0 - _) (by omega) (by omega), Qiw k (by omega) (by decide), Option.bind_some, Option.bind_some, Xu (by omega) (by omega)]
   have e : (0 : Int) - (0 - (m.Least - apA m t d)) / 1296000 = -((apA m t d - m.Least) / 1296000) := by
    rw [show (0 : Int) - (m.Least - apA m t d) = apA m t d - m.Least by omega]; omega
   rw [e, Q0o k m t ⟨apA m t d, apH m t⟩ hm ha (22 - -((apA m t d - m.Least) / 1296000)).toNat k [] [] _ (by omega) (by omega) (by omega) (by simp; omega) (by simp; omega), Option.bind_some]
   simp only [List.nil_append]
   rw [<- Qy0 hm ha]
   by_cases c : (trn m (apA m t d)).length = 0
   ·rw [if_pos (by omega)]
    simp only [if_pos c]
    rfl
   ·rw [if_neg (by omega)]
    simp only [if_neg c]
    rfl
def Qk5 (m : Qc) : Bool := Qsv m.Refraction && Qsv m.Drift
theorem Qtx (k : Nat) (m : Qc) : Ju k m = some (Qk5 m) := by
 unfold Ju Qk5
 rw [Qqq, Qqq]
 cases Qsv m.Refraction <;> rfl
theorem Qtz {m : Qc} (h : Qk5 m = true) : m.Refraction.length <= 43 /\ m.Drift.length <= 43 := by
 unfold Qk5 Qsv at h
 rw [Bool.and_eq_true, decide_eq_true_iff, decide_eq_true_iff] at h
 omega
theorem Qk6 (k : Nat) (m : Qc) (h1 : m.Refraction.length <= 43) (h2 : m.Drift.length <= 43) : X6 k m = some m := by
 unfold X6
 rw [Qk7 k _ (by omega), Qk7 k _ (by omega)]; rfl
theorem Qt0 (a least most : Int) : ∀ (d : Nat) (x : Int), (flt a least most d x).length <= d
 | 0, x => Nat.le_refl _
 | d + 1, x => by
   simp only [flt]
   have := Qt0 a least most d (x + 1)
   split
   ·simp only [List.length_cons]; omega
   ·omega
theorem Qt1 (m : Qc) (a : Int) : (trn m a).length <= 43 := Qt0 _ _ _ _ _
end Go.Proofs.Ytjomicmhnbmhoaa.Vg
end

section
set_option linter.unusedVariables false
set_option linter.unusedSimpArgs false
namespace Go.Proofs.Ytjomicmhnbmhoaa.Vg
open Go Go.Proofs.Ytjomicmhnbmhoaa.Ev Go.Proofs.Ytjomicmhnbmhoaa.Vv
abbrev At2 := A26
def Qqb (t o : Qa) : Bool := decide (o.Name = t.Name)
def tgE (m : Qc) (d : Int) (b : List Qa) (t : Qa) : Int := if tgtE t = 0 then (if b.any (Qqb t) = true then 5 else stpE m t d) else tgtE t
def errs (m : Qc) (d : Int) (l : List Qa) : Nat -> Nat -> Option (Int × Int)
 | 0, _ => none
 | n + 1, i => if tgE m d (l.take i) (l.getD i default) = 0 then errs m d l n (i + 1) else some ((i : Int), tgE m d (l.take i) (l.getD i default))
def trE (m : Qc) (l : List Qa) (p : At2) : Int × Int :=
 if mntE m = 0 then (if inR 0 100000 p.e0 = true then (if inR m.Least m.Most p.e1 = true then (if 20 < l.length then (0, 8) else (errs m p.e0 l l.length 0).getD (0, 0)) else (0, 2)) else (0, 2)) else (0, mntE m)
def stp (m : Qc) (d : Int) (t : Qa) : Zv := ⟨t, trn m (apA m t d), posL m t d⟩
theorem Q1q (k : Nat) (l : List Qa) (t : Qa) (hl : l.length < 1000000000) : ∀ (d fuel i : Nat), l.length = i + d -> d < fuel ->
 ∃ j : Nat, Qd k l (t.Name, t.Azimuth, t.Height, t.From, t.To, t.Dwell) fuel (i : Int) = some (match (l.drop i).any (Qqb t) with | true => .inl (j : Int) | false => .inr ()) := by
 intro d
 induction d with
 | zero =>
   intro fuel i h hf
   obtain ⟨g, rfl⟩ : ∃ g, fuel = g + 1 := ⟨fuel - 1, by omega⟩
   rw [Qd.eq_2, if_neg (by omega), List.drop_eq_nil_of_le (by omega)]
   exact ⟨0, rfl⟩
 | succ d ih =>
   intro fuel i h hf
   obtain ⟨g, rfl⟩ : ∃ g, fuel = g + 1 := ⟨fuel - 1, by omega⟩
   obtain ⟨j, hj⟩ := ih g (i + 1) (by omega) (by omega)
   rw [Qd.eq_2, if_pos (by omega), if_pos (by omega), Qav (by omega), hj, Qag (y := l) (i := i) (by omega) default]
   simp only [Int.toNat_natCast, List.any_cons]
   show ∃ j : Nat, ((some (Qqb t (l.getD i default))).bind _) = _
   rw [Option.bind_some]
   cases Qqb t (l.getD i default) with
   | true => exact ⟨i, by rw [if_pos rfl]; rfl⟩
   | false => exact ⟨j, by rw [if_neg (by decide)]; rfl⟩
theorem Qtf (k : Nat) (hk : 100 < k) (hk2 : k <= 100000000000000000000) (b : List Qa) (hb : b.length < k) (hb2 : b.length <= 1000) (t : Qa) : Yw k b t = some (if tgtE t = 0 then (if b.any (Qqb t) = true then 5 else 0) else tgtE t) := by
 unfold Yw
 rw [Qh6 k hk hk2, Option.bind_some]
 by_cases h : tgtE t = 0
 ·rw [if_pos h, if_pos h]
  unfold Qm Qq
  obtain ⟨j, hj⟩ := Q1q k b t (by omega) b.length k 0 (by omega) hb
  rw [show Qd k b (t.Name, t.Azimuth, t.Height, t.From, t.To, t.Dwell) k 0 = _ from hj, List.drop_zero]
  cases b.any (Qqb t) with
  | true =>
    simp only [Option.bind_some]
    rw [decide_eq_true (show (0 : Int) <= (j : Int) by omega)]; rfl
  | false => rfl
 ·rw [if_neg h, if_neg h]
theorem Qzt {α : Type} (l : List α) (i : Nat) : sl l 0 i = l.take i := by unfold sl; rfl
theorem Q1r (k : Nat) (hk : 100 < k) (hk2 : k <= 100000000000000000000) {m : Qc} (hm : Mnt m) (l : List Qa) (p : At2) (hp : 0 <= p.e0 /\ p.e0 <= 100000) (hl : l.length <= 20) : ∀ (d fuel i : Nat) (y : List Zv), l.length = i + d -> d < fuel -> y.length = i ->
 Xe k m l p fuel y (i : Int) = some (match errs m p.e0 l d i with | some e => .inl e | none => .inr (y ++ (l.drop i).map (stp m p.e0))) := by
 intro d
 induction d with
 | zero =>
   intro fuel i y h hf hy
   obtain ⟨g, rfl⟩ : ∃ g, fuel = g + 1 := ⟨fuel - 1, by omega⟩
   rw [Xe.eq_2, if_neg (by omega), List.drop_eq_nil_of_le (by omega)]
   simp [errs]
 | succ d ih =>
   intro fuel i y h hf hy
   obtain ⟨g, rfl⟩ : ∃ g, fuel = g + 1 := ⟨fuel - 1, by omega⟩
   rw [Xe.eq_2, if_pos (by omega), if_pos (by omega), if_pos (by omega), Qzt, Qtf k hk hk2 _ (by rw [List.length_take]; omega) (by rw [List.length_take]; omega), Option.bind_some, Qav (by omega), Qag (y := l) (i := i) (by omega) default]
   simp only [Int.toNat_natCast, errs]
   by_cases h1 : tgtE (l.getD i default) = 0
   ·rw [if_pos h1]
    by_cases h2 : (l.take i).any (Qqb (l.getD i default)) = true
    ·have e : tgE m p.e0 (l.take i) (l.getD i default) = 5 := by unfold tgE; rw [if_pos h1, if_pos h2]
     rw [if_pos h2, e]; rfl
    ·have e : tgE m p.e0 (l.take i) (l.getD i default) = stpE m (l.getD i default) p.e0 := by unfold tgE; rw [if_pos h1, if_neg h2]
     rw [if_neg h2, if_pos rfl, Qsu k hk hk2 hm (Tgt.of h1) hp, Option.bind_some, e]
     by_cases h3 : stpE m (l.getD i default) p.e0 = 0
     ·rw [if_pos h3, if_pos h3, if_pos rfl, if_pos (by simp; omega), ih g (i + 1) _ (by omega) (by omega) (by simp; omega)]
      congr 1
      cases errs m p.e0 l d (i + 1) with
      | some e => rfl
      | none => simp [stp]
     ·rw [if_neg h3, if_neg h3, if_neg h3]
   ·have e : tgE m p.e0 (l.take i) (l.getD i default) = tgtE (l.getD i default) := by unfold tgE; rw [if_neg h1]
    rw [if_neg h1, if_neg h1, e, if_neg h1]
theorem Qj5 (m : Qc) (d : Int) (l : List Qa) : ∀ (n i : Nat) (e : Int × Int), errs m d l n i = some e -> e.2 ≠ 0
 | 0, i, e, h => by cases h
 | n + 1, i, e, h => by
   simp only [errs] at h
   split at h
   ·exact Qj5 m d l n (i + 1) e h
   ·injection h with h; subst h; assumption
theorem Qj6 (m : Qc) (d : Int) (l : List Qa) : ∀ (n i : Nat), errs m d l n i = none -> ∀ j, i <= j -> j < i + n -> tgE m d (l.take j) (l.getD j default) = 0
 | 0, i, h, j, h1, h2 => by omega
 | n + 1, i, h, j, h1, h2 => by
   simp only [errs] at h
   split at h
   ·by_cases e : j = i
    ·subst e; assumption
    ·exact Qj6 m d l n (i + 1) h j (by omega) (by omega)
   ·cases h
theorem Qtg (k : Nat) (hk : 100 < k) (hk2 : k <= 100000000000000000000) (m : Qc) (h1 : m.Refraction.length < k) (h2 : m.Drift.length < k) (l : List Qa) (p : At2) :
 Qbp k m l p = some ((if (trE m l p).2 = 0 then ⟨p.e1, l.map (stp m p.e0)⟩ else ⟨0, []⟩), trE m l p) := by
 unfold Qbp trE Yi
 rw [Qi6 k hk hk2 m h1 h2, Option.bind_some, Y0 k _ _ _ hk hk2, Y0 k _ _ _ hk hk2]
 simp only [Option.bind_some]
 by_cases c1 : mntE m = 0
 ·simp only [if_pos c1]
  by_cases c2 : inR 0 100000 p.e0 = true
  ·simp only [if_pos c2, Option.bind_some, if_true]
   by_cases c3 : inR m.Least m.Most p.e1 = true
   ·simp only [if_pos c3]
    by_cases c4 : 20 < l.length
    ·rw [if_pos (by omega)]
     simp only [if_pos c4]
     rfl
    ·rw [if_neg (by omega), show Xe k m l p k [] 0 = _ from Q1r k hk hk2 (Mnt.of c1) l p (Qcm.1 c2) (by omega) l.length k 0 [] (by omega) (by omega) rfl, Option.bind_some]
     simp only [if_neg c4]
     cases he : errs m p.e0 l l.length 0 with
     | some e =>
       have := Qj5 m p.e0 l _ _ e he
       show some (_, _, _) = some ((if e.2 = 0 then _ else _), e)
       rw [if_neg this]
     | none =>
       show some (_, _, _) = some ((if (0 : Int) = 0 then _ else _), (0, 0))
       rw [if_pos rfl]; rfl
   ·simp only [if_neg c3]
    rfl
  ·simp only [if_neg c2, Option.bind_some]
   rfl
 ·simp only [if_neg c1]
structure Tr (m : Qc) (l : List Qa) (p : At2) : Prop where
 mnt : Mnt m
 day : 0 <= p.e0 /\ p.e0 <= 100000
 beg : m.Least <= p.e1 /\ p.e1 <= m.Most
 len : l.length <= 20
 tgt : ∀ i, i < l.length -> Tgt (l.getD i default) /\ stpE m (l.getD i default) p.e0 = 0
theorem Tr.of {m : Qc} {l : List Qa} {p : At2} (h : (trE m l p).2 = 0) : Tr m l p := by
 unfold trE at h
 split at h
 ·rename_i c1
  split at h
  ·rename_i c2
   split at h
   ·rename_i c3
    split at h
    ·cases h
    ·rename_i c4
     cases he : errs m p.e0 l l.length 0 with
     | some e => rw [he] at h; exact absurd h (Qj5 m p.e0 l _ _ e he)
     | none =>
       refine ⟨Mnt.of c1, Qcm.1 c2, Qcm.1 c3, by omega, fun i hi => ?_⟩
       have := Qj6 m p.e0 l _ _ he i (by omega) (by omega)
       unfold tgE at this
       split at this
       ·rename_i g1
        split at this
        ·cases this
        ·exact ⟨Tgt.of g1, this⟩
       ·contradiction
   ·cases h
  ·cases h
 ·contradiction
def Qoh (x : Qbs) : Bool := x.Targets.all (fun t => decide (t.Name.size <= 30)) && (Qk5 x.Mount && decide (x.Targets.length <= 5 \/ 20 < x.Targets.length /\ x.Targets.length <= 23))
theorem Qvp {i : Nat} (h : i < 9223372036854775807) : w64 ((i : Int) + 1) = ((i + 1 : Nat) : Int) := by
 rw [Xu (by omega) (by omega)]; omega
theorem Qzu (k : Nat) (x : Qbs) (hl : x.Targets.length <= 9223372036854775807) : ∀ (d fuel i : Nat), x.Targets.length = i + d -> d < fuel ->
 Zh k x fuel (i : Int) = some (sumB ((x.Targets.drop i).all (fun t => decide (t.Name.size <= 30)))) := by
 intro d
 induction d with
 | zero =>
   intro fuel i h hf
   obtain ⟨g, rfl⟩ : ∃ g, fuel = g + 1 := ⟨fuel - 1, by omega⟩
   rw [Zh.eq_2, if_neg (by omega), List.drop_eq_nil_of_le (by omega)]; rfl
 | succ d ih =>
   intro fuel i h hf
   obtain ⟨g, rfl⟩ : ∃ g, fuel = g + 1 := ⟨fuel - 1, by omega⟩
   rw [Zh.eq_2, if_pos (by omega), if_pos (by omega), Qvp (by omega), ih g (i + 1) (by omega) (by omega), Qag (y := x.Targets) (i := i) (by omega) default]
   simp only [Int.toNat_natCast, List.all_cons]
   by_cases c : 30 < ((x.Targets.getD i default).Name.size : Int)
   ·rw [if_pos c, decide_eq_false (by omega)]; rfl
   ·rw [if_neg c, decide_eq_true (show (x.Targets.getD i default).Name.size <= 30 by omega)]; rfl
theorem short_any (k : Nat) (x : Qbs) (hl : x.Targets.length < k) (hk : x.Targets.length <= 9223372036854775807) : Jv k x = some (Qoh x) := by
 unfold Jv Qoh
 rw [show Zh k x k 0 = _ from Qzu k x (by omega) x.Targets.length k 0 (by omega) hl, List.drop_zero, Option.bind_some, Qtx]
 cases x.Targets.all (fun t => decide (t.Name.size <= 30)) with
 | false => rfl
 | true =>
   simp only [sumB, Option.bind_some]
   cases Qk5 x.Mount with
   | false => rfl
   | true =>
     rw [if_pos rfl]
     by_cases c1 : (x.Targets.length : Int) <= 5
     ·rw [if_pos c1, decide_eq_true (show x.Targets.length <= 5 \/ 20 < x.Targets.length /\ x.Targets.length <= 23 by omega)]; rfl
     ·rw [if_neg c1]
      by_cases c2 : 20 < (x.Targets.length : Int)
      ·rw [if_pos c2]
       congr 1
       show decide _ = decide _
       rw [decide_eq_decide]; omega
      ·rw [if_neg c2, decide_eq_false (show ¬(x.Targets.length <= 5 \/ 20 < x.Targets.length /\ x.Targets.length <= 23) by omega)]; rfl
theorem Qp3 {x : Qbs} (h : Qoh x = true) : x.Mount.Refraction.length <= 43 /\ x.Mount.Drift.length <= 43 /\ x.Targets.length <= 23 := by
 unfold Qoh at h
 rw [Bool.and_eq_true, Bool.and_eq_true] at h
 obtain ⟨a, b⟩ := Qtz h.2.1
 have := of_decide_eq_true h.2.2
 omega
theorem Qoi (k : Nat) (l : List Qa) (hl : l.length <= 1000000000) : Jb k l = some l := by
 unfold Jb
 rw [if_pos (by simpa using hl)]; rfl
end Go.Proofs.Ytjomicmhnbmhoaa.Vg
end

section
set_option linter.unusedVariables false
set_option linter.unusedSimpArgs false
namespace Go.Proofs.Ytjomicmhnbmhoaa.Vg
open Go Go.Proofs.Ytjomicmhnbmhoaa.Ev Go.Proofs.Ytjomicmhnbmhoaa.Vv
def absI (n : Int) : Int := if n < 0 then -n else n
def cst (a b : Int) : Int := if 648000 < absI (b - a) then absI (b - a) + 10000000000 else absI (b - a)
def small (a : Int) : Prop := -1000000000000 <= a /\ a <= 1000000000000
theorem Qpg {a b : Int} {A : Int} (ha : -A <= a /\ a <= A) (hb : -A <= b /\ b <= A) : 0 <= absI (b - a) /\ absI (b - a) <= 2 * A := by unfold absI; split <;> omega
theorem Qga (k : Nat) {a b : Int} (ha : small a) (hb : small b) : Ye k a b = some (absI (b - a), decide (648000 < absI (b - a))) := by
 unfold Ye
 unfold small at ha hb
 have e : maxI (w64 (b - a)) (w64 (a - b)) = absI (b - a) := by
  rw [Xu (n := b - a) (by omega) (by omega), Xu (n := a - b) (by omega) (by omega)]
  unfold maxI absI
  split <;> split <;> omega
 rw [e]
theorem Qf0 (k : Nat) {a b : Int} (ha : small a) (hb : small b) : Xr k a b = some (cst a b) := by
 unfold Xr cst
 have h := Qpg ha hb
 rw [Qga k ha hb, Option.bind_some]
 by_cases c : 648000 < absI (b - a)
 ·rw [if_pos (by simpa using c), if_pos c, Xu (by omega) (by omega)]
 ·rw [if_neg (by simpa using c), if_neg c]
def near (a : Int) : Prop := -25920000 <= a /\ a <= 25920000
theorem near.small {a : Int} (h : near a) : small a := by unfold near at h; unfold Vg.small; omega
theorem Qh7 {a b : Int} (ha : near a) (hb : near b) : 0 <= cst a b /\ cst a b <= 11000000000 := by
 have h := Qpg (A := 25920000) ha hb
 unfold cst; split <;> omega
def pos (m : Qc) (t : Qa) (d x : Int) : Int := apA m t d + x * 1296000
theorem Qbh (a least most : Int) : ∀ (n : Nat) (x y : Int), y ∈ flt a least most n x -> least <= a + y * 1296000 /\ a + y * 1296000 <= most
 | 0, x, y, h => by cases h
 | n + 1, x, y, h => by
   simp only [flt] at h
   cases c : inR least most (a + x * 1296000) with
   | true =>
     rw [c] at h
     rcases List.mem_cons.1 h with rfl | h
     ·exact Qcm.1 c
     ·exact Qbh a least most n (x + 1) y h
   | false => rw [c] at h; exact Qbh a least most n (x + 1) y h
theorem Q0q {m : Qc} (hm : Mnt m) {t : Qa} {d x : Int} (h : x ∈ trn m (apA m t d)) : m.Least <= pos m t d x /\ pos m t d x <= m.Most := Qbh _ _ _ _ _ _ h
theorem Ql3 {m : Qc} (hm : Mnt m) {t : Qa} {d x : Int} (h : x ∈ trn m (apA m t d)) : near (pos m t d x) := by
 have := Q0q hm h
 have h1 := hm.lo
 have h2 := hm.hi
 unfold near; omega
def chL (m : Qc) (d : Int) : List Qa -> List Int -> Option (List Int)
 | [], _ => some []
 | _ :: _, [] => none
 | t :: l, x :: xs => if x ∈ trn m (apA m t d) then (chL m d l xs).map (pos m t d x :: ·) else none
theorem Qbi {ps : List Int} (hp : ∀ p ∈ ps, near p) {i : Nat} (h : i < ps.length) : near (ps.getD i 0) := hp _ (by rw [List.getD_eq_getElem?_getD, List.getElem?_eq_getElem h]; exact List.getElem_mem _)
theorem Qqr {m : Qc} (hm : Mnt m) {d : Int} : ∀ {l : List Qa} {xs ps : List Int}, chL m d l xs = some ps -> (∀ p ∈ ps, near p) /\ ps.length = l.length
 | [], xs, ps, h => by simp only [chL, Option.some.injEq] at h; subst h; exact ⟨fun p hp => absurd hp (by simp), rfl⟩
 | t :: l, [], ps, h => by cases h
 | t :: l, x :: xs, ps, h => by
   simp only [chL] at h
   split at h
   ·rename_i c
    cases hc : chL m d l xs with
    | none => rw [hc] at h; cases h
    | some qs =>
      rw [hc] at h
      simp only [Option.map_some, Option.some.injEq] at h
      subst h
      obtain ⟨g1, g2⟩ := Qqr hm hc
      refine ⟨fun p hp => ?_, by simp [g2]⟩
      rcases List.mem_cons.1 hp with rfl | hp
      ·exact Ql3 hm c
      ·exact g1 p hp
   ·cases h
def sumC : Int -> List Int -> Int
 | _, [] => 0
 | f, p :: ps => cst f p + sumC p ps
theorem Qt2 : ∀ (ps : List Int) (f : Int), near f -> (∀ p ∈ ps, near p) -> 0 <= sumC f ps /\ sumC f ps <= 11000000000 * ps.length
 | [], f, hf, hp => by simp [sumC]
 | p :: ps, f, hf, hp => by
   have h1 := Qh7 hf (hp p (by simp))
   have h2 := Qt2 ps p (hp p (by simp)) (fun q hq => hp q (by simp [hq]))
   simp only [sumC, List.length_cons]
   omega
def chE (m : Qc) (l : List Qa) (p : At2) (xs : List Int) : Int × Int := if xs.length = l.length then (match chL m p.e0 l xs with | some ps => (sumC p.e1 ps, 0) | none => (0, 6)) else (0, 10)
theorem Qel {m : Qc} {l : List Qa} {p : At2} (h : Tr m l p) : near p.e1 := by
 have h1 := h.mnt.lo
 have h2 := h.mnt.hi
 have h3 := h.beg
 unfold near; omega
theorem Q0r (m : Qc) (a x : Int) (h : x ∈ trn m a) : -30 <= x /\ x <= 30 := by
 have key : ∀ (n : Nat) (z : Int), x ∈ flt a m.Least m.Most n z -> z <= x /\ x < z + n := by
  intro n
  induction n with
  | zero => intro z h; cases h
  | succ n ih =>
    intro z h
    simp only [flt] at h
    split at h
    ·rcases List.mem_cons.1 h with rfl | h
     ·omega
     ·have := ih (z + 1) h; omega
    ·have := ih (z + 1) h; omega
 have := key 43 (-21) h
 omega
end Go.Proofs.Ytjomicmhnbmhoaa.Vg
end

section
set_option linter.unusedVariables false
set_option linter.unusedSimpArgs false
namespace Go.Proofs.Ytjomicmhnbmhoaa.Vg
open Go Go.Proofs.Ytjomicmhnbmhoaa.Ev Go.Proofs.Ytjomicmhnbmhoaa.Vv
abbrev MAXI : Int := 9223372036854775807
theorem Qut (x y z : Int) : z <= minI x y ↔ z <= x /\ z <= y := by unfold minI; split <;> omega
theorem Q2w {α : Type} (xs : List α) {i : Nat} (h : xs.length <= i) : xs.drop i = [] := List.drop_eq_nil_of_le h
theorem Qb9 {xs : List Int} {i : Nat} (h : i < xs.length) : xs.getD i 0 ∈ xs := by
 rw [List.getD_eq_getElem?_getD, List.getElem?_eq_getElem h]; exact List.getElem_mem _
def hg (to : Int) : Int -> List Int -> List Int -> Int
 | acc, f :: fs, b :: bs => hg to (minI acc (b + cst f to)) fs bs
 | acc, _, _ => acc
def allB (to v : Int) : List Int -> List Int -> Bool
 | f :: fs, b :: bs => decide (v <= b + cst f to) && allB to v fs bs
 | _, _ => true
theorem Q02 (to v : Int) : ∀ (fs bs : List Int) (acc : Int), v <= hg to acc fs bs ↔ v <= acc /\ allB to v fs bs = true
 | [], bs, acc => by simp [hg, allB]
 | f :: fs, [], acc => by simp [hg, allB]
 | f :: fs, b :: bs, acc => by
   simp only [hg, allB]
   rw [Q02 to v fs bs, Qut, Bool.and_eq_true, decide_eq_true_iff]
   constructor
   ·intro ⟨⟨a, b⟩, c⟩; exact ⟨a, b, c⟩
   ·intro ⟨a, b, c⟩; exact ⟨⟨a, b⟩, c⟩
theorem Qrg {to v f b : Int} : ∀ (fs bs : List Int), allB to v fs bs = true -> (f, b) ∈ fs.zip bs -> v <= b + cst f to
 | [], bs, _, hm => by simp at hm
 | g :: fs, [], _, hm => by simp at hm
 | g :: fs, c :: bs, ha, hm => by
   simp only [allB, Bool.and_eq_true, decide_eq_true_iff] at ha
   rw [List.zip_cons_cons, List.mem_cons] at hm
   rcases hm with hm | hm
   ·injection hm with e1 e2; subst e1; subst e2; exact ha.1
   ·exact Qrg fs bs ha.2 hm
theorem Quu (to : Int) (fs bs : List Int) (acc f b : Int) (h : (f, b) ∈ fs.zip bs) : hg to acc fs bs <= b + cst f to :=
 Qrg fs bs ((Q02 to (hg to acc fs bs) fs bs acc).1 (Int.le_refl _)).2 h
def rowB : List Int -> List Int -> Bool
 | h :: hs, v :: vs => decide (v <= h) && rowB hs vs
 | _, _ => true
def okP (m : Qc) (d : Int) : List Int -> List Int -> List Qa -> List (List Int) -> Bool
 | fs, bs, t :: l, r :: rs => rowB ((posL m t d).map fun to => hg to MAXI fs bs) r && okP m d (posL m t d) r l rs
 | _, _, _, _ => true
def shp (m : Qc) (d : Int) : List Qa -> List (List Int) -> Bool
 | t :: l, r :: rs => decide (r.length = (trn m (apA m t d)).length) && shp m d l rs
 | _, _ => true
def Qob (ps : List (List Int)) : Bool := ps.all fun r => r.all (inR (-1000000000000) 1000000000000)
def ptE (m : Qc) (d : Int) (l : List Qa) (ps : List (List Int)) : Int :=
 if ps.length = l.length then (if shp m d l ps = true then (if Qob ps = true then 0 else 2) else 10) else 10
theorem Qm0 {m : Qc} {d : Int} {l : List Qa} {i : Nat} (h : i < l.length) : (l.map (stp m d)).getD i default = stp m d (l.getD i default) := by
 rw [List.getD_eq_getElem?_getD, List.getElem?_map, List.getD_eq_getElem?_getD, List.getElem?_eq_getElem h]; rfl
theorem Qdt (m : Qc) (t : Qa) (d : Int) : (posL m t d).length = (trn m (apA m t d)).length := by unfold posL; rw [List.length_map]
theorem Qdh {m : Qc} (hm : Mnt m) {t : Qa} {d : Int} : ∀ p ∈ posL m t d, near p := by
 intro p hp
 obtain ⟨x, hx, rfl⟩ := List.mem_map.1 hp
 exact Ql3 hm hx
theorem Qi2 {p r : List Int} {a v : Int} {i : Nat} (h : p.length = i) : (p ++ a :: r).set i v = p ++ v :: r := by
 subst h
 rw [List.set_append_right _ _ (Nat.le_refl _), Nat.sub_self]; rfl
theorem Qrh {p r : List Int} {a : Int} {i : Nat} (h : p.length = i) : (p ++ a :: r).getD i 0 = a := by
 subst h
 rw [List.getD_eq_getElem?_getD, List.getElem?_append_right (Nat.le_refl _), Nat.sub_self]; rfl
theorem Qzh (k : Nat) (T : Xt) (ps : List (List Int)) (n : Nat) (hn : 0 < n /\ n <= 1000) (i : Nat) (fs bs : List Int) (to : Int) (hF : (T.stops.getD (n - 1) default).positions = fs) (hB : ps.getD (n - 1) default = bs) (hT : ((T.stops.getD n default).positions).getD i 0 = to)
 (hfb : fs.length = bs.length) (hbl : bs.length <= 50) (hf : ∀ f ∈ fs, near f) (hb : ∀ b ∈ bs, -1000000000000 <= b /\ b <= 1000000000000) (ht : near to) : ∀ (d fuel j : Nat) (pre rest : List Int) (acc : Int), bs.length = j + d -> d < fuel -> pre.length = i ->
 Zd k T (n : Int) ps (i : Int) fuel (pre ++ acc :: rest) (j : Int) = some (pre ++ hg to acc (fs.drop j) (bs.drop j) :: rest) := by
 have hw : w64 ((n : Int) - 1) = ((n - 1 : Nat) : Int) := by rw [Xu (by omega) (by omega)]; omega
 intro d
 induction d with
 | zero =>
   intro fuel j pre rest acc h hfu hp
   obtain ⟨g, rfl⟩ : ∃ g, fuel = g + 1 := ⟨fuel - 1, by omega⟩
   rw [Zd.eq_2, hw]
   simp only [Int.toNat_natCast, hB]
   rw [if_neg (by omega), Q2w (fs) (by omega)]
   simp [hg]
 | succ d ih =>
   intro fuel j pre rest acc h hfu hp
   obtain ⟨g, rfl⟩ : ∃ g, fuel = g + 1 := ⟨fuel - 1, by omega⟩
   have hfj : near (fs.getD j 0) := Qbi hf (by omega)
   have hbj := hb (bs.getD j 0) (Qb9 (by omega))
   have hc := Qh7 hfj ht
   rw [Zd.eq_2, hw]
   simp only [Int.toNat_natCast, hB, hF, hT]
   rw [if_pos (by omega), if_pos (by omega), if_pos (by simp; omega), if_pos (by omega), Qf0 k hfj.small ht.small, Option.bind_some, Xu (n := bs.getD j 0 + _) (by omega) (by omega), Qrh hp, Qi2 hp, Qav (by omega), ih g (j + 1) pre rest _ (by omega) (by omega) hp, Qag (y := fs) (i := j) (by omega) 0, Qag (y := bs) (i := j) (by omega) 0]
   rfl
theorem Qzi (k : Nat) (hk : 100 < k) (T : Xt) (ps : List (List Int)) (n : Nat) (hn : 0 < n /\ n <= 1000) (fs bs tos : List Int) (hF : (T.stops.getD (n - 1) default).positions = fs) (hB : ps.getD (n - 1) default = bs) (hT : (T.stops.getD n default).positions = tos)
 (hfb : fs.length = bs.length) (hbl : bs.length <= 50) (hf : ∀ f ∈ fs, near f) (hb : ∀ b ∈ bs, -1000000000000 <= b /\ b <= 1000000000000) (ht : ∀ t ∈ tos, near t) (htl : tos.length <= 50) : ∀ (d fuel i : Nat) (pre : List Int), tos.length = i + d -> d < fuel -> pre.length = i ->
 Ze k T (n : Int) ps fuel (pre ++ List.replicate d 0) (i : Int) = some (pre ++ (tos.drop i).map fun to => hg to MAXI fs bs) := by
 intro d
 induction d with
 | zero =>
   intro fuel i pre h hfu hp
   obtain ⟨g, rfl⟩ : ∃ g, fuel = g + 1 := ⟨fuel - 1, by omega⟩
   rw [Ze.eq_2]
   simp only [Int.toNat_natCast, hT]
   rw [if_neg (by omega), List.drop_eq_nil_of_le (by omega)]; simp
 | succ d ih =>
   intro fuel i pre h hfu hp
   obtain ⟨g, rfl⟩ : ∃ g, fuel = g + 1 := ⟨fuel - 1, by omega⟩
   rw [Ze.eq_2]
   simp only [Int.toNat_natCast, hT]
   rw [if_pos (by omega), if_pos (by omega), if_pos (by simp; omega), List.replicate_succ, Qi2 hp, show Zd k T (n : Int) ps (i : Int) k (pre ++ MAXI :: List.replicate d 0) 0 = _ from Qzh k T ps n hn i fs bs (tos.getD i 0) hF hB (by rw [hT]) hfb hbl hf hb (Qbi ht (by omega)) bs.length k 0 pre (List.replicate d 0) MAXI (by omega) (by omega) hp, Option.bind_some, List.drop_zero, List.drop_zero, Qav (by omega), show pre ++ hg (tos.getD i 0) MAXI fs bs :: List.replicate d 0 = (pre ++ [hg (tos.getD i 0) MAXI fs bs]) ++ List.replicate d 0 by simp, ih g (i + 1) _ (by omega) (by omega) (by simp; omega), Qag (y := tos) (i := i) (by omega) 0]
   simp
theorem Qxg (k : Nat) (hk : 100 < k) (T : Xt) (i : Nat) (to : Int) (hT : ((T.stops.getD 0 default).positions).getD i 0 = to) (hb : near T.begin) (ht : near to) (pre rest : List Int) (acc : Int) (hp : pre.length = i) :
 Zp k T 0 (i : Int) k (pre ++ acc :: rest) 0 = some (pre ++ hg to acc [T.begin] [0] :: rest) := by
 obtain ⟨g, rfl⟩ : ∃ g, k = g + 2 := ⟨k - 2, by omega⟩
 have hc := Qh7 hb ht
 rw [Zp.eq_2, if_pos (by decide), if_pos (by decide), if_pos (by decide), if_pos (by simp; omega), if_pos (by simp)]
 simp only [Int.toNat_natCast, Int.toNat_zero, hT]
 show ((Xr (g + 2) T.begin to).bind _) = _
 rw [Qf0 (g + 2) hb.small ht.small, Option.bind_some, Qrh hp, Qi2 hp, show w64 (([0] : List Int).getD 0 0 + cst T.begin to) = 0 + cst T.begin to from Xu (by show _ <= 0 + _; omega) (by show 0 + _ <= _; omega), show w64 (0 + 1) = 1 from by decide, Zp.eq_2, if_neg (by decide)]
 rfl
theorem Qxh (k : Nat) (hk : 100 < k) (T : Xt) (tos : List Int) (hT : (T.stops.getD 0 default).positions = tos) (hb : near T.begin) (ht : ∀ t ∈ tos, near t) (htl : tos.length <= 50) : ∀ (d fuel i : Nat) (pre : List Int), tos.length = i + d -> d < fuel -> pre.length = i ->
 Zf k T 0 fuel (pre ++ List.replicate d 0) (i : Int) = some (pre ++ (tos.drop i).map fun to => hg to MAXI [T.begin] [0]) := by
 intro d
 induction d with
 | zero =>
   intro fuel i pre h hfu hp
   obtain ⟨g, rfl⟩ : ∃ g, fuel = g + 1 := ⟨fuel - 1, by omega⟩
   rw [Zf.eq_2]
   simp only [Int.toNat_natCast, Int.toNat_zero, hT]
   rw [if_neg (by omega), List.drop_eq_nil_of_le (by omega)]; simp
 | succ d ih =>
   intro fuel i pre h hfu hp
   obtain ⟨g, rfl⟩ : ∃ g, fuel = g + 1 := ⟨fuel - 1, by omega⟩
   rw [Zf.eq_2]
   simp only [Int.toNat_natCast, Int.toNat_zero, hT]
   rw [if_pos (by omega), if_pos (by omega), if_pos (by simp; omega), List.replicate_succ, Qi2 hp, Qxg k hk T i (tos.getD i 0) (by rw [hT]) hb (Qbi ht (by omega)) pre (List.replicate d 0) MAXI hp, Option.bind_some, Qav (by omega), show pre ++ hg (tos.getD i 0) MAXI [T.begin] [0] :: List.replicate d 0 = (pre ++ [hg (tos.getD i 0) MAXI [T.begin] [0]]) ++ List.replicate d 0 by simp, ih g (i + 1) _ (by omega) (by omega) (by simp; omega), Qag (y := tos) (i := i) (by omega) 0]
   simp
def Qgl (m : Qc) (p : At2) (l : List Qa) (n : Nat) : List Int := if n = 0 then [p.e1] else posL m (l.getD (n - 1) default) p.e0
def Qee (ps : List (List Int)) (n : Nat) : List Int := if n = 0 then [0] else ps.getD (n - 1) default
theorem Qs7 (m : Qc) (p : At2) (l : List Qa) (n : Nat) : Qgl m p l (n + 1) = posL m (l.getD n default) p.e0 := by unfold Qgl; rw [if_neg (by omega)]; rfl
theorem Qs8 (ps : List (List Int)) (n : Nat) : Qee ps (n + 1) = ps.getD n default := by unfold Qee; rw [if_neg (by omega)]; rfl
theorem Quv {m : Qc} {d : Int} : ∀ {l : List Qa} {ps : List (List Int)}, shp m d l ps = true -> ps.length = l.length -> ∀ i, i < l.length -> (ps.getD i default).length = (posL m (l.getD i default) d).length
 | [], _, _, _, i, h => by simp at h
 | t :: l, [], _, hl, i, h => by simp at hl
 | t :: l, r :: rs, hs, hl, i, h => by
   simp only [shp, Bool.and_eq_true, decide_eq_true_iff] at hs
   cases i with
   | zero => rw [Qdt]; exact hs.1
   | succ i => exact Quv hs.2 (by simpa using hl) i (by simpa using h)
theorem Quw {ps : List (List Int)} (h : Qob ps = true) {i : Nat} (hi : i < ps.length) : ∀ b ∈ ps.getD i default, -1000000000000 <= b /\ b <= 1000000000000 := by
 intro b hb
 unfold Qob at h
 have h1 := List.all_eq_true.1 h _ (show ps.getD i default ∈ ps by rw [List.getD_eq_getElem?_getD, List.getElem?_eq_getElem hi]; exact List.getElem_mem _)
 exact Qcm.1 (List.all_eq_true.1 h1 b hb)
structure Pt (m : Qc) (l : List Qa) (p : At2) (ps : List (List Int)) : Prop where
 tr : Tr m l p
 len : ps.length = l.length
 shape : shp m p.e0 l ps = true
 small : Qob ps = true
theorem Pt.row {m : Qc} {l : List Qa} {p : At2} {ps : List (List Int)} (h : Pt m l p ps) {i : Nat} (hi : i < l.length) : (ps.getD i default).length = (posL m (l.getD i default) p.e0).length /\ (posL m (l.getD i default) p.e0).length <= 43 := by
 have := Quv h.shape h.len i hi
 have h2 := Qdt m (l.getD i default) p.e0
 have h3 := Qt1 m (apA m (l.getD i default) p.e0)
 omega
theorem Pt.prev {m : Qc} {l : List Qa} {p : At2} {ps : List (List Int)} (h : Pt m l p ps) {n : Nat} (hn : n < l.length) : (Qgl m p l n).length = (Qee ps n).length /\ (Qee ps n).length <= 50 /\ (∀ f ∈ Qgl m p l n, near f) /\ ∀ b ∈ Qee ps n, -1000000000000 <= b /\ b <= 1000000000000 := by
 unfold Qgl Qee
 by_cases c : n = 0
 ·rw [if_pos c, if_pos c]
  refine ⟨rfl, by decide, fun f hf => ?_, fun b hb => ?_⟩
  ·rw [List.mem_singleton] at hf; subst hf; exact Qel h.tr
  ·rw [List.mem_singleton] at hb; subst hb; decide
 ·rw [if_neg c, if_neg c]
  have := h.row (i := n - 1) (by omega)
  exact ⟨by omega, by omega, Qdh h.tr.mnt, Quw h.small (by rw [h.len]; omega)⟩
def mnF (x : Int) (l : List Int) : Int := l.foldl minI x
def bd (ps : List (List Int)) : Int := if ps.length = 0 then 0 else mnF ((ps.getD (ps.length - 1) default).getD 0 0) ((ps.getD (ps.length - 1) default).drop 1)
theorem Qux : ∀ (l : List Int) (x : Int), mnF x l <= x /\ ∀ v ∈ l, mnF x l <= v
 | [], x => ⟨Int.le_refl _, fun v h => by cases h⟩
 | a :: l, x => by
   obtain ⟨h1, h2⟩ := Qux l (minI x a)
   have h3 := (Qut x a (minI x a)).1 (Int.le_refl _)
   have e : mnF x (a :: l) = mnF (minI x a) l := rfl
   rw [e]
   refine ⟨by omega, fun v hv => ?_⟩
   rcases List.mem_cons.1 hv with rfl | hv
   ·omega
   ·exact h2 v hv
theorem Q2x (k : Nat) (xs : List Int) (hl : xs.length <= 1000) : ∀ (d fuel i : Nat) (x : Int), xs.length = i + d -> d < fuel ->
 Zg k xs fuel x (i : Int) = some (mnF x (xs.drop i)) := by
 intro d
 induction d with
 | zero =>
   intro fuel i x h hf
   obtain ⟨g, rfl⟩ : ∃ g, fuel = g + 1 := ⟨fuel - 1, by omega⟩
   rw [Zg.eq_2, if_neg (by omega), List.drop_eq_nil_of_le (by omega)]; rfl
 | succ d ih =>
   intro fuel i x h hf
   obtain ⟨g, rfl⟩ : ∃ g, fuel = g + 1 := ⟨fuel - 1, by omega⟩
   rw [Zg.eq_2, if_pos (by omega), if_pos (by omega), Qav (by omega), ih g (i + 1) _ (by omega) (by omega), Qag (y := xs) (i := i) (by omega) 0]
   simp only [Int.toNat_natCast]; rfl
theorem Qpx (k : Nat) (hk : 100 < k) {m : Qc} {l : List Qa} {p : At2} {ps : List (List Int)} (h : Pt m l p ps) (hne : ∀ i, i < l.length -> 0 < (trn m (apA m (l.getD i default) p.e0)).length) : Qa3 k ps = some (bd ps) := by
 unfold Qa3 bd Y4
 have hlen := h.tr.len
 have hpl := h.len
 by_cases c : ps.length = 0
 ·rw [if_pos (by omega), if_pos c]
 ·have hr := h.row (i := ps.length - 1) (by omega)
  have hq := Qdt m (l.getD (ps.length - 1) default) p.e0
  have hz := hne (ps.length - 1) (by omega)
  rw [if_neg (by omega), if_neg c, Xu (by omega) (by omega), if_pos (by omega), show ((ps.length : Int) - 1).toNat = ps.length - 1 by omega, if_neg (by omega), if_pos (by omega)]
  simp only [Int.toNat_zero]
  rw [show Zg k (ps.getD (ps.length - 1) default) k ((ps.getD (ps.length - 1) default).getD 0 0) 1 = _ from Q2x k _ (by omega) ((ps.getD (ps.length - 1) default).length - 1) k 1 _ (by omega) (by omega)]
  rfl
def clE (m : Qc) (l : List Qa) (p : At2) (ps : List (List Int)) : Int × Int := if ptE m p.e0 l ps = 0 then (if okP m p.e0 [p.e1] [0] l ps = true then (bd ps, 0) else (0, 22)) else (0, ptE m p.e0 l ps)
theorem Pt.of {m : Qc} {l : List Qa} {p : At2} {ps : List (List Int)} (h : Tr m l p) (hp : ptE m p.e0 l ps = 0) : Pt m l p ps := by
 unfold ptE at hp
 split at hp
 ·split at hp
  ·split at hp
   ·exact ⟨h, ‹_›, ‹_›, ‹_›⟩
   ·cases hp
  ·cases hp
 ·cases hp
theorem Qjy {m : Qc} {l : List Qa} {p : At2} (h : Tr m l p) : ∀ i, i < l.length -> 0 < (trn m (apA m (l.getD i default) p.e0)).length := by
 intro i hi
 have := (h.tgt i hi).2
 unfold stpE at this
 split at this
 ·split at this
  ·cases this
  ·omega
 ·cases this
theorem Qri {m : Qc} {t : Qa} {d : Int} {i : Nat} (h : i < (trn m (apA m t d)).length) : (posL m t d).getD i 0 = pos m t d ((trn m (apA m t d)).getD i 0) := by
 unfold posL
 rw [List.getD_eq_getElem?_getD, List.getElem?_map, List.getElem?_eq_getElem h, List.getD_eq_getElem?_getD, List.getElem?_eq_getElem h]; rfl
theorem Qzj {xs : List Int} {i : Nat} (h : i < xs.length) : xs.getD i 0 ∈ xs := by
 rw [List.getD_eq_getElem?_getD, List.getElem?_eq_getElem h]; exact List.getElem_mem _
theorem Qyl : ∀ (hs vs : List Int) (i : Nat), rowB hs vs = true -> i < hs.length -> i < vs.length -> vs.getD i 0 <= hs.getD i 0
 | [], vs, i, _, h, _ => by simp at h
 | h :: hs, [], i, _, _, h2 => by simp at h2
 | h :: hs, v :: vs, i, hb, h1, h2 => by
   simp only [rowB, Bool.and_eq_true, decide_eq_true_iff] at hb
   cases i with
   | zero => exact hb.1
   | succ i => exact Qyl hs vs i hb.2 (by simpa using h1) (by simpa using h2)
theorem Qpy {fs bs : List Int} {i : Nat} (h1 : i < fs.length) (h2 : i < bs.length) : (fs.getD i 0, bs.getD i 0) ∈ fs.zip bs := by
 rw [List.mem_iff_getElem?]
 refine ⟨i, ?_⟩
 rw [List.getElem?_zip_eq_some]
 constructor
 ·show fs[i]? = some (fs.getD i 0)
  rw [List.getD_eq_getElem?_getD, List.getElem?_eq_getElem h1]; rfl
 ·show bs[i]? = some (bs.getD i 0)
  rw [List.getD_eq_getElem?_getD, List.getElem?_eq_getElem h2]; rfl
theorem dual {m : Qc} {d : Int} : ∀ (l : List Qa) (ps : List (List Int)) (xs qs fs bs : List Int) (f b : Int), l ≠ [] -> ps.length = l.length -> shp m d l ps = true -> okP m d fs bs l ps = true -> (f, b) ∈ fs.zip bs -> chL m d l xs = some qs ->
 ∃ v ∈ ps.getD (ps.length - 1) default, v <= b + sumC f qs
 | [], _, _, _, _, _, _, _, h, _, _, _, _, _ => absurd rfl h
 | t :: l, [], _, _, _, _, _, _, _, h, _, _, _, _ => by simp at h
 | t :: l, r :: rs, [], qs, fs, bs, f, b, _, _, _, _, _, hc => by simp [chL] at hc
 | t :: l, r :: rs, x :: xs, qs, fs, bs, f, b, _, hlen, hs, ho, hz, hc => by
   simp only [shp, Bool.and_eq_true, decide_eq_true_iff] at hs
   simp only [okP, Bool.and_eq_true] at ho
   simp only [chL] at hc
   split at hc
   case isFalse => cases hc
   rename_i hx
   cases hq : chL m d l xs with
   | none => rw [hq] at hc; cases hc
   | some qs' =>
     rw [hq] at hc
     simp only [Option.map_some, Option.some.injEq] at hc
     subst hc
     obtain ⟨i, hi, hxi⟩ := List.mem_iff_getElem.1 hx
     have hxi' : (trn m (apA m t d)).getD i 0 = x := by rw [List.getD_eq_getElem?_getD, List.getElem?_eq_getElem hi]; exact hxi
     have hpi : (posL m t d).getD i 0 = pos m t d x := by rw [Qri hi, hxi']
     have hpl := Qdt m t d
     have hv := Qyl _ r i ho.1 (by rw [List.length_map]; omega) (by omega)
     rw [show ((posL m t d).map fun to => hg to MAXI fs bs).getD i 0 = hg (pos m t d x) MAXI fs bs by
      rw [List.getD_eq_getElem?_getD, List.getElem?_map, List.getElem?_eq_getElem (by omega)]
      rw [List.getD_eq_getElem?_getD, List.getElem?_eq_getElem (by omega)] at hpi
      show hg ((posL m t d)[i]) MAXI fs bs = _
      rw [show (posL m t d)[i] = pos m t d x from hpi]] at hv
     have hg1 := Quu (pos m t d x) fs bs MAXI f b hz
     by_cases c : l = []
     ·subst c
      have : rs = [] := by cases rs with | nil => rfl | cons a b => simp at hlen
      subst this
      simp only [chL, Option.some.injEq] at hq
      subst hq
      refine ⟨r.getD i 0, show r.getD i 0 ∈ r from Qb9 (by omega), ?_⟩
      simp only [sumC]; omega
     ·have hl2 : rs.length = l.length := by simpa using hlen
      obtain ⟨v, h1, h2⟩ := dual l rs xs qs' (posL m t d) r (pos m t d x) (r.getD i 0) c hl2 hs.2 ho.2 (by rw [<- hpi]; exact Qpy (by omega) (by omega)) hq
      have hne : 0 < rs.length := by rw [hl2]; exact List.length_pos_iff.2 c
      refine ⟨v, ?_, ?_⟩
      ·rw [List.length_cons, show rs.length + 1 - 1 = (rs.length - 1) + 1 by omega]; exact h1
      ·simp only [sumC]; omega
theorem Qxi {m : Qc} {l : List Qa} {p : At2} {xs : List Int} {ps : List (List Int)} (h1 : (chE m l p xs).2 = 0) (h2 : (clE m l p ps).2 = 0) : (clE m l p ps).1 <= (chE m l p xs).1 := by
 unfold chE at h1 ⊢
 unfold clE at h2 ⊢
 split at h1
 case isFalse => cases h1
 rename_i hx
 cases hc : chL m p.e0 l xs with
 | none => rw [hc] at h1; cases h1
 | some qs =>
   rw [if_pos hx]
   split at h2
   case isFalse hn => exact absurd h2 hn
   rename_i hp
   split at h2
   case isFalse => cases h2
   rename_i ho
   rw [if_pos hp, if_pos ho]
   unfold ptE at hp
   split at hp
   case isFalse => cases hp
   rename_i hlen
   split at hp
   case isFalse => cases hp
   rename_i hs
   show bd ps <= sumC p.e1 qs
   unfold bd
   by_cases c : ps.length = 0
   ·rw [if_pos c]
    have : l = [] := List.length_eq_zero_iff.1 (by omega)
    subst this
    simp only [chL, Option.some.injEq] at hc
    subst hc
    exact Int.le_refl _
   ·rw [if_neg c]
    obtain ⟨v, g1, g2⟩ := dual l ps xs qs [p.e1] [0] p.e1 0 (fun e => c (by rw [hlen, e]; rfl)) hlen hs ho (by simp) hc
    have hle : mnF ((ps.getD (ps.length - 1) default).getD 0 0) ((ps.getD (ps.length - 1) default).drop 1) <= v := by
     obtain ⟨k1, k2⟩ := Qux ((ps.getD (ps.length - 1) default).drop 1) ((ps.getD (ps.length - 1) default).getD 0 0)
     generalize ps.getD (ps.length - 1) default = r at g1 k1 k2
     cases r with
     | nil => cases g1
     | cons a r =>
       rcases List.mem_cons.1 g1 with rfl | g1
       ·exact k1
       ·exact k2 v g1
    omega
end Go.Proofs.Ytjomicmhnbmhoaa.Vg
end

section
set_option linter.unusedVariables false
set_option linter.unusedSimpArgs false
namespace Go.Proofs.Ytjomicmhnbmhoaa.Vg
open Go Go.Proofs.Ytjomicmhnbmhoaa.Ev Go.Proofs.Ytjomicmhnbmhoaa.Vv
def potR (m : Qc) (d : Int) : List Int -> List Int -> List Qa -> List (List Int)
 | _, _, [] => []
 | fs, bs, t :: l => ((posL m t d).map fun to => hg to MAXI fs bs) :: potR m d (posL m t d) ((posL m t d).map fun to => hg to MAXI fs bs) l
theorem Qr1 (m : Qc) (d : Int) : ∀ (l : List Qa) (fs bs : List Int), (potR m d fs bs l).length = l.length
 | [], _, _ => rfl
 | t :: l, fs, bs => by simp only [potR, List.length_cons]; rw [Qr1 m d l]
theorem Qr2 (m : Qc) (d : Int) : ∀ (l : List Qa) (fs bs : List Int), shp m d l (potR m d fs bs l) = true
 | [], _, _ => rfl
 | t :: l, fs, bs => by
   simp only [potR, shp, Bool.and_eq_true, decide_eq_true_iff]
   exact ⟨by rw [List.length_map, Qdt], Qr2 m d l _ _⟩
theorem Qoy : ∀ r : List Int, rowB r r = true
 | [] => rfl
 | a :: r => by simp only [rowB, Bool.and_eq_true, decide_eq_true_iff]; exact ⟨Int.le_refl _, Qoy r⟩
theorem Qvu (m : Qc) (d : Int) : ∀ (l : List Qa) (fs bs : List Int), okP m d fs bs l (potR m d fs bs l) = true
 | [], fs, bs => by simp [potR, okP]
 | t :: l, fs, bs => by
   simp only [potR, okP, Bool.and_eq_true]
   exact ⟨Qoy _, Qvu m d l _ _⟩
theorem Qr3 (m : Qc) (d : Int) : ∀ (l : List Qa) (fs bs : List Int) (n : Nat), n < l.length -> (potR m d fs bs l).getD n default =
 (posL m (l.getD n default) d).map fun to => hg to MAXI (if n = 0 then fs else posL m (l.getD (n - 1) default) d) (if n = 0 then bs else (potR m d fs bs l).getD (n - 1) default)
 | [], fs, bs, n, h => by simp at h
 | t :: l, fs, bs, 0, h => rfl
 | t :: l, fs, bs, n + 1, h => by
   have ih := Qr3 m d l (posL m t d) ((posL m t d).map fun to => hg to MAXI fs bs) n (by simpa using h)
   rw [show (potR m d fs bs (t :: l)).getD (n + 1) default = (potR m d (posL m t d) ((posL m t d).map fun to => hg to MAXI fs bs) l).getD n default from rfl, ih]
   simp only [if_neg (show ¬(n + 1 = 0) by omega), Nat.add_sub_cancel]
   cases n with
   | zero => rfl
   | succ n =>
     simp only [if_neg (show ¬(n + 1 = 0) by omega), Nat.add_sub_cancel]
     rfl
theorem Qyt (to : Int) : ∀ (fs bs : List Int) (acc : Int), hg to acc fs bs = acc \/ ∃ f b, (f, b) ∈ fs.zip bs /\ hg to acc fs bs = b + cst f to
 | [], bs, acc => .inl (by simp [hg])
 | f :: fs, [], acc => .inl (by simp [hg])
 | f :: fs, b :: bs, acc => by
   simp only [hg]
   rcases Qyt to fs bs (minI acc (b + cst f to)) with h | ⟨f', b', h1, h2⟩
   ·have e : minI acc (b + cst f to) = acc \/ minI acc (b + cst f to) = b + cst f to := by unfold minI; split <;> simp
    rcases e with e | e
    ·left; rw [h, e]
    ·right; exact ⟨f, b, by simp, by rw [h, e]⟩
   ·right; exact ⟨f', b', by simp [h1], h2⟩
theorem Q1v {fs bs : List Int} {f b : Int} (h : (f, b) ∈ fs.zip bs) : ∃ i, i < fs.length /\ i < bs.length /\ f = fs.getD i 0 /\ b = bs.getD i 0 := by
 obtain ⟨i, hi, he⟩ := List.mem_iff_getElem.1 h
 rw [List.length_zip] at hi
 rw [List.getElem_zip] at he
 injection he with e1 e2
 exact ⟨i, by omega, by omega, by rw [List.getD_eq_getElem?_getD, List.getElem?_eq_getElem (by omega)]; exact e1.symm, by rw [List.getD_eq_getElem?_getD, List.getElem?_eq_getElem (by omega)]; exact e2.symm⟩
theorem Q1w {to B : Int} (ht : near to) {fs bs : List Int} (hl : fs.length = bs.length) (hne : 0 < fs.length) (hf : ∀ f ∈ fs, near f) (hb : ∀ b ∈ bs, 0 <= b /\ b <= B) (hB : B <= 1000000000000) :
 (∃ i, i < fs.length /\ hg to MAXI fs bs = bs.getD i 0 + cst (fs.getD i 0) to) /\ 0 <= hg to MAXI fs bs /\ hg to MAXI fs bs <= B + 11000000000 := by
 have h0 := Quu to fs bs MAXI _ _ (Qpy (fs := fs) (bs := bs) (i := 0) hne (by omega))
 have c0 := Qh7 (Qbi hf hne) ht
 have b0 := hb _ (Qb9 (xs := bs) (i := 0) (by omega))
 rcases Qyt to fs bs MAXI with h | ⟨f, b, h1, h2⟩
 ·exfalso; rw [h] at h0; unfold MAXI at h0; omega
 ·obtain ⟨i, i1, i2, rfl, rfl⟩ := Q1v h1
  have c1 := Qh7 (Qbi hf i1) ht
  have b1 := hb _ (Qb9 (xs := bs) i2)
  exact ⟨⟨i, i1, h2⟩, by omega, by omega⟩
theorem Qlu {m : Qc} (hm : Mnt m) (d : Int) : ∀ (l : List Qa) (fs bs : List Int) (B : Int), (∀ t ∈ l, 0 < (posL m t d).length) -> fs.length = bs.length -> 0 < fs.length -> (∀ f ∈ fs, near f) -> (∀ b ∈ bs, 0 <= b /\ b <= B) -> B + 11000000000 * l.length <= 1000000000000 ->
 ∀ r ∈ potR m d fs bs l, ∀ b ∈ r, 0 <= b /\ b <= 1000000000000
 | [], fs, bs, B, _, _, _, _, _, _, r, hr => by simp [potR] at hr
 | t :: l, fs, bs, B, hp, hl, hne, hf, hb, hB, r, hr => by
   have hrow : ∀ b ∈ (posL m t d).map fun to => hg to MAXI fs bs, 0 <= b /\ b <= B + 11000000000 := fun b hbm => by
    obtain ⟨to, hto, rfl⟩ := List.mem_map.1 hbm
    exact (Q1w (Qdh hm to hto) hl hne hf hb (by simp only [List.length_cons] at hB; omega)).2
   simp only [potR, List.mem_cons] at hr
   simp only [List.length_cons] at hB
   rcases hr with rfl | hr
   ·intro b hbm
    have := hrow b hbm
    omega
   ·exact Qlu hm d l _ _ (B + 11000000000) (fun t' h => hp t' (by simp [h])) (by rw [List.length_map]) (hp t (by simp)) (Qdh hm) hrow (by omega) r hr
def pots (m : Qc) (l : List Qa) (p : At2) : List (List Int) := potR m p.e0 [p.e1] [0] l
theorem Qxx {m : Qc} {l : List Qa} {p : At2} (h : Tr m l p) : ∀ t ∈ l, 0 < (posL m t p.e0).length := fun t ht => by
 obtain ⟨i, hi, rfl⟩ := List.mem_iff_getElem.1 ht
 have := Qjy h i hi
 rw [List.getD_eq_getElem?_getD, List.getElem?_eq_getElem hi] at this
 rw [Qdt]; exact this
theorem Qvv {m : Qc} {l : List Qa} {p : At2} (h : Tr m l p) : ∀ r ∈ pots m l p, ∀ b ∈ r, 0 <= b /\ b <= 1000000000000 :=
 Qlu h.mnt p.e0 l [p.e1] [0] 0 (Qxx h) rfl (by simp) (fun f hf => by rw [List.mem_singleton] at hf; subst hf; exact Qel h) (fun b hb => by rw [List.mem_singleton] at hb; subst hb; decide) (by have := h.len; omega)
theorem Qnf {m : Qc} {l : List Qa} {p : At2} (h : Tr m l p) : Pt m l p (pots m l p) := by
 refine ⟨h, Qr1 _ _ _ _ _, Qr2 _ _ _ _ _, ?_⟩
 unfold Qob
 refine List.all_eq_true.2 fun r hr => List.all_eq_true.2 fun b hb => Qcm.2 ?_
 have := Qvv h r hr b hb
 omega
theorem Qu5 {m : Qc} {l : List Qa} {p : At2} (h : Tr m l p) : clE m l p (pots m l p) = (bd (pots m l p), 0) := by
 have hp := Qnf h
 unfold clE ptE
 rw [if_pos hp.len, if_pos hp.shape, if_pos hp.small, if_pos rfl, show okP m p.e0 [p.e1] [0] l (pots m l p) = true from Qvu _ _ _ _ _, if_pos rfl]
theorem Qr4 {m : Qc} {l : List Qa} {p : At2} {n : Nat} (hn : n < l.length) : (pots m l p).getD n default = (posL m (l.getD n default) p.e0).map fun to => hg to MAXI (Qgl m p l n) (Qee (pots m l p) n) := by
 unfold Qgl Qee
 exact Qr3 m p.e0 l [p.e1] [0] n hn
theorem Qvw (k : Nat) (hk : 100 < k) {m : Qc} {l : List Qa} {p : At2} {ps : List (List Int)} (h : Tr m l p) {n : Nat} (hn : n < l.length) (hpl : n <= ps.length) (g1 : (Qgl m p l n).length = (Qee ps n).length) (g2 : (Qee ps n).length <= 50) (g3 : ∀ f ∈ Qgl m p l n, near f) (g4 : ∀ b ∈ Qee ps n, -1000000000000 <= b /\ b <= 1000000000000) :
 Jw k ⟨p.e1, l.map (stp m p.e0)⟩ (n : Int) ps = some ((posL m (l.getD n default) p.e0).map fun to => hg to MAXI (Qgl m p l n) (Qee ps n)) := by
 have hlen := h.len
 have hrow : (posL m (l.getD n default) p.e0).length <= 43 := by rw [Qdt]; exact Qt1 _ _
 have hto := Qdh h.mnt (t := l.getD n default) (d := p.e0)
 unfold Jw
 have hs : ((l.map (stp m p.e0)).getD n default).positions = posL m (l.getD n default) p.e0 := by rw [Qm0 hn]; rfl
 by_cases c : n = 0
 ·subst c
  rw [if_neg (by decide), if_pos (by simp; omega)]
  simp only [Int.toNat_natCast, hs]
  rw [if_pos (by omega)]
  have := Qxh k hk ⟨p.e1, l.map (stp m p.e0)⟩ (posL m (l.getD 0 default) p.e0) hs (Qel h) hto (by omega) (posL m (l.getD 0 default) p.e0).length k 0 [] (by omega) (by omega) rfl
  rw [List.nil_append, List.nil_append, List.drop_zero] at this
  rw [show Zf k ⟨p.e1, l.map (stp m p.e0)⟩ ((0 : Nat) : Int) k (List.replicate (posL m (l.getD 0 default) p.e0).length 0) 0 = _ from this, Option.bind_some]
  rfl
 ·have hw : w64 ((n : Int) - 1) = ((n - 1 : Nat) : Int) := by rw [Xu (by omega) (by omega)]; omega
  rw [if_pos (by omega), hw, if_pos (by simp; omega), if_pos (by omega), if_pos (by simp; omega)]
  simp only [Int.toNat_natCast, hs]
  rw [if_pos (by omega)]
  have hF : ((l.map (stp m p.e0)).getD (n - 1) default).positions = Qgl m p l n := by rw [Qm0 (by omega)]; unfold Qgl; rw [if_neg c]; rfl
  have hB : ps.getD (n - 1) default = Qee ps n := by unfold Qee; rw [if_neg c]
  have := Qzi k hk ⟨p.e1, l.map (stp m p.e0)⟩ ps n (by omega) (Qgl m p l n) (Qee ps n) (posL m (l.getD n default) p.e0) hF hB hs g1 g2 g3 g4 hto (by omega) (posL m (l.getD n default) p.e0).length k 0 [] (by omega) (by omega) rfl
  rw [List.nil_append, List.nil_append, List.drop_zero] at this
  rw [show Ze k ⟨p.e1, l.map (stp m p.e0)⟩ (n : Int) ps k (List.replicate (posL m (l.getD n default) p.e0).length 0) 0 = _ from this, Option.bind_some]
theorem Qtl {ps : List (List Int)} {n : Nat} (hn : n <= ps.length) : Qee (ps.take n) n = Qee ps n := by
 unfold Qee
 by_cases c : n = 0
 ·rw [if_pos c, if_pos c]
 ·rw [if_neg c, if_neg c, List.getD_eq_getElem?_getD, List.getElem?_take, if_pos (by omega), List.getD_eq_getElem?_getD]
theorem Q21 (k : Nat) (hk : 100 < k) {m : Qc} {l : List Qa} {p : At2} (h : Tr m l p) : ∀ (d fuel n : Nat), l.length = n + d -> d < fuel ->
 Q7 k ⟨p.e1, l.map (stp m p.e0)⟩ fuel ((pots m l p).take n) (n : Int) = some (pots m l p) := by
 have hp := Qnf h
 have hpl := hp.len
 have hlen := h.len
 intro d
 induction d with
 | zero =>
   intro fuel n hd hf
   obtain ⟨g, rfl⟩ : ∃ g, fuel = g + 1 := ⟨fuel - 1, by omega⟩
   rw [Q7.eq_2, if_neg (by simp; omega), List.take_of_length_le (by omega)]
 | succ d ih =>
   intro fuel n hd hf
   obtain ⟨g, rfl⟩ : ∃ g, fuel = g + 1 := ⟨fuel - 1, by omega⟩
   obtain ⟨g1, g2, g3, g4⟩ := hp.prev (n := n) (by omega)
   have hb := Qtl (ps := pots m l p) (n := n) (by omega)
   rw [Q7.eq_2, if_pos (by simp; omega), Qvw k hk h (by omega) (by rw [List.length_take]; omega) (by rw [hb]; exact g1) (by rw [hb]; exact g2) g3 (by rw [hb]; exact g4), Option.bind_some, hb, <- Qr4 (by omega), if_pos (by simp; omega), Qav (by omega)]
   have := ih g (n + 1) (by omega) (by omega)
   rw [List.take_succ_eq_append_getElem (by omega)] at this
   rw [List.getD_eq_getElem?_getD, List.getElem?_eq_getElem (by omega)]
   exact this
theorem Qzz (k : Nat) (hk : 100 < k) {m : Qc} {l : List Qa} {p : At2} (h : Tr m l p) : X4 k ⟨p.e1, l.map (stp m p.e0)⟩ = some (pots m l p) := by
 have hlen := h.len
 unfold X4
 have := Q21 k hk h l.length k 0 (by omega) (by omega)
 rw [List.take_zero] at this
 rw [show Q7 k ⟨p.e1, l.map (stp m p.e0)⟩ k [] 0 = _ from this]; rfl
def bst (g : Nat -> Int) : Nat -> Nat
 | 0 => 0
 | i + 1 => if g i < g (bst g i) then i else bst g i
theorem Qoz (g : Nat -> Int) : ∀ n, bst g n = 0 \/ bst g n < n
 | 0 => .inl rfl
 | n + 1 => by
   simp only [bst]
   split
   ·right; omega
   ·rcases Qoz g n with h | h
    ·exact .inl h
    ·right; omega
theorem Qr5 (g : Nat -> Int) : ∀ n j, j < n -> g (bst g n) <= g j
 | 0, j, h => by omega
 | n + 1, j, h => by
   simp only [bst]
   split
   ·rename_i c
    rcases Nat.eq_or_lt_of_le (Nat.le_of_lt_succ h) with rfl | h'
    ·exact Int.le_refl _
    ·have := Qr5 g n j h'; omega
   ·rename_i c
    rcases Nat.eq_or_lt_of_le (Nat.le_of_lt_succ h) with rfl | h'
    ·omega
    ·exact Qr5 g n j h'
theorem Q22 (k : Nat) (T : Xt) (P : List (List Int)) (S : List Zv) (y2 : List Int) (x : Int × Zv) (n : Nat) (hx : x.1 = (n : Int)) (hn : n < P.length) (hl : (P.getD n default).length = x.2.positions.length) (hl2 : x.2.positions.length <= 1000) (hb : ∀ b ∈ P.getD n default, 0 <= b /\ b <= 1000000000000) :
 ∀ (d fuel i : Nat), x.2.positions.length = i + d -> d < fuel ->
   Za k T P S y2 x fuel (bst (fun j => (P.getD n default).getD j 0 + 0) i : Nat) (i : Int) = some ((bst (fun j => (P.getD n default).getD j 0 + 0) x.2.positions.length : Nat) : Int) := by
 intro d
 induction d with
 | zero =>
   intro fuel i h hf
   obtain ⟨g, rfl⟩ : ∃ g, fuel = g + 1 := ⟨fuel - 1, by omega⟩
   rw [Za.eq_2, if_neg (by omega), show i = x.2.positions.length by omega]
 | succ d ih =>
   intro fuel i h hf
   obtain ⟨g, rfl⟩ : ∃ g, fuel = g + 1 := ⟨fuel - 1, by omega⟩
   have hbt := Qoz (fun j => (P.getD n default).getD j 0 + 0) i
   have ih' := ih g (i + 1) (by omega) (by omega)
   have h1 := hb _ (Qb9 (xs := P.getD n default) (i := i) (by omega))
   have h2 := hb _ (Qb9 (xs := P.getD n default) (i := bst (fun j => (P.getD n default).getD j 0 + 0) i) (by omega))
   simp only [bst] at ih'
   rw [Za.eq_2, hx]
   simp only [Int.toNat_natCast]
   rw [if_pos (by omega), if_pos (by omega), if_pos (by omega), if_pos (by omega)]
   unfold Jo
   rw [Option.bind_some, if_pos (by omega), if_pos (by omega), Option.bind_some, Qav (by omega)]
   have e1 : w64 ((P.getD n default).getD i 0 + 0) = (P.getD n default).getD i 0 + 0 := Xu (by omega) (by omega)
   have e2 : w64 ((P.getD n default).getD (bst (fun j => (P.getD n default).getD j 0 + 0) i) 0 + 0) = (P.getD n default).getD (bst (fun j => (P.getD n default).getD j 0 + 0) i) 0 + 0 := Xu (by omega) (by omega)
   by_cases c : (P.getD n default).getD i 0 + 0 < (P.getD n default).getD (bst (fun j => (P.getD n default).getD j 0 + 0) i) 0 + 0
   ·rw [if_pos (by rw [e1, e2]; exact c)]; rw [if_pos c] at ih'; exact ih'
   ·rw [if_neg (by rw [e1, e2]; exact c)]; rw [if_neg c] at ih'; exact ih'
theorem Q23 (k : Nat) (T : Xt) (P : List (List Int)) (S : List Zv) (y2 : List Int) (z : ByteArray × Int × Int × Int × Int × Int × (List Int) × (List Int) × Int) (q : Int) (hq : near q) (x : Int × Zv) (n : Nat) (hx : x.1 = (n : Int)) (hn : n < P.length) (hl : (P.getD n default).length = x.2.positions.length) (hl2 : x.2.positions.length <= 1000) (hb : ∀ b ∈ P.getD n default, 0 <= b /\ b <= 1000000000000)
 (hp : ∀ f ∈ x.2.positions, near f) (hz : 0 <= z.2.2.2.2.2.2.2.2 /\ z.2.2.2.2.2.2.2.2 < (z.2.2.2.2.2.2.2.1.length : Int)) (hzq : z.2.2.2.2.2.2.2.1.getD z.2.2.2.2.2.2.2.2.toNat 0 = q) :
 ∀ (d fuel i : Nat), x.2.positions.length = i + d -> d < fuel ->
   Zb k T P S y2 z x fuel (bst (fun j => (P.getD n default).getD j 0 + cst (x.2.positions.getD j 0) q) i : Nat) (i : Int) = some ((bst (fun j => (P.getD n default).getD j 0 + cst (x.2.positions.getD j 0) q) x.2.positions.length : Nat) : Int) := by
 intro d
 induction d with
 | zero =>
   intro fuel i h hf
   obtain ⟨g, rfl⟩ : ∃ g, fuel = g + 1 := ⟨fuel - 1, by omega⟩
   rw [Zb.eq_2, if_neg (by omega), show i = x.2.positions.length by omega]
 | succ d ih =>
   intro fuel i h hf
   obtain ⟨g, rfl⟩ : ∃ g, fuel = g + 1 := ⟨fuel - 1, by omega⟩
   have hbt := Qoz (fun j => (P.getD n default).getD j 0 + cst (x.2.positions.getD j 0) q) i
   have ih' := ih g (i + 1) (by omega) (by omega)
   simp only [bst] at ih'
   rw [Zb.eq_2, hx]
   generalize hB : bst (fun j => (P.getD n default).getD j 0 + cst (x.2.positions.getD j 0) q) i = B at *
   have h1 := hb _ (Qb9 (xs := P.getD n default) (i := i) (by omega))
   have h2 := hb _ (Qb9 (xs := P.getD n default) (i := B) (by omega))
   have n1 := Qbi hp (i := i) (by omega)
   have n2 := Qbi hp (i := B) (by omega)
   have c1 := Qh7 n1 hq
   have c2 := Qh7 n2 hq
   simp only [Int.toNat_natCast]
   rw [if_pos (by omega), if_pos (by omega), if_pos (by omega), if_pos (by omega)]
   unfold Jp
   rw [if_pos hz, if_pos hz, hzq, Qf0 k n1.small hq.small, Qf0 k n2.small hq.small]
   simp only [Option.bind_some]
   rw [if_pos (by omega), if_pos (by omega), Qav (by omega)]
   have e1 : w64 ((P.getD n default).getD i 0 + cst (x.2.positions.getD i 0) q) = (P.getD n default).getD i 0 + cst (x.2.positions.getD i 0) q := Xu (by omega) (by omega)
   have e2 : w64 ((P.getD n default).getD B 0 + cst (x.2.positions.getD B 0) q) = (P.getD n default).getD B 0 + cst (x.2.positions.getD B 0) q := Xu (by omega) (by omega)
   by_cases c : (P.getD n default).getD i 0 + cst (x.2.positions.getD i 0) q < (P.getD n default).getD B 0 + cst (x.2.positions.getD B 0) q
   ·rw [if_pos (by rw [e1, e2]; exact c)]; rw [if_pos c] at ih'; exact ih'
   ·rw [if_neg (by rw [e1, e2]; exact c)]; rw [if_neg c] at ih'; exact ih'
theorem Qvx : ∀ (l : List Int) (x : Int), mnF x l = x \/ mnF x l ∈ l
 | [], x => .inl rfl
 | a :: l, x => by
   have e : mnF x (a :: l) = mnF (minI x a) l := rfl
   rw [e]
   have h : minI x a = x \/ minI x a = a := by unfold minI; split <;> simp
   rcases Qvx l (minI x a) with h1 | h1
   ·rcases h with h | h
    ·left; rw [h1, h]
    ·right; rw [h1, h]; simp
   ·right; exact List.mem_cons_of_mem _ h1
theorem Qz0 {P : List (List Int)} (hP : 0 < P.length) (hr : 0 < (P.getD (P.length - 1) default).length) {b : Nat} (hb : b < (P.getD (P.length - 1) default).length) (hle : ∀ j, j < (P.getD (P.length - 1) default).length -> (P.getD (P.length - 1) default).getD b 0 <= (P.getD (P.length - 1) default).getD j 0) : bd P = (P.getD (P.length - 1) default).getD b 0 := by
 unfold bd
 rw [if_neg (by omega)]
 generalize P.getD (P.length - 1) default = r at *
 cases r with
 | nil => simp at hr
 | cons a r =>
   have e1 : (a :: r).getD 0 0 = a := rfl
   have e2 : (a :: r).drop 1 = r := rfl
   rw [e1, e2]
   obtain ⟨h1, h2⟩ := Qux r a
   refine Int.le_antisymm ?_ ?_
   ·cases b with
    | zero => exact h1
    | succ b => exact h2 _ (Qb9 (xs := r) (i := b) (by simpa using hb))
   ·rcases Qvx r a with h | h
    ·rw [h]; exact hle 0 (by simp)
    ·obtain ⟨j, hj, he⟩ := List.mem_iff_getElem.1 h
     have := hle (j + 1) (by simpa using hj)
     rw [<- he]
     rw [show (a :: r).getD (j + 1) 0 = r.getD j 0 from rfl, List.getD_eq_getElem?_getD (l := r), List.getElem?_eq_getElem hj] at this
     exact this
theorem set_drop {y : List Int} {d : Nat} (h : d < y.length) (v : Int) : (y.set d v).drop d = v :: y.drop (d + 1) := by
 rw [List.set_eq_take_append_cons_drop, if_pos h, List.drop_append_of_le_length (by rw [List.length_take]; omega), List.drop_of_length_le (by rw [List.length_take]; omega), List.nil_append]
def Inv (m : Qc) (l : List Qa) (p : At2) (d : Nat) (y2 : List Int) (st : Sum Unit (ByteArray × Int × Int × Int × Int × Int × (List Int) × (List Int) × Int)) : Prop :=
 (d = l.length /\ st = .inl ()) \/ (d < l.length /\ ∃ (b : Nat) (q : Int) (tail : List Int) (z : ByteArray × Int × Int × Int × Int × Int × (List Int) × (List Int) × Int), st = .inr z /\ z.2.2.2.2.2.2.2.1 = posL m (l.getD d default) p.e0 /\ z.2.2.2.2.2.2.2.2 = (b : Int) /\ b < (posL m (l.getD d default) p.e0).length /\ q = (posL m (l.getD d default) p.e0).getD b 0 /\
  chL m p.e0 (l.drop d) (y2.drop d) = some (q :: tail) /\ ((pots m l p).getD d default).getD b 0 + sumC q tail = bd (pots m l p))
theorem Q1x {f : Int -> Int} {xs : List Int} {b : Nat} (hb : b < xs.length) : (xs.map f).getD b 0 = f (xs.getD b 0) := by
 rw [List.getD_eq_getElem?_getD, List.getElem?_map, List.getElem?_eq_getElem hb, List.getD_eq_getElem?_getD, List.getElem?_eq_getElem hb]; rfl
theorem Qyu {m : Qc} {l : List Qa} {p : At2} {d b : Nat} (hd : d < l.length) (hb : b < (posL m (l.getD d default) p.e0).length) : ((pots m l p).getD d default).getD b 0 = hg ((posL m (l.getD d default) p.e0).getD b 0) MAXI (Qgl m p l d) (Qee (pots m l p) d) := by
 rw [Qr4 hd]; exact Q1x hb
theorem Qr6 {m : Qc} {l : List Qa} {p : At2} {d b : Nat} (hd : d < l.length) (hb : b < (trn m (apA m (l.getD d default) p.e0)).length) {y2 qs : List Int} (hy : d < y2.length) (h : chL m p.e0 (l.drop (d + 1)) (y2.drop (d + 1)) = some qs) :
 chL m p.e0 (l.drop d) ((y2.set d ((trn m (apA m (l.getD d default) p.e0)).getD b 0)).drop d) = some ((posL m (l.getD d default) p.e0).getD b 0 :: qs) := by
 rw [set_drop hy, Qag (y := l) (i := d) hd default]
 simp only [chL]
 rw [if_pos (Qb9 hb), h, Qri hb]; rfl
theorem Q1y (k : Nat) (hk : 100 < k) {m : Qc} {l : List Qa} {p : At2} (h : Tr m l p) : ∀ (d : Nat) (y2 : List Int) (st : Sum Unit (ByteArray × Int × Int × Int × Int × Int × (List Int) × (List Int) × Int)), d <= l.length -> y2.length = l.length -> Inv m l p d y2 st ->
 ∃ r, Q9 k ⟨p.e1, l.map (stp m p.e0)⟩ (pots m l p) (l.map (stp m p.e0)) (Qmn (l.map (stp m p.e0)) d) y2 st = some r /\ r.1.length = l.length /\ ∃ qs, chL m p.e0 l r.1 = some qs /\ sumC p.e1 qs = bd (pots m l p) := by
 have hp := Qnf h
 have hpl := hp.len
 have hlen := h.len
 intro d
 induction d with
 | zero =>
   intro y2 st hd hy hI
   refine ⟨(y2, st), by simp only [Qmn]; rw [Q9.eq_1], hy, ?_⟩
   rcases hI with ⟨h0, _⟩ | ⟨h0, b, q, tail, z, h1, h2, h3, h4, h5, h6, h7⟩
   ·have hl : l = [] := List.eq_nil_of_length_eq_zero h0.symm
    subst hl
    exact ⟨[], rfl, rfl⟩
   ·rw [List.drop_zero, List.drop_zero] at h6
    refine ⟨_, h6, ?_⟩
    rw [<- h7, Qyu h0 h4, <- h5]
    have hq : near q := by rw [h5]; exact Qbi (Qdh h.mnt) h4
    have hc := Qh7 (Qel h) hq
    have e1 : Qgl m p l 0 = [p.e1] := rfl
    have e2 : Qee (pots m l p) 0 = [0] := rfl
    have e3 : hg q MAXI [p.e1] [0] = minI MAXI (0 + cst p.e1 q) := rfl
    rw [e1, e2, e3]
    have e4 : minI MAXI (0 + cst p.e1 q) = cst p.e1 q := by
     unfold minI MAXI
     rw [if_pos (by omega)]; omega
    rw [e4]; rfl
 | succ d ih =>
   intro y2 st hd hy hI
   have hd' : d < l.length := by omega
   have hrow := hp.row hd'
   have hpos := Qjy h d hd'
   have hpl2 := Qdt m (l.getD d default) p.e0
   have hnr := Qdh h.mnt (t := l.getD d default) (d := p.e0)
   have hbs : ∀ b ∈ (pots m l p).getD d default, 0 <= b /\ b <= 1000000000000 := Qvv h _ (by rw [List.getD_eq_getElem?_getD, List.getElem?_eq_getElem (by omega)]; exact List.getElem_mem _)
   have hst : (l.map (stp m p.e0)).getD ((d : Int).toNat) default = stp m p.e0 (l.getD d default) := by rw [Int.toNat_natCast]; exact Qm0 hd'
   simp only [Qmn]
   rw [hst]
   rcases hI with ⟨h0, rfl⟩ | ⟨h0, b', q', tail, z, rfl, h2, h3, h4, h5, h6, h7⟩
   ·have hl0 := Q22 k ⟨p.e1, l.map (stp m p.e0)⟩ (pots m l p) (l.map (stp m p.e0)) y2 ((d : Int), stp m p.e0 (l.getD d default)) d rfl (by omega) hrow.1 (by show (posL m (l.getD d default) p.e0).length <= 1000; omega) hbs (posL m (l.getD d default) p.e0).length k 0 (by show (posL m (l.getD d default) p.e0).length = _; omega) (by omega)
    have hB := Qoz (fun j => ((pots m l p).getD d default).getD j 0 + 0) (posL m (l.getD d default) p.e0).length
    have hM := Qr5 (fun j => ((pots m l p).getD d default).getD j 0 + 0) (posL m (l.getD d default) p.e0).length
    change Za k _ _ _ y2 _ k 0 0 = some ((bst (fun j => ((pots m l p).getD d default).getD j 0 + 0) (posL m (l.getD d default) p.e0).length : Nat) : Int) at hl0
    generalize hb : bst (fun j => ((pots m l p).getD d default).getD j 0 + 0) (posL m (l.getD d default) p.e0).length = b at *
    rw [Q9.eq_2, hl0, Option.bind_some, if_pos (by show 0 <= (b : Int) /\ (b : Int) < ((trn m (apA m (l.getD d default) p.e0)).length : Int); omega), if_pos (by show 0 <= (d : Int) /\ (d : Int) < (y2.length : Int); omega), if_pos (by show (d : Int) < _; simp; omega)]
    refine ih _ _ (by omega) (by rw [List.length_set]; exact hy) (.inr ⟨hd', b, (posL m (l.getD d default) p.e0).getD b 0, [], _, rfl, rfl, rfl, by omega, rfl, ?_, ?_⟩)
    ·have e0 : l.drop (d + 1) = [] := List.drop_of_length_le (by omega)
     exact Qr6 hd' (by omega) (by omega) (by rw [e0]; rfl)
    ·rw [show sumC ((posL m (l.getD d default) p.e0).getD b 0) [] = 0 from rfl, Int.add_zero]
     have e1 : (pots m l p).length - 1 = d := by omega
     have := Qz0 (P := pots m l p) (by omega) (by rw [e1]; omega) (b := b) (by rw [e1]; omega) (fun j hj => by
      rw [e1] at hj ⊢
      have := hM j (by omega)
      simp only [Int.add_zero] at this
      exact this)
     rw [e1] at this
     exact this.symm
   ·have hq' : near q' := by rw [h5]; exact Qbi (Qdh h.mnt) h4
    have hl1 := Q23 k ⟨p.e1, l.map (stp m p.e0)⟩ (pots m l p) (l.map (stp m p.e0)) y2 z q' hq' ((d : Int), stp m p.e0 (l.getD d default)) d rfl (by omega) hrow.1 (by show (posL m (l.getD d default) p.e0).length <= 1000; omega) hbs hnr (by rw [h3, h2]; omega) (by rw [h2, h3, Int.toNat_natCast]; exact h5.symm) (posL m (l.getD d default) p.e0).length k 0 (by show (posL m (l.getD d default) p.e0).length = _; omega) (by omega)
    have hB := Qoz (fun j => ((pots m l p).getD d default).getD j 0 + cst ((posL m (l.getD d default) p.e0).getD j 0) q') (posL m (l.getD d default) p.e0).length
    have hM := Qr5 (fun j => ((pots m l p).getD d default).getD j 0 + cst ((posL m (l.getD d default) p.e0).getD j 0) q') (posL m (l.getD d default) p.e0).length
    change Zb k _ _ _ y2 z _ k 0 0 = some ((bst (fun j => ((pots m l p).getD d default).getD j 0 + cst ((posL m (l.getD d default) p.e0).getD j 0) q') (posL m (l.getD d default) p.e0).length : Nat) : Int) at hl1
    generalize hb : bst (fun j => ((pots m l p).getD d default).getD j 0 + cst ((posL m (l.getD d default) p.e0).getD j 0) q') (posL m (l.getD d default) p.e0).length = b at *
    rw [Q9.eq_3, hl1, Option.bind_some, if_pos (by show 0 <= (b : Int) /\ (b : Int) < ((trn m (apA m (l.getD d default) p.e0)).length : Int); omega), if_pos (by show 0 <= (d : Int) /\ (d : Int) < (y2.length : Int); omega), if_pos (by show (d : Int) < _; simp; omega)]
    refine ih _ _ (by omega) (by rw [List.length_set]; exact hy) (.inr ⟨hd', b, (posL m (l.getD d default) p.e0).getD b 0, q' :: tail, _, rfl, rfl, rfl, by omega, rfl, Qr6 hd' (by omega) (by omega) h6, ?_⟩)
    have hr := Qyu (m := m) (p := p) h0 h4
    rw [Qs7, Qs8, <- h5] at hr
    have hbl : b < (posL m (l.getD d default) p.e0).length := by omega
    have hup := Quu q' (posL m (l.getD d default) p.e0) ((pots m l p).getD d default) MAXI _ _ (Qpy (i := b) hbl (by omega))
    obtain ⟨⟨i, hi1, hi2⟩, _, _⟩ := Q1w hq' hrow.1.symm (by omega) hnr hbs (Int.le_refl _)
    have hlow := hM i hi1
    have e : hg q' MAXI (posL m (l.getD d default) p.e0) ((pots m l p).getD d default) = ((pots m l p).getD d default).getD b 0 + cst ((posL m (l.getD d default) p.e0).getD b 0) q' := by omega
    rw [<- h7, hr, e]
    simp only [sumC]
    omega
theorem Qtm (k : Nat) (hk : 100 < k) {m : Qc} {l : List Qa} {p : At2} (h : Tr m l p) : ∃ xs, Yj k ⟨p.e1, l.map (stp m p.e0)⟩ (pots m l p) = some xs /\ xs.length = l.length /\ chE m l p xs = (bd (pots m l p), 0) := by
 have hlen := h.len
 obtain ⟨r, h1, h2, qs, h3, h4⟩ := Q1y k hk h l.length (List.replicate l.length 0) (.inl ()) (Nat.le_refl _) (by simp) (.inl ⟨rfl, rfl⟩)
 refine ⟨r.1, ?_, h2, ?_⟩
 ·unfold Yj Zy
  rw [if_pos (by simp; omega), Option.bind_some, if_pos (by simp; omega)]
  have e : ((l.map (stp m p.e0)).length : Int).toNat = l.length := by simp
  show (Q9 k ⟨p.e1, l.map (stp m p.e0)⟩ (pots m l p) (l.map (stp m p.e0)) (Qmn (l.map (stp m p.e0)) (l.map (stp m p.e0)).length) (List.replicate ((l.map (stp m p.e0)).length : Int).toNat 0) (.inl ())).bind (fun r => if r.1.length = ((l.map (stp m p.e0)).length : Int).toNat then some r.1 else none) = _
  rw [e, List.length_map, h1, Option.bind_some, if_pos h2]
 ·unfold chE
  rw [if_pos h2, h3]
  show (sumC p.e1 qs, (0 : Int)) = _
  rw [h4]
theorem Qlo (k : Nat) (hk : 100 < k) (hk2 : k <= 100000000000000000000) (m : Qc) (h1 : m.Refraction.length < k) (h2 : m.Drift.length < k) (l : List Qa) (p : At2) :
 ((trE m l p).2 ≠ 0 /\ Wp k m l p = some (⟨[], []⟩, 0, (trE m l p).2)) \/
   (Tr m l p /\ (trE m l p).2 = 0 /\ ∃ xs, Wp k m l p = some (⟨xs, pots m l p⟩, bd (pots m l p), 0) /\ xs.length = l.length /\ chE m l p xs = (bd (pots m l p), 0)) := by
 unfold Wp
 rw [Qtg k hk hk2 m h1 h2, Option.bind_some]
 by_cases c : (trE m l p).2 = 0
 ·right
  have hT := Tr.of c
  obtain ⟨xs, e1, e2, e3⟩ := Qtm k hk hT
  refine ⟨hT, c, xs, ?_, e2, e3⟩
  simp only [if_pos c]
  rw [Qzz k hk hT, Option.bind_some, e1, Option.bind_some, Qpx k hk (Qnf hT) (Qjy hT), Option.bind_some]
 ·left
  refine ⟨c, ?_⟩
  simp only [if_neg c]
end Go.Proofs.Ytjomicmhnbmhoaa.Vg
end

section
set_option linter.unusedVariables false
set_option linter.unusedSimpArgs false
namespace Go.Proofs.Ytjomicmhnbmhoaa.Vg
open Go Go.Proofs.Ytjomicmhnbmhoaa.Ev Go.Proofs.Ytjomicmhnbmhoaa.Vv
structure Wid (m w : Qc) : Prop where
 lo : -25920000 <= w.Least /\ w.Least <= m.Least
 hi : m.Most <= w.Most /\ w.Most <= 25920000
 lw : w.Low = m.Low
 hg : w.High = m.High
 sp : w.Speed = m.Speed
 re : w.Refraction = m.Refraction
 dr : w.Drift = m.Drift
theorem Qp2 {a l1 m1 l2 m2 y : Int} (h1 : l2 <= l1) (h2 : m1 <= m2) : ∀ (n : Nat) (x : Int), y ∈ flt a l1 m1 n x -> y ∈ flt a l2 m2 n x
 | 0, x, h => by simp [flt] at h
 | n + 1, x, h => by
   simp only [flt] at h ⊢
   cases c : inR l1 m1 (a + x * 1296000) with
   | false =>
     rw [c] at h
     have := Qp2 h1 h2 n (x + 1) h
     cases inR l2 m2 (a + x * 1296000) with
     | false => exact this
     | true => exact List.mem_cons_of_mem _ this
   | true =>
     rw [c] at h
     have e : inR l2 m2 (a + x * 1296000) = true := Qcm.2 (by have := Qcm.1 c; omega)
     rw [e]
     rcases List.mem_cons.1 h with h | h
     ·rw [h]; exact List.mem_cons_self
     ·exact List.mem_cons_of_mem _ (Qp2 h1 h2 n (x + 1) h)
section
variable {m w : Qc}
theorem Wid.apA (h : Wid m w) (t : Qa) (d : Int) : apA w t d = Vg.apA m t d := by unfold Vg.apA; rw [h.dr]
theorem Wid.apH (h : Wid m w) (t : Qa) : apH w t = Vg.apH m t := by unfold Vg.apH; rw [h.re]
theorem Wid.pos (h : Wid m w) (t : Qa) (d x : Int) : pos w t d x = Vg.pos m t d x := by unfold Vg.pos; rw [h.apA]
theorem Wid.trn (h : Wid m w) {a y : Int} (hy : y ∈ trn m a) : y ∈ Vg.trn w a := Qp2 h.lo.2 h.hi.1 _ _ hy
theorem Wid.mntE (h : Wid m w) (hm : mntE m = 0) : mntE w = 0 := by
 unfold Vg.mntE at hm ⊢
 cases h1 : mOK m with
 | false => rw [h1] at hm; cases hm
 | true =>
   rw [h1] at hm
   have hm : (if m.Most < m.Least then (9 : Int) else if m.High < m.Low then 9 else if tabE m.Refraction = 0 then tabE m.Drift else tabE m.Refraction) = 0 := hm
   have h2 : mOK w = true := by
    simp only [mOK, Bool.and_eq_true, Qcm] at h1 ⊢
    have g1 := h.lo; have g2 := h.hi
    rw [h.lw, h.hg, h.sp]
    by_cases c : m.Most < m.Least
    ·rw [if_pos c] at hm; cases hm
    ·exact ⟨by omega, by omega, h1.2.2.1, h1.2.2.2.1, h1.2.2.2.2⟩
   rw [h2]
   show (if w.Most < w.Least then (9 : Int) else if w.High < w.Low then 9 else if tabE w.Refraction = 0 then tabE w.Drift else tabE w.Refraction) = 0
   have g1 := h.lo; have g2 := h.hi
   by_cases c : m.Most < m.Least
   ·rw [if_pos c] at hm; cases hm
   ·rw [if_neg c] at hm
    rw [if_neg (by omega), h.lw, h.hg, h.re, h.dr]
    exact hm
theorem Wid.stpE (h : Wid m w) {t : Qa} {d : Int} (hs : stpE m t d = 0) : stpE w t d = 0 := by
 unfold Vg.stpE at hs ⊢
 rw [h.lw, h.hg, h.apH, h.apA]
 cases c : inR m.Low m.High (Vg.apH m t) with
 | false => rw [c] at hs; cases hs
 | true =>
   rw [c] at hs
   have hs : (if (Vg.trn m (Vg.apA m t d)).length = 0 then (12 : Int) else 0) = 0 := hs
   show (if (Vg.trn w (Vg.apA m t d)).length = 0 then (12 : Int) else 0) = 0
   by_cases c2 : (Vg.trn m (Vg.apA m t d)).length = 0
   ·rw [if_pos c2] at hs; cases hs
   ·have hx := Qzj (xs := Vg.trn m (Vg.apA m t d)) (i := 0) (by omega)
    have := List.length_pos_of_mem (h.trn hx)
    rw [if_neg (by omega)]
theorem Wid.errs (h : Wid m w) (d : Int) (l : List Qa) : ∀ (n i : Nat), errs m d l n i = none -> errs w d l n i = none
 | 0, i, _ => rfl
 | n + 1, i, he => by
   simp only [Vg.errs] at he ⊢
   split at he
   ·rename_i c
    have c' : tgE w d (l.take i) (l.getD i default) = 0 := by
     unfold tgE at c ⊢
     split at c
     ·rename_i g1
      rw [if_pos g1]
      split at c
      ·cases c
      ·rename_i g2
       rw [if_neg g2]; exact h.stpE c
     ·contradiction
    rw [if_pos c']
    exact Wid.errs h d l n (i + 1) he
   ·cases he
theorem Wid.trE (h : Wid m w) {l : List Qa} {p : At2} (ht : (trE m l p).2 = 0) : (trE w l p).2 = 0 := by
 unfold Vg.trE at ht ⊢
 split at ht
 ·rename_i c1
  split at ht
  ·rename_i c2
   split at ht
   ·rename_i c3
    split at ht
    ·cases ht
    ·rename_i c4
     have c3' := Qcm.1 c3
     have g1 := h.lo; have g2 := h.hi
     rw [if_pos (h.mntE c1), if_pos c2, if_pos (Qcm.2 (by omega)), if_neg c4]
     cases he : Vg.errs m p.e0 l l.length 0 with
     | some e => rw [he] at ht; exact absurd ht (Qj5 m p.e0 l _ _ e he)
     | none => rw [h.errs p.e0 l _ _ he]; rfl
   ·cases ht
  ·cases ht
 ·rename_i c; exact absurd ht c
theorem Wid.chL (h : Wid m w) {d : Int} : ∀ {l : List Qa} {xs qs : List Int}, chL m d l xs = some qs -> chL w d l xs = some qs
 | [], xs, qs, hc => hc
 | t :: l, [], qs, hc => by cases hc
 | t :: l, x :: xs, qs, hc => by
   simp only [Vg.chL] at hc ⊢
   split at hc
   ·rename_i c
    cases hq : Vg.chL m d l xs with
    | none => rw [hq] at hc; cases hc
    | some q =>
      rw [hq] at hc
      rw [h.apA, if_pos (h.trn c), h.chL hq, h.pos]; exact hc
   ·cases hc
theorem Qrn {l : List Qa} {p : At2} {xs : List Int} {v : Int} (h : chE m l p xs = (v, 0)) : xs.length = l.length /\ ∃ qs, Vg.chL m p.e0 l xs = some qs /\ sumC p.e1 qs = v := by
 unfold chE at h
 split at h
 ·rename_i c
  refine ⟨c, ?_⟩
  cases hq : Vg.chL m p.e0 l xs with
  | none => rw [hq] at h; injection h with h1 h2; cases h2
  | some qs => rw [hq] at h; injection h with h1 h2; exact ⟨qs, rfl, h1⟩
 ·injection h with h1 h2; cases h2
theorem Wid.chE (h : Wid m w) {l : List Qa} {p : At2} {xs : List Int} {v : Int} (hc : chE m l p xs = (v, 0)) : chE w l p xs = (v, 0) := by
 obtain ⟨h1, qs, h2, h3⟩ := Qrn hc
 unfold Vg.chE
 rw [if_pos h1, h.chL h2]
 show (sumC p.e1 qs, (0 : Int)) = _
 rw [h3]
end
def unw : Int -> List Int -> Int
 | _, [] => 0
 | f, q :: qs => (if 648000 < absI (q - f) then 1 else 0) + unw q qs
theorem Qro : ∀ (qs : List Int) (f : Int), near f -> (∀ q ∈ qs, near q) -> 10000000000 * unw f qs <= sumC f qs /\ sumC f qs <= 10000000000 * unw f qs + 60000000 * qs.length
 | [], f, _, _ => by simp [unw, sumC]
 | q :: qs, f, hf, hq => by
   have ih := Qro qs q (hq q (by simp)) (fun x hx => hq x (by simp [hx]))
   have hb := Qpg (A := 25920000) hf (hq q (by simp))
   simp only [unw, sumC, List.length_cons, cst]
   split <;> omega
theorem Qu3 {qs : List Int} {f : Int} (hf : near f) (hq : ∀ q ∈ qs, near q) (hl : qs.length <= 20) : sumC f qs / 10000000000 = unw f qs := by
 have := Qro qs f hf hq
 omega
theorem Qzn (k : Nat) (d : Int) (hk : 100 < k) (hk2 : k <= 100000000000000000000) (hd : 0 <= d /\ d <= 100000) : Yi k d = some 0 := by
 unfold Yi
 rw [Y0 k _ _ _ hk hk2, Option.bind_some, if_pos (Qcm.2 hd)]
theorem Tr.mt {m : Qc} {l : List Qa} {p : At2} (h : (trE m l p).2 = 0) : mntE m = 0 /\ ∀ i, i < l.length -> tgtE (l.getD i default) = 0 := by
 unfold trE at h
 split at h
 ·rename_i c1
  refine ⟨c1, ?_⟩
  split at h
  ·split at h
   ·split at h
    ·cases h
    ·cases he : errs m p.e0 l l.length 0 with
     | some e => rw [he] at h; exact absurd h (Qj5 m p.e0 l _ _ e he)
     | none =>
       intro i hi
       have := Qj6 m p.e0 l _ _ he i (by omega) (by omega)
       unfold tgE at this
       split at this
       ·assumption
       ·contradiction
   ·cases h
  ·cases h
 ·rename_i c; exact absurd h c
theorem app_any (k : Nat) (hk : 100 < k) (hk2 : k <= 100000000000000000000) {m : Qc} (h1 : m.Refraction.length < k) (h2 : m.Drift.length < k) {t : Qa} {d : Int} (hm : mntE m = 0) (ht : tgtE t = 0) (hd : 0 <= d /\ d <= 100000) : Qak k m t d = some (⟨apA m t d, apH m t⟩, 0) := by
 unfold Qak Qau
 rw [Qi6 k hk hk2 m h1 h2, Option.bind_some, if_pos hm, Qh6 k hk hk2, Option.bind_some, if_pos ht, Qzn k d hk hk2 hd]
 simp only [Option.bind_some, if_true]
 rw [Qf9 k hk (Mnt.of hm) (Tgt.of ht) hd]
 rfl
theorem Qzo (k : Nat) (hk : 100 < k) (hk2 : k <= 100000000000000000000) {a b : Int} (ha : near a) (hb : near b) : Qd5 k a b = some (absI (b - a), decide (648000 < absI (b - a)), 0) := by
 unfold Qd5
 rw [Qho k _ _ _ (by decide) hk hk2, Option.bind_some, if_pos (by rw [Bool.and_eq_true]; exact ⟨Qcm.2 ha, Qcm.2 hb⟩), Qga k ha.small hb.small]
 rfl
theorem Q2y (k : Nat) (hk : 100 < k) (hk2 : k <= 100000000000000000000) (x : Qbs) (a1 : A26) (r : Xw × Int × Int) (a : x.Mount.Refraction.length <= 43) (b : x.Mount.Drift.length <= 43) (ht : (trE x.Mount x.Targets x.At).2 = 0) (hx : r.1.Turns.length = x.Targets.length) :
 ∀ (d fuel i : Nat) (c f : Int) (qs : List Int), x.Targets.length = i + d -> d < fuel -> near f -> 0 <= c -> c <= i -> chL x.Mount x.At.e0 (x.Targets.drop i) (r.1.Turns.drop i) = some qs ->
   Qs k x a1 r fuel c f (i : Int) = some (.inr (c + unw f qs)) := by
 have hT := Tr.of ht
 have hlen := hT.len
 obtain ⟨hm, htg⟩ := Tr.mt ht
 intro d
 induction d with
 | zero =>
   intro fuel i c f qs h hf hn hc hc2 hq
   obtain ⟨g, rfl⟩ : ∃ g, fuel = g + 1 := ⟨fuel - 1, by omega⟩
   rw [List.drop_of_length_le (by omega)] at hq
   simp only [chL, Option.some.injEq] at hq
   subst hq
   rw [Qs.eq_2, if_neg (by omega)]
   simp [unw]
 | succ d ih =>
   intro fuel i c f qs h hf hn hc hc2 hq
   obtain ⟨g, rfl⟩ : ∃ g, fuel = g + 1 := ⟨fuel - 1, by omega⟩
   rw [Qag (y := x.Targets) (i := i) (by omega) default, Qag (y := r.1.Turns) (i := i) (by omega) 0] at hq
   simp only [chL] at hq
   split at hq
   case isFalse => cases hq
   rename_i hmem
   cases hr : chL x.Mount x.At.e0 (x.Targets.drop (i + 1)) (r.1.Turns.drop (i + 1)) with
   | none => rw [hr] at hq; cases hq
   | some q =>
     rw [hr] at hq
     simp only [Option.map_some, Option.some.injEq] at hq
     subst hq
     have htb := Q0r _ _ _ hmem
     have hp := Ql3 hT.mnt hmem
     have hpd : apA x.Mount (x.Targets.getD i default) x.At.e0 + r.1.Turns.getD i 0 * 1296000 = pos x.Mount (x.Targets.getD i default) x.At.e0 (r.1.Turns.getD i 0) := rfl
     have hpn := hp
     unfold near at hpn
     rw [<- hpd] at hpn
     rw [Qs.eq_2, if_pos (by omega), Qk6 k x.Mount a b, Option.bind_some, if_pos (by omega), Int.toNat_natCast, app_any k hk hk2 (by omega) (by omega) hm (htg i (by omega)) hT.day, Option.bind_some, if_pos rfl, if_pos (by omega), Qgp, Option.bind_some, if_pos (Qcm.2 htb)]
     dsimp only
     rw [Xu (n := r.1.Turns.getD i 0 * 1296000) (by omega) (by omega), Xu (n := apA x.Mount (x.Targets.getD i default) x.At.e0 + r.1.Turns.getD i 0 * 1296000) (by omega) (by omega), hpd, Qzo k hk hk2 hn hp, Option.bind_some, if_pos rfl, Qav (by omega)]
     dsimp only
     by_cases c1 : 648000 < absI (pos x.Mount (x.Targets.getD i default) x.At.e0 (r.1.Turns.getD i 0) - f)
     ·rw [if_pos (decide_eq_true c1), Xu (n := c + 1) (by omega) (by omega), ih g (i + 1) (c + 1) _ q (by omega) (by omega) hp (by omega) (by omega) hr]
      simp only [unw]
      rw [if_pos c1]
      congr 2; omega
     ·rw [if_neg (by rw [decide_eq_false c1]; decide), ih g (i + 1) c _ q (by omega) (by omega) hp (by omega) (by omega) hr]
      simp only [unw]
      rw [if_neg c1]
      congr 2; omega
theorem Q08 (m : Qc) (hm : Mnt m) {a b : Int} (ha : 0 <= a /\ a <= 3000000) (hb : 0 <= b /\ b <= 3000000) : Wid m ⟨maxI (-25920000) (w64 (m.Least - a)), minI 25920000 (w64 (m.Most + b)), m.Low, m.High, m.Speed, m.Refraction, m.Drift⟩ := by
 have h1 := hm.lo; have h2 := hm.mid; have h3 := hm.hi
 rw [Xu (n := m.Least - a) (by omega) (by omega), Xu (n := m.Most + b) (by omega) (by omega)]
 refine ⟨?_, ?_, rfl, rfl, rfl, rfl, rfl⟩
 ·show -25920000 <= maxI (-25920000) (m.Least - a) /\ maxI (-25920000) (m.Least - a) <= m.Least
  unfold maxI; split <;> omega
 ·show m.Most <= minI 25920000 (m.Most + b) /\ minI 25920000 (m.Most + b) <= 25920000
  unfold minI; split <;> omega
theorem Qu4 (k : Nat) (x : Qbs) (y : A26) (hx : x.Targets.length <= 9223372036854775807) (hk : k = x.Targets.length + 1000) : Jh k x y = some true := by
 unfold Jh
 rw [show Qt8 k = some true from rfl, Option.bind_some, if_pos rfl, short_any _ x (by omega) hx, Option.bind_some]
 cases h : Qoh x with
 | false => rfl
 | true =>
   obtain ⟨a, b, c⟩ := Qp3 h
   rw [if_pos rfl, Qgp, Option.bind_some, Qgp]
   cases w1 : inR 0 3000000 y.e0 with
   | false => rfl
   | true =>
   rw [if_pos rfl, Option.bind_some]
   cases w2 : inR 0 3000000 y.e1 with
   | false => rfl
   | true =>
   rw [if_pos rfl, Qk6 _ _ a b, Option.bind_some, Qoi _ _ (by omega), Option.bind_some]
   rcases Qlo k (by omega) (by omega) x.Mount (by omega) (by omega) x.Targets x.At with ⟨h1, h2⟩ | ⟨hT, h1, xs, h2, h3, h4⟩
   ·rw [h2, Option.bind_some, if_neg h1]
    simp [h1]
   ·have hl := hT.len
    have hw := Q08 x.Mount hT.mnt (Qcm.1 w1) (Qcm.1 w2)
    have hwt := hw.trE h1
    have hce := hw.chE h4
    rw [h2, Option.bind_some, if_pos rfl, if_pos (by show (xs.length : Int) = _; omega)]
    rcases Qlo k (by omega) (by omega) _ (show (Qc.mk (maxI (-25920000) (w64 (x.Mount.Least - y.e0))) (minI 25920000 (w64 (x.Mount.Most + y.e1))) x.Mount.Low x.Mount.High x.Mount.Speed x.Mount.Refraction x.Mount.Drift).Refraction.length < k by show x.Mount.Refraction.length < k; omega) (by show x.Mount.Drift.length < k; omega) x.Targets x.At with ⟨g1, g2⟩ | ⟨gT, g1, ys, g2, g3, g4⟩
    ·exact absurd hwt g1
    ·have hle := Qxi (m := Qc.mk (maxI (-25920000) (w64 (x.Mount.Least - y.e0))) (minI 25920000 (w64 (x.Mount.Most + y.e1))) x.Mount.Low x.Mount.High x.Mount.Speed x.Mount.Refraction x.Mount.Drift) (l := x.Targets) (p := x.At) (xs := xs) (ps := pots _ x.Targets x.At) (by rw [hce]) (by rw [Qu5 gT])
     rw [hce, Qu5 gT] at hle
     obtain ⟨_, qs, q1, q2⟩ := Qrn h4
     obtain ⟨q3, q4⟩ := Qqr hT.mnt q1
     have hloop := Q2y k (by omega) (by omega) x y (⟨xs, pots x.Mount x.Targets x.At⟩, bd (pots x.Mount x.Targets x.At), 0) a b h1 h3 x.Targets.length k 0 0 x.At.e1 qs (by omega) (by omega) (Qel hT) (by decide) (by decide) (by rw [List.drop_zero, List.drop_zero]; exact q1)
     rw [g2, Option.bind_some, if_pos rfl, if_neg (by dsimp only at hle ⊢; omega), show Qs k x y (⟨xs, pots x.Mount x.Targets x.At⟩, bd (pots x.Mount x.Targets x.At), 0) k 0 x.At.e1 0 = _ from hloop, Option.bind_some]
     dsimp only
     have hs := Qt2 qs x.At.e1 (Qel hT) q3
     rw [<- q2, Qu6 k (by omega) (by decide), Option.bind_some, Qu3 (Qel hT) q3 (by omega)]
     simp
theorem Qxn (x : Qbs) (y : A26) (hx : x.Targets.length <= 9223372036854775807) : VC Try.prog 4 [VV.ag (Qdw x), VV.ag (Qbv y)] (vb true) := Qcx _ _ _ _ (Qu4 _ x y hx rfl)
end Go.Proofs.Ytjomicmhnbmhoaa.Vg
end

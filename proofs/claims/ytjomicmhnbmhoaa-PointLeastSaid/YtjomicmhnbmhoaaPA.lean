import Derived.Test.YtjomicmhnbmhoaaB1
set_option linter.unusedVariables false
set_option linter.unusedSimpArgs false
namespace Go.Proofs.Ytjomicmhnbmhoaa.Vg
open Go Go.Proofs.Ytjomicmhnbmhoaa.Ev Go.Proofs.Ytjomicmhnbmhoaa.Vv
theorem Ji {n : Int} (h1 : -9223372036854775808 <= n) (h2 : n <= 9223372036854775807) : w64 n = n := by
 unfold w64 IntKind.wrap
 simp [IntKind.signed, IntKind.bits]
 omega
theorem Js {i : Nat} (h : i < 1000000000000) : w64 ((i : Int) + 1) = ((i + 1 : Nat) : Int) := by
 rw [Ji (by omega) (by omega)]; omega
theorem Xt {α : Type} {y : List α} {i : Nat} (h : i < y.length) (d : α) : y.drop i = y.getD i d :: y.drop (i + 1) := by
 rw [List.drop_eq_getElem_cons h, List.getD_eq_getElem?_getD, List.getElem?_eq_getElem h]; rfl
def sumB (b : Bool) : Sum Unit Unit := match b with | true => .inr () | false => .inl ()
def sumE (e : Int) : Sum Int Unit := if e = 0 then .inr () else .inl e
def inR (a b n : Int) : Bool := decide (a <= n /\ n <= b)
theorem Qkn {a b n : Int} : inR a b n = true ↔ a <= n /\ n <= b := by unfold inR; exact decide_eq_true_iff
theorem Qws {a b n : Int} : inR a b n = false ↔ ¬(a <= n /\ n <= b) := by unfold inR; exact decide_eq_false_iff_not
theorem Qb9 (k : Nat) (a b c : Int) : Q7 k a b c = some (inR b c a) := by
 unfold Q7 inR
 by_cases h : b <= a
 ·rw [if_pos h]; simp [h]
 ·rw [if_neg h]; simp [h]
theorem Qum (k : Nat) (a b : Int) (xs : List Int) (hl : xs.length < 1000000000000) : ∀ (d fuel i : Nat), xs.length = i + d -> d < fuel ->
 Jl k a b xs fuel (i : Int) = some (sumB ((xs.drop i).all (inR a b))) := by
 intro d
 induction d with
 | zero =>
   intro fuel i h hf
   obtain ⟨g, rfl⟩ : ∃ g, fuel = g + 1 := ⟨fuel - 1, by omega⟩
   rw [Jl.eq_2, if_neg (by omega), List.drop_eq_nil_of_le (by omega)]; rfl
 | succ d ih =>
   intro fuel i h hf
   obtain ⟨g, rfl⟩ : ∃ g, fuel = g + 1 := ⟨fuel - 1, by omega⟩
   rw [Jl.eq_2, if_pos (by omega), if_pos (by omega), Js (by omega), ih g (i + 1) (by omega) (by omega), Xt (y := xs) (i := i) (by omega) 0]
   simp only [Int.toNat_natCast, List.all_cons]
   by_cases h1 : xs.getD i 0 < a
   ·rw [if_pos h1, show inR a b (xs.getD i 0) = false from Qws.2 (by omega)]; rfl
   ·rw [if_neg h1]
    by_cases h2 : b < xs.getD i 0
    ·rw [if_pos h2, show inR a b (xs.getD i 0) = false from Qws.2 (by omega)]; rfl
    ·rw [if_neg h2, show inR a b (xs.getD i 0) = true from Qkn.2 (by omega)]; rfl
theorem Qkc (k : Nat) (a b : Int) (xs : List Int) (hl : xs.length < k) (hk : xs.length < 1000000000000) : Zv k a b xs = some (xs.all (inR a b)) := by
 unfold Zv
 rw [show Jl k a b xs k 0 = _ from Qum k a b xs (by omega) xs.length k 0 (by omega) hl]
 simp only [List.drop_zero]
 cases xs.all (inR a b) <;> rfl
theorem Qen (k : Nat) (a b x : Int) (hk : 100 < k) (hk2 : k <= 100000000000000000000) : Zv k a b [x] = some (inR a b x) := by
 rw [Qkc k a b [x] (by simp; omega) (by simp)]; simp
theorem Qoj (k : Nat) (a b x y : Int) (hk : 100 < k) (hk2 : k <= 100000000000000000000) : Zv k a b [x, y] = some (inR a b x && inR a b y) := by
 rw [Qkc k a b [x, y] (by simp; omega) (by simp)]; simp
theorem Qn1 (k : Nat) (b : Int) (xs : List Int) (hb : 0 <= b /\ b <= 1000000000000) (hl : xs.length < k) (hk : xs.length < 1000000000000) : Yc k b xs = some (xs.all (inR (-b) b)) := by
 unfold Yc
 rw [Ji (by omega) (by omega), Qkc k _ _ _ hl hk, Option.bind_some, show (0 : Int) - b = -b by omega]
theorem Qp4 (k : Nat) (b x y : Int) (hb : 0 <= b /\ b <= 1000000000000) (hk : 100 < k) (hk2 : k <= 100000000000000000000) : Yc k b [x, y] = some (inR (-b) b x && inR (-b) b y) := by
 rw [Qn1 k b [x, y] hb (by simp; omega) (by simp)]; simp
theorem Qxs {n d : Int} (hd : 0 < d) : (if n.tmod d < 0 then n.tdiv d - 1 else n.tdiv d) = n / d := by
 have h := Int.mul_tdiv_add_tmod n d
 have h1 : n.tmod d < d := Int.tmod_lt_of_pos n hd
 have h2 : -d < n.tmod d := by
  have := Int.lt_tmod_of_pos n hd
  omega
 split
 ·rename_i hn
  symm
  rw [Int.ediv_eq_iff_of_pos hd]
  constructor <;> (rw [Int.sub_mul, Int.mul_comm] ; omega)
 ·symm
  rw [Int.ediv_eq_iff_of_pos hd]
  constructor <;> (rw [Int.mul_comm]; omega)
theorem Qqu (k : Nat) {n d : Int} (hn : -1000000000000000000 <= n /\ n <= 1000000000000000000) (hd : 0 < d) : Qes k n d = some (n / d) := by
 unfold Qes
 have hq : -1000000000000000000 <= n.tdiv d /\ n.tdiv d <= 1000000000000000000 := by
  have := Int.natAbs_tdiv_le_natAbs n d
  omega
 rw [if_pos (by omega), Ji (n := n.tdiv d) (by omega) (by omega), Ji (n := n.tdiv d - 1) (by omega) (by omega), <- Qxs hd]
 split <;> rfl
theorem Qjv (k : Nat) (n d : Int) : Qes k n d = Qes k n d := rfl
def Qun (r : Qo) : Bool := inR (-1000000) 1000000 r.At && inR (-1000000) 1000000 r.Value
def late (p : Option Int) (n : Int) : Bool := match p with
 | some m => decide (n <= m)
 | none => false
def chk : Option Int -> List Qo -> Int
 | _, [] => 0
 | p, r :: l => match Qun r with
   | true => match late p r.At with
     | true => 9
     | false => chk (some r.At) l
   | false => 2
def tabE (l : List Qo) : Int := match inR 1 40 l.length with
 | true => chk none l
 | false => 10
def bef (l : List Qo) (i : Nat) : Option Int := if i = 0 then none else some (l.getD (i - 1) default).At
theorem Qwk (l : List Qo) (i : Nat) : bef l (i + 1) = some (l.getD i default).At := by
 unfold bef; rw [if_neg (by omega)]; rfl
theorem Qwl (l : List Qo) (i : Nat) (n : Int) : late (bef l i) n = (decide (0 < i) && decide (n <= (l.getD (i - 1) default).At)) := by
 unfold bef
 by_cases h : i = 0
 ·subst h; rfl
 ·rw [if_neg h]
  show decide _ = _
  simp [show 0 < i by omega]
theorem Q40 (k : Nat) (hk : 100 < k) (hk2 : k <= 100000000000000000000) (l : List Qo) (hl : l.length < 1000000000) : ∀ (d fuel i : Nat), l.length = i + d -> d < fuel ->
 Xw k l fuel (i : Int) = some (sumE (chk (bef l i) (l.drop i))) := by
 intro d
 induction d with
 | zero =>
   intro fuel i h hf
   obtain ⟨g, rfl⟩ : ∃ g, fuel = g + 1 := ⟨fuel - 1, by omega⟩
   rw [Xw.eq_2, if_neg (by omega), List.drop_eq_nil_of_le (by omega)]; rfl
 | succ d ih =>
   intro fuel i h hf
   obtain ⟨g, rfl⟩ : ∃ g, fuel = g + 1 := ⟨fuel - 1, by omega⟩
   rw [Xw.eq_2, if_pos (by omega), if_pos (by omega), Qp4 k _ _ _ (by decide) hk hk2, Option.bind_some, Js (by omega), ih g (i + 1) (by omega) (by omega), Xt (y := l) (i := i) (by omega) default, Qwk]
   simp only [Int.toNat_natCast, chk, Qwl]
   rw [show (inR (-1000000) 1000000 (l.getD i default).At && inR (-1000000) 1000000 (l.getD i default).Value) = Qun (l.getD i default) from rfl]
   cases Qun (l.getD i default) with
   | false => rfl
   | true =>
     rw [if_pos rfl]
     by_cases h0 : 0 < i
     ·rw [if_pos (by omega), Ji (by omega) (by omega), if_pos (by omega), show ((i : Int) - 1).toNat = i - 1 by omega]
      by_cases h1 : (l.getD i default).At <= (l.getD (i - 1) default).At
      ·rw [if_pos h1, decide_eq_true h0, decide_eq_true h1]; rfl
      ·rw [if_neg h1, decide_eq_true h0, decide_eq_false h1]; rfl
     ·rw [if_neg (by omega), decide_eq_false h0]; rfl
theorem Qok (k : Nat) (hk : 100 < k) (hk2 : k <= 100000000000000000000) (l : List Qo) (hl : l.length < k) : Qbj k l = some (tabE l) := by
 unfold Qbj tabE
 rw [Qen k _ _ _ hk hk2, Option.bind_some]
 cases hin : inR 1 40 (l.length : Int) with
 | false => rfl
 | true =>
   have hin := Qkn.1 hin
   rw [if_pos rfl, show Xw k l k 0 = _ from Q40 k hk hk2 l (by omega) l.length k 0 (by omega) hl, Option.bind_some]
   show (match sumE (chk none l) with | .inl r => some r | .inr _ => some 0) = some (chk none l)
   unfold sumE
   by_cases h : chk none l = 0
   ·rw [if_pos h, h]
   ·rw [if_neg h]
theorem Q2h (k : Nat) (hk : 100 < k) (hk2 : k <= 100000000000000000000) (l : List Qo) (hl : l.length < 1000000000) : ∀ (d fuel i : Nat), l.length = i + d -> d < fuel ->
 Zd k l fuel (i : Int) = some (sumE (chk (bef l i) (l.drop i))) := by
 intro d
 induction d with
 | zero =>
   intro fuel i h hf
   obtain ⟨g, rfl⟩ : ∃ g, fuel = g + 1 := ⟨fuel - 1, by omega⟩
   rw [Zd.eq_2, if_neg (by omega), List.drop_eq_nil_of_le (by omega)]; rfl
 | succ d ih =>
   intro fuel i h hf
   obtain ⟨g, rfl⟩ : ∃ g, fuel = g + 1 := ⟨fuel - 1, by omega⟩
   rw [Zd.eq_2, if_pos (by omega), if_pos (by omega), Js (by omega), ih g (i + 1) (by omega) (by omega), Xt (y := l) (i := i) (by omega) default, Qwk]
   unfold Qbe
   rw [Qb9, Qb9]
   simp only [Int.toNat_natCast, chk, Qwl, Option.bind_some, Qun]
   cases inR (-1000000) 1000000 (l.getD i default).At with
   | false => rfl
   | true =>
     rw [if_pos rfl]
     cases inR (-1000000) 1000000 (l.getD i default).Value with
     | false => rfl
     | true =>
       rw [if_pos rfl]
       by_cases h0 : 0 < i
       ·rw [if_pos (by omega), Ji (by omega) (by omega), if_pos (by omega), show ((i : Int) - 1).toNat = i - 1 by omega]
        by_cases h1 : (l.getD i default).At <= (l.getD (i - 1) default).At
        ·rw [if_pos h1, decide_eq_true h0, decide_eq_true h1]; rfl
        ·rw [if_neg h1, decide_eq_true h0, decide_eq_false h1]; rfl
       ·rw [if_neg (by omega), decide_eq_false h0]; rfl
theorem Qr4 (k : Nat) (hk : 100 < k) (hk2 : k <= 100000000000000000000) (l : List Qo) (hl : l.length < k) : Yf k l = some (tabE l) := by
 unfold Yf tabE
 rw [Qb9, Option.bind_some]
 cases hin : inR 1 40 (l.length : Int) with
 | false => rfl
 | true =>
   have hin := Qkn.1 hin
   rw [if_pos rfl, show Zd k l k 0 = _ from Q2h k hk hk2 l (by omega) l.length k 0 (by omega) hl, Option.bind_some]
   show (match sumE (chk none l) with | .inl r => some r | .inr _ => some 0) = some (chk none l)
   unfold sumE
   by_cases h : chk none l = 0
   ·rw [if_pos h, h]
   ·rw [if_neg h]
structure Tab (l : List Qo) : Prop where
 pos : 0 < l.length
 le : l.length <= 40
 row : ∀ i, i < l.length -> -1000000 <= (l.getD i default).At /\ (l.getD i default).At <= 1000000 /\ -1000000 <= (l.getD i default).Value /\ (l.getD i default).Value <= 1000000
 inc : ∀ i, i + 1 < l.length -> (l.getD i default).At < (l.getD (i + 1) default).At
theorem Qwm : ∀ (l : List Qo) (p : Option Int), chk p l = 0 -> (∀ i, i < l.length -> Qun (l.getD i default) = true) /\ (∀ i, i + 1 < l.length -> (l.getD i default).At < (l.getD (i + 1) default).At) /\ (0 < l.length -> late p (l.getD 0 default).At = false)
 | [], p, h => ⟨fun i hi => by simp at hi, fun i hi => by simp at hi, fun hi => by simp at hi⟩
 | r :: l, p, h => by
   simp only [chk] at h
   cases h1 : Qun r with
   | false => rw [h1] at h; cases h
   | true =>
     rw [h1] at h
     cases h2 : late p r.At with
     | true => rw [h2] at h; cases h
     | false =>
       rw [h2] at h
       obtain ⟨g1, g2, g3⟩ := Qwm l (some r.At) h
       refine ⟨fun i hi => ?_, fun i hi => ?_, fun _ => h2⟩
       ·cases i with
        | zero => exact h1
        | succ i => exact g1 i (by simpa using hi)
       ·cases i with
        | zero =>
          have := g3 (by simp at hi; omega)
          simp only [late, decide_eq_false_iff_not] at this
          show r.At < (l.getD 0 default).At
          omega
        | succ i => exact g2 i (by simp at hi; omega)
theorem Tab.of {l : List Qo} (h : tabE l = 0) : Tab l := by
 unfold tabE at h
 cases h1 : inR 1 40 (l.length : Int) with
 | false => rw [h1] at h; cases h
 | true =>
   rw [h1] at h
   have h1 := Qkn.1 h1
   obtain ⟨g1, g2, _⟩ := Qwm l none h
   refine ⟨by omega, by omega, fun i hi => ?_, g2⟩
   have := g1 i hi
   simp only [Qun, Bool.and_eq_true, Qkn] at this
   omega
def mid (a b : Qo) (t : Int) : Int := a.Value + ((b.Value - a.Value) * (t - a.At)) / (b.At - a.At)
def vrec (a : Qo) (t : Int) : List Qo -> Int
 | [] => a.Value
 | b :: l => if t < b.At then mid a b t else vrec b t l
def val (l : List Qo) (t : Int) : Int := if t < (l.getD 0 default).At then (l.getD 0 default).Value else vrec (l.getD 0 default) t (l.drop 1)
theorem Q41 {x y A B : Int} (h1 : -A <= x /\ x <= A) (h2 : -B <= y /\ y <= B) (hA : 0 <= A) (hB : 0 <= B) : -(A * B) <= x * y /\ x * y <= A * B := by
 have h : (x * y).natAbs <= (A * B).natAbs := by
  rw [Int.natAbs_mul, Int.natAbs_mul]
  exact Nat.mul_le_mul (by omega) (by omega)
 have := Int.mul_nonneg hA hB
 omega
theorem Q7p {p d A : Int} (hp : -A <= p /\ p <= A) (hd : 0 < d) : -A <= p / d /\ p / d <= A := by
 have e := Int.mul_ediv_add_emod p d
 have e1 := Int.emod_nonneg p (show d ≠ 0 by omega)
 have e2 := Int.emod_lt_of_pos p hd
 generalize p / d = q at e
 constructor
 ·rcases Int.lt_or_le q (-A) with hc | hc
  ·have h1 : d * q <= d * (-A - 1) := Int.mul_le_mul_of_nonneg_left (by omega) (by omega)
   have h2 : d * (-A - 1) = d * (-A) - d := by rw [Int.mul_sub, Int.mul_one]
   have h3 : d * (-A) <= 1 * (-A) := Int.mul_le_mul_of_nonpos_right (by omega) (by omega)
   omega
  ·exact hc
 ·rcases Int.lt_or_le A q with hc | hc
  ·have : 1 * q <= d * q := Int.mul_le_mul_of_nonneg_right (by omega) (by omega)
   omega
  ·exact hc
theorem Q0u (k : Nat) {a b : Qo} {t : Int} (ha : -1000000 <= a.At /\ a.At <= 1000000 /\ -1000000 <= a.Value /\ a.Value <= 1000000) (hb : -1000000 <= b.At /\ b.At <= 1000000 /\ -1000000 <= b.Value /\ b.Value <= 1000000) (hab : a.At < b.At) (ht : -1000000 <= t /\ t <= 1000000) :
 Qes k (w64 ((w64 (b.Value - a.Value)) * (w64 (t - a.At)))) (w64 (b.At - a.At)) = some (((b.Value - a.Value) * (t - a.At)) / (b.At - a.At)) /\ w64 (a.Value + ((b.Value - a.Value) * (t - a.At)) / (b.At - a.At)) = mid a b t := by
 have hp := Q41 (x := b.Value - a.Value) (y := t - a.At) (A := 2000000) (B := 2000000) (by omega) (by omega) (by decide) (by decide)
 have hq := Q7p (d := b.At - a.At) hp (by omega)
 rw [Ji (n := b.Value - a.Value) (by omega) (by omega), Ji (n := t - a.At) (by omega) (by omega), Ji (n := b.At - a.At) (by omega) (by omega)]
 exact ⟨by rw [Ji (by omega) (by omega), Qqu k (by omega) (by omega)], Ji (by omega) (by omega)⟩
def fst (t : Int) : Nat -> List Qo -> Option Nat
 | _, [] => none
 | i, r :: l => if t < r.At then some i else fst t (i + 1) l
theorem Q42 (k : Nat) (l : List Qo) (t : Int) (hl : l.length < 1000000000) : ∀ (d fuel i : Nat), l.length = i + d -> d < fuel ->
 Ql k l t fuel (i : Int) = some (match fst t i (l.drop i) with | some j => .inl (j : Int) | none => .inr ()) := by
 intro d
 induction d with
 | zero =>
   intro fuel i h hf
   obtain ⟨g, rfl⟩ : ∃ g, fuel = g + 1 := ⟨fuel - 1, by omega⟩
   rw [Ql.eq_2, if_neg (by omega), List.drop_eq_nil_of_le (by omega)]; rfl
 | succ d ih =>
   intro fuel i h hf
   obtain ⟨g, rfl⟩ : ∃ g, fuel = g + 1 := ⟨fuel - 1, by omega⟩
   rw [Ql.eq_2, if_pos (by omega), if_pos (by omega), Js (by omega), ih g (i + 1) (by omega) (by omega), Xt (y := l) (i := i) (by omega) default]
   simp only [Int.toNat_natCast, fst]
   show ((some (decide (t < (l.getD i default).At))).bind _) = _
   rw [Option.bind_some]
   by_cases h1 : t < (l.getD i default).At
   ·rw [if_pos (by simpa using h1), if_pos h1]
   ·rw [if_neg (by simpa using h1), if_neg h1]
def idxv : Option Nat -> Int
 | some j => (j : Int)
 | none => -1
theorem Q0v (j : Nat) : idxv (some j) = (j : Int) := rfl
theorem Q0w : idxv none = -1 := rfl
theorem Q0x (k : Nat) (l : List Qo) (t : Int) (hl : l.length < 1000000000) (hk : l.length < k) : Qz k l t = some (idxv (fst t 0 l)) := by
 unfold Qz
 rw [show Ql k l t k 0 = _ from Q42 k l t hl l.length k 0 (by omega) hk, Option.bind_some, List.drop_zero]
 cases fst t 0 l <;> rfl
theorem Qwn : ∀ (t : Int) (l : List Qo) (i j : Nat), fst t i l = some j -> i <= j /\ j - i < l.length /\ t < (l.getD (j - i) default).At /\ ∀ m, m < j - i -> (l.getD m default).At <= t
 | t, [], i, j, h => by cases h
 | t, r :: l, i, j, h => by
   simp only [fst] at h
   split at h
   ·injection h with h; subst h
    refine ⟨Nat.le_refl _, by simp, by simpa using ‹t < r.At›, fun m hm => by omega⟩
   ·rename_i hn
    obtain ⟨g1, g2, g3, g4⟩ := Qwn t l (i + 1) j h
    refine ⟨by omega, by simp only [List.length_cons]; omega, ?_, fun m hm => ?_⟩
    ·rw [show j - i = (j - (i + 1)) + 1 by omega]; exact g3
    ·cases m with
     | zero => show r.At <= t; omega
     | succ m => exact g4 m (by omega)
theorem Qwo : ∀ (t : Int) (l : List Qo) (i : Nat), fst t i l = none -> ∀ m, m < l.length -> (l.getD m default).At <= t
 | t, [], i, h, m, hm => by simp at hm
 | t, r :: l, i, h, m, hm => by
   simp only [fst] at h
   split at h
   ·cases h
   ·cases m with
    | zero => show r.At <= t; omega
    | succ m => exact Qwo t l (i + 1) h m (by simpa using hm)
theorem Q0y : ∀ (l : List Qo) (a : Qo) (t : Int) (j : Nat), j < l.length -> t < (l.getD j default).At -> (∀ m, m < j -> (l.getD m default).At <= t) -> vrec a t l = mid ((a :: l).getD j default) (l.getD j default) t
 | [], a, t, j, h, _, _ => by simp at h
 | b :: l, a, t, j, h, h1, h2 => by
   cases j with
   | zero =>
     have h1 : t < b.At := h1
     simp only [vrec]; rw [if_pos h1]; rfl
   | succ j =>
     have := h2 0 (by omega)
     have : b.At <= t := this
     simp only [vrec]
     rw [if_neg (by omega), Q0y l b t j (by simpa using h) h1 (fun m hm => h2 (m + 1) (by omega))]
     rfl
theorem Qr3 : ∀ (l : List Qo) (a : Qo) (t : Int), (∀ m, m < l.length -> (l.getD m default).At <= t) -> vrec a t l = ((a :: l).getD l.length default).Value
 | [], a, t, _ => rfl
 | b :: l, a, t, h => by
   have : b.At <= t := h 0 (by simp)
   simp only [vrec]
   rw [if_neg (by omega), Qr3 l b t (fun m hm => h (m + 1) (by simpa using hm))]
   rfl
theorem Qli {l : List Qo} {i : Nat} : (l.drop 1).getD i default = l.getD (i + 1) default := by
 rw [List.getD_eq_getElem?_getD, List.getD_eq_getElem?_getD, List.getElem?_drop, Nat.add_comm]
theorem head_tail {l : List Qo} (h : 0 < l.length) : l.getD 0 default :: l.drop 1 = l := by
 cases l with
 | nil => simp at h
 | cons a l => rfl
theorem Qol (k : Nat) (hk : 100 < k) {l : List Qo} (h : Tab l) {t : Int} (ht : -1000000 <= t /\ t <= 1000000) : Qdx k l t = some (val l t) := by
 unfold Qdx val
 have hle := h.le
 have hpos := h.pos
 rw [Q0x k l t (by omega) (by omega), Option.bind_some]
 cases hf : fst t 0 l with
 | none =>
   have hn := Qwo t l 0 hf
   have h0 := hn 0 hpos
   rw [Q0w, if_pos rfl, Ji (by omega) (by omega), if_pos (by omega), if_neg (by omega), Qr3 _ _ _ (fun m hm => by rw [Qli]; exact hn (m + 1) (by simp at hm; omega)), head_tail hpos, List.length_drop, show ((l.length : Int) - 1).toNat = l.length - 1 by omega]
 | some j =>
   obtain ⟨_, g2, g3, g4⟩ := Qwn t l 0 j hf
   rw [Nat.sub_zero] at g2 g3 g4
   rw [Q0v, if_neg (show ¬(j : Int) = -1 by omega)]
   cases j with
   | zero =>
     rw [if_pos (show ((0 : Nat) : Int) = 0 from rfl), if_pos (by omega), if_pos g3]; rfl
   | succ j =>
     have h0 := g4 0 (by omega)
     have e1 : ((j + 1 : Nat) : Int) = (j : Int) + 1 := by omega
     rw [e1, if_neg (show ¬(j : Int) + 1 = 0 by omega), Ji (n := (j : Int) + 1 - 1) (by omega) (by omega), if_pos (show 0 <= (j : Int) + 1 - 1 /\ (j : Int) + 1 - 1 < (l.length : Int) by omega), if_pos (show 0 <= (j : Int) + 1 /\ (j : Int) + 1 < (l.length : Int) by omega), show ((j : Int) + 1 - 1).toNat = j by omega, show ((j : Int) + 1).toNat = j + 1 by omega]
     obtain ⟨m1, m2⟩ := Q0u k (h.row j (by omega)) (h.row (j + 1) g2) (h.inc j g2) ht
     rw [m1, Option.bind_some, m2, if_neg (show ¬t < (l.getD 0 default).At by omega), Q0y _ _ _ j (by simp; omega) (by rw [Qli]; exact g3) (fun m hm => by rw [Qli]; exact g4 (m + 1) (by omega)), head_tail hpos, Qli]
theorem Q0z (k : Nat) (hk : 100 < k) {l : List Qo} (h : Tab l) {t : Int} (ht : -1000000 <= t /\ t <= 1000000) : ∀ (d fuel i : Nat), l.length = (i + 1) + d -> d < fuel ->
 Xg k l t fuel ((i + 1 : Nat) : Int) = some (if (∃ j, j < l.length /\ i + 1 <= j /\ t < (l.getD j default).At) then .inl (vrec (l.getD i default) t (l.drop (i + 1))) else .inr ()) := by
 intro d
 have hle := h.le
 induction d with
 | zero =>
   intro fuel i hi hf
   obtain ⟨g, rfl⟩ : ∃ g, fuel = g + 1 := ⟨fuel - 1, by omega⟩
   rw [Xg.eq_2, if_neg (by omega), if_neg (fun ⟨j, h1, h2, _⟩ => by omega)]
 | succ d ih =>
   intro fuel i hi hf
   obtain ⟨g, rfl⟩ : ∃ g, fuel = g + 1 := ⟨fuel - 1, by omega⟩
   rw [Xg.eq_2, if_pos (by omega), Ji (n := ((i + 1 : Nat) : Int) - 1) (by omega) (by omega), if_pos (by omega), if_pos (by omega), show (((i + 1 : Nat) : Int) - 1).toNat = i by omega, show ((i + 1 : Nat) : Int).toNat = i + 1 by omega, Js (by omega), ih g (i + 1) (by omega) (by omega), Xt (y := l) (i := i + 1) (by omega) default]
   simp only [vrec]
   by_cases h1 : t < (l.getD (i + 1) default).At
   ·obtain ⟨m1, m2⟩ := Q0u k (h.row i (by omega)) (h.row (i + 1) (by omega)) (h.inc i (by omega)) ht
    rw [if_pos h1, Qjv, m1, Option.bind_some, m2, if_pos ⟨i + 1, by omega, by omega, h1⟩, if_pos h1]
   ·rw [if_neg h1, if_neg h1]
    by_cases h2 : ∃ j, j < l.length /\ i + 1 + 1 <= j /\ t < (l.getD j default).At
    ·obtain ⟨j, a, b, c⟩ := h2
     rw [if_pos ⟨j, a, b, c⟩, if_pos ⟨j, a, by omega, c⟩]
    ·have h3 : ¬∃ j, j < l.length /\ i + 1 <= j /\ t < (l.getD j default).At := by
      intro ⟨j, a, b, c⟩
      by_cases e : j = i + 1
      ·subst e; exact h1 c
      ·exact h2 ⟨j, a, by omega, c⟩
     rw [if_neg h2, if_neg h3]
theorem Qr6 (k : Nat) (hk : 100 < k) {l : List Qo} (h : Tab l) {t : Int} (ht : -1000000 <= t /\ t <= 1000000) : Wq k l t = some (val l t) := by
 unfold Wq val
 have hle := h.le
 have hpos := h.pos
 rw [if_pos (by omega)]
 simp only [Int.toNat_zero]
 by_cases h1 : t <= (l.getD 0 default).At
 ·rw [if_pos h1]
  by_cases h2 : t < (l.getD 0 default).At
  ·rw [if_pos h2]
  ·rw [if_neg h2]
   have e : t = (l.getD 0 default).At := by omega
   congr 1
   by_cases h3 : 1 < l.length
   ·have := h.inc 0 (by omega)
    rw [Nat.zero_add] at this
    rw [Xt (y := l) (i := 1) h3 default]
    simp only [vrec]
    rw [if_pos (by omega)]
    unfold mid
    rw [e, Int.sub_self, Int.mul_zero, Int.zero_ediv, Int.add_zero]
   ·rw [List.drop_eq_nil_of_le (by omega)]; rfl
 ·rw [if_neg h1, if_neg (show ¬t < (l.getD 0 default).At by omega), show Xg k l t k 1 = _ from Q0z k hk h ht (l.length - 1) k 0 (by omega) (by omega), Option.bind_some]
  by_cases h2 : ∃ j, j < l.length /\ 0 + 1 <= j /\ t < (l.getD j default).At
  ·rw [if_pos h2]
  ·rw [if_neg h2]
   dsimp only
   rw [Ji (by omega) (by omega), if_pos (by omega), Qr3 _ _ _ (fun m hm => by
    rw [Qli]
    rcases Int.lt_or_le t (l.getD (m + 1) default).At with c | c
    ·exact absurd ⟨m + 1, by simp at hm; omega, by omega, c⟩ h2
    ·exact c), head_tail hpos, List.length_drop, show ((l.length : Int) - 1).toNat = l.length - 1 by omega]
def Qww (l : List Qo) : Bool := decide (l.length <= 6 \/ 40 < l.length /\ l.length <= 43)
theorem Qut (k : Nat) (l : List Qo) : Qbi k l = some (Qww l) := by
 unfold Qbi Qww
 by_cases h : (l.length : Int) <= 6
 ·rw [if_pos h, decide_eq_true (by omega)]
 ·rw [if_neg h]
  by_cases h2 : 40 < (l.length : Int)
  ·rw [if_pos h2]; congr 1; rw [decide_eq_decide]; omega
  ·rw [if_neg h2, decide_eq_false (by omega)]
theorem Qp7 (k : Nat) (l : List Qo) (hl : l.length <= 1000000000) : Qa2 k l = some l := by
 unfold Qa2
 rw [if_pos (by simpa using hl)]; rfl
theorem Q43 {v t d : Int} (ht : 0 <= t) (htd : t <= d) (hd : 0 < d) : (0 <= v -> 0 <= v * t / d /\ v * t / d <= v) /\ (v <= 0 -> v <= v * t / d /\ v * t / d <= 0) := by
 constructor
 ·intro hv
  refine ⟨Int.ediv_nonneg (Int.mul_nonneg hv ht) (by omega), ?_⟩
  have h1 : v * t <= v * d := Int.mul_le_mul_of_nonneg_left htd hv
  have := Int.ediv_le_ediv hd h1
  rwa [Int.mul_ediv_cancel _ (by omega)] at this
 ·intro hv
  constructor
  ·have h1 : v * d <= v * t := Int.mul_le_mul_of_nonpos_left hv htd
   have := Int.ediv_le_ediv hd h1
   rwa [Int.mul_ediv_cancel _ (by omega)] at this
  ·have h1 : v * t <= 0 := Int.mul_nonpos_of_nonpos_of_nonneg hv ht
   have := Int.ediv_le_ediv hd h1
   simpa using this
theorem Q00 (L H : Int) (t : Int) : ∀ (l : List Qo) (a : Qo), a.At <= t -> (∀ r ∈ a :: l, L <= r.Value /\ r.Value <= H) -> L <= vrec a t l /\ vrec a t l <= H
 | [], a, _, h => h a (by simp)
 | b :: l, a, ha, h => by
   simp only [vrec]
   by_cases c : t < b.At
   ·rw [if_pos c]
    have h1 := h a (by simp)
    have h2 := h b (by simp)
    obtain ⟨p1, p2⟩ := Q43 (v := b.Value - a.Value) (t := t - a.At) (d := b.At - a.At) (by omega) (by omega) (by omega)
    unfold mid
    rcases Int.le_total 0 (b.Value - a.Value) with e | e
    ·have := p1 e; omega
    ·have := p2 e; omega
   ·rw [if_neg c]
    exact Q00 L H t l b (by omega) (fun r hr => h r (List.mem_cons_of_mem _ hr))
theorem Quq {l : List Qo} (h : Tab l) (t : Int) : -1000000 <= val l t /\ val l t <= 1000000 := by
 have hpos := h.pos
 unfold val
 by_cases c : t < (l.getD 0 default).At
 ·rw [if_pos c]
  have := h.row 0 hpos; omega
 ·rw [if_neg c]
  refine Q00 _ _ t (l.drop 1) _ (by omega) (fun r hr => ?_)
  rw [head_tail hpos] at hr
  obtain ⟨i, hi, rfl⟩ := List.mem_iff_getElem.1 hr
  have := h.row i hi
  rw [List.getD_eq_getElem?_getD, List.getElem?_eq_getElem hi] at this
  exact this.2.2
end Go.Proofs.Ytjomicmhnbmhoaa.Vg

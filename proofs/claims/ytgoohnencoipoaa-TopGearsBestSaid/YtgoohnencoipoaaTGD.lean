import Derived.Test.YtgoohnencoipoaaG2
import Derived.Test.YtgoohnencoipoaaWb
import Derived.Test.YtgoohnencoipoaaG3
section
set_option linter.unusedVariables false
set_option linter.unusedSimpArgs false
namespace Go.Proofs.Ytgoohnencoipoaa.Vg
open Go Go.Proofs.Ytgoohnencoipoaa.Ev Go.Proofs.Ytgoohnencoipoaa.Vv
theorem Wy {n : Int} (h1 : -9223372036854775808 <= n) (h2 : n <= 9223372036854775807) : w64 n = n := by
 unfold w64 IntKind.wrap
 simp [IntKind.signed, IntKind.bits]
 omega
theorem J8 {i : Nat} (h : i < 1000000000000) : w64 ((i : Int) + 1) = ((i + 1 : Nat) : Int) := by
 rw [Wy (by omega) (by omega)]; omega
theorem Qww {n : Int} (h1 : 0 <= n) (h2 : n < 18446744073709551616) : IntKind.u64.wrap n = n := by
 unfold IntKind.wrap
 simp [IntKind.signed, IntKind.bits]
 omega
theorem size_any (k : Nat) {n : Int} (h : In64 n) : Yv k n = some (n.natAbs : Int) := by
 unfold In64 at h
 unfold Yv
 by_cases h0 : n < 0
 ·rw [if_pos h0]
  congr 1
  unfold IntKind.wrap
  simp [IntKind.signed, IntKind.bits]
  omega
 ·rw [if_neg h0, Qww (by omega) (by omega)]
  congr 1; omega
theorem Qok (x y : Int) : Nat.gcd y.natAbs (x.tmod y).natAbs = Nat.gcd x.natAbs y.natAbs := by
 rw [Int.natAbs_tmod, Nat.gcd_comm x.natAbs, Nat.gcd_rec y.natAbs x.natAbs, Nat.gcd_comm]
theorem gl (k : Nat) : ∀ (n fuel : Nat) (x y : Int), y.natAbs < n -> n <= fuel ->
 ∃ r, Xd k fuel x y = some r /\ r.natAbs = Nat.gcd x.natAbs y.natAbs := by
 intro n
 induction n with
 | zero => intro fuel x y h; omega
 | succ n ih =>
   intro fuel x y h hf
   obtain ⟨g, rfl⟩ : ∃ g, fuel = g + 1 := ⟨fuel - 1, by omega⟩
   rw [Xd.eq_2]
   by_cases h0 : y = 0
   ·rw [if_pos h0]
    exact ⟨x, rfl, by rw [h0]; simp⟩
   ·rw [if_neg h0, if_pos h0]
    have hy : 0 < y.natAbs := by omega
    obtain ⟨r, e1, e3⟩ := ih g y (x.tmod y) (by rw [Int.natAbs_tmod]; have := Nat.mod_lt x.natAbs hy; omega) (by omega)
    exact ⟨r, e1, by rw [e3, Qok]⟩
theorem gd (k : Nat) : ∀ (n fuel : Nat) (x y : Nat), y < n -> n <= fuel ->
 X8 k fuel (x : Int) (y : Int) = some (Nat.gcd x y : Int) := by
 intro n
 induction n with
 | zero => intro fuel x y h; omega
 | succ n ih =>
   intro fuel x y h hf
   obtain ⟨g, rfl⟩ : ∃ g, fuel = g + 1 := ⟨fuel - 1, by omega⟩
   rw [X8.eq_2]
   by_cases h0 : y = 0
   ·subst h0
    rw [if_pos (show ((0 : Nat) : Int) = 0 from rfl), Nat.gcd_zero_right]
   ·rw [if_neg (by omega), if_pos (by omega)]
    have e : ((x : Int).tmod (y : Int)) = ((x % y : Nat) : Int) := by
     rw [Int.tmod_eq_emod_of_nonneg (by omega)]; omega
    rw [e, ih g y (x % y) (by have := Nat.mod_lt x (show 0 < y by omega); omega) (by omega), Nat.gcd_comm x y, Nat.gcd_rec y x, Nat.gcd_comm]
def cf (f : Qc) : Int := if f.Den <= 0 then 3 else if Nat.gcd f.Num.natAbs f.Den.natAbs = 1 then (if f.Num < -1000000000 \/ 1000000000 < f.Num \/ 1000000000 < f.Den then 2 else 0) else 3
theorem Qke (k : Nat) (hk : 18446744073709551617 <= k) (f : Qc) (h1 : In64 f.Num) (h2 : In64 f.Den) : X5 k f = some (cf f) := by
 unfold X5 cf Yz
 by_cases c1 : f.Den <= 0
 ·rw [if_pos c1, if_pos c1]
 ·rw [if_neg c1, if_neg c1, size_any k h1, Option.bind_some, size_any k h2, Option.bind_some]
  unfold In64 at h1 h2
  rw [gd k (f.Den.natAbs + 1) k _ _ (by omega) (by omega), Option.bind_some, Option.bind_some]
  by_cases c2 : Nat.gcd f.Num.natAbs f.Den.natAbs = 1
  ·rw [if_pos c2, if_pos (by omega)]
   by_cases c3 : f.Num < -1000000000 \/ 1000000000 < f.Num \/ 1000000000 < f.Den
   ·rw [if_pos c3]
    by_cases c4 : (1000000000 : Int) < (f.Num.natAbs : Int)
    ·rw [if_pos c4]
    ·rw [if_neg c4, if_pos (by omega)]
   ·rw [if_neg c3, if_neg (by omega), if_neg (by omega)]
  ·rw [if_neg c2, if_neg (by omega)]
theorem Qea (k : Nat) (hk : 18446744073709551617 <= k) (f : Qc) (h1 : In64 f.Num) (h2 : In64 f.Den) : Qi k f = some (cf f) := by
 unfold Qi cf Qas
 unfold In64 at h1 h2
 by_cases c1 : f.Den <= 0
 ·rw [if_pos c1, if_pos (by omega)]
 ·rw [if_neg c1, if_neg (by omega)]
  obtain ⟨r, e1, e2⟩ := gl k (f.Den.natAbs + 1) k f.Num f.Den (by omega) (by omega)
  have hr : r.natAbs <= f.Den.natAbs := by rw [e2]; exact Nat.gcd_le_right _ (by omega)
  rw [e1, Option.bind_some]
  have ha : Jb k r = some (r.natAbs : Int) := by
   unfold Jb
   by_cases h : r < 0
   ·rw [if_pos h, Wy (by omega) (by omega)]; congr 1; omega
   ·rw [if_neg h]; congr 1; omega
  rw [ha, Option.bind_some, Option.bind_some, e2]
  by_cases c2 : Nat.gcd f.Num.natAbs f.Den.natAbs = 1
  ·rw [if_pos c2, if_pos (by omega)]
   by_cases c3 : f.Num < -1000000000 \/ 1000000000 < f.Num \/ 1000000000 < f.Den
   ·rw [if_pos c3]
    by_cases c4 : f.Num < -1000000000
    ·rw [if_pos c4]
    ·rw [if_neg c4]
     by_cases c5 : 1000000000 < f.Num
     ·rw [if_pos c5]
     ·rw [if_neg c5, if_pos (by omega)]
   ·rw [if_neg c3, if_neg (by omega), if_neg (by omega), if_neg (by omega)]
  ·rw [if_neg c2, if_neg (by omega)]
theorem Qir {x y : Int} (h : y ≠ 0) : 0 < Nat.gcd x.natAbs y.natAbs := Nat.gcd_pos_of_pos_right _ (by omega)
def lowF (n d : Int) : Qc := if d < 0 then ⟨-(n.tdiv (Nat.gcd n.natAbs d.natAbs : Int)), -(d.tdiv (Nat.gcd n.natAbs d.natAbs : Int))⟩ else ⟨n.tdiv (Nat.gcd n.natAbs d.natAbs : Int), d.tdiv (Nat.gcd n.natAbs d.natAbs : Int)⟩
def lowS (n d : Int) : Qc × Int := if cf (lowF n d) = 0 then (lowF n d, 0) else (⟨0, 0⟩, 8)
theorem tdiv_le (n g : Int) : (n.tdiv g).natAbs <= n.natAbs := by rw [Int.natAbs_tdiv]; exact Nat.div_le_self _ _
theorem Qvn (n d : Int) (hn : n.natAbs <= 9000000000000000000) (hdd : d.natAbs <= 9000000000000000000) : In64 (lowF n d).Num /\ In64 (lowF n d).Den := by
 have h1 := tdiv_le n (Nat.gcd n.natAbs d.natAbs : Int)
 have h2 := tdiv_le d (Nat.gcd n.natAbs d.natAbs : Int)
 unfold lowF In64
 split <;> dsimp only <;> omega
theorem Qvo (k : Nat) (hk : 18446744073709551617 <= k) (n d : Int) (hd : d ≠ 0) (hn : n.natAbs <= 9000000000000000000) (hdd : d.natAbs <= 9000000000000000000) : Qax k n d = some (lowS n d) := by
 have hg := Qir (x := n) hd
 have hgl : Nat.gcd n.natAbs d.natAbs <= 9000000000000000000 := Nat.le_trans (Nat.gcd_le_right _ (by omega)) hdd
 have h1 := tdiv_le n (Nat.gcd n.natAbs d.natAbs : Int)
 have h2 := tdiv_le d (Nat.gcd n.natAbs d.natAbs : Int)
 obtain ⟨b1, b2⟩ := Qvn n d hn hdd
 have fin : ∀ x y : Int, (⟨x, y⟩ : Qc) = lowF n d -> ((X5 k (⟨x, y⟩ : Qc)).bind fun r => (if r = 0 then (some ((⟨x, y⟩ : Qc), (0 : Int))) else (some ((⟨0, 0⟩ : Qc), 8)))) = some (lowS n d) := by
  intro x y e
  rw [e, Qke k hk _ b1 b2, Option.bind_some]
  unfold lowS
  by_cases h : cf (lowF n d) = 0
  ·rw [if_pos h, if_pos h]
  ·rw [if_neg h, if_neg h]
 unfold Qax Yz
 by_cases h : d < 0
 ·rw [if_pos h, Wy (n := 0 - n) (by omega) (by omega), Wy (n := 0 - d) (by omega) (by omega), size_any k (by unfold In64; omega), Option.bind_some, size_any k (by unfold In64; omega), Option.bind_some,
   gd k ((0 - d).natAbs + 1) k _ _ (by omega) (by omega), Option.bind_some, Option.bind_some, show (0 - n).natAbs = n.natAbs by omega, show (0 - d).natAbs = d.natAbs by omega, Wy (n := (Nat.gcd n.natAbs d.natAbs : Int)) (by omega) (by omega), if_pos (by omega)]
  apply fin
  unfold lowF
  rw [if_pos h, show (0 : Int) - n = -n by omega, show (0 : Int) - d = -d by omega, Int.neg_tdiv, Int.neg_tdiv, Wy (by omega) (by omega), Wy (by omega) (by omega)]
 ·rw [if_neg h, size_any k (by unfold In64; omega), Option.bind_some, size_any k (by unfold In64; omega), Option.bind_some,
   gd k (d.natAbs + 1) k _ _ (by omega) (by omega), Option.bind_some, Option.bind_some, Wy (n := (Nat.gcd n.natAbs d.natAbs : Int)) (by omega) (by omega), if_pos (by omega)]
  apply fin
  unfold lowF
  rw [if_neg h, Wy (by omega) (by omega), Wy (by omega) (by omega)]
structure Ok (f : Qc) : Prop where
 den : 1 <= f.Den
 denB : f.Den <= 1000000000
 num : f.Num.natAbs <= 1000000000
 low : Nat.gcd f.Num.natAbs f.Den.natAbs = 1
theorem Qlv {f : Qc} (h : cf f = 0) : Ok f := by
 unfold cf at h
 split at h
 ·omega
 split at h
 case isFalse => omega
 rename_i h2
 split at h
 ·omega
 exact ⟨by omega, by omega, by omega, h2⟩
theorem Ok.cf {f : Qc} (h : Ok f) : cf f = 0 := by
 have h1 := h.den
 have h2 := h.denB
 have h3 := h.num
 unfold Vg.cf
 rw [if_neg (by omega), if_pos h.low, if_neg (by omega)]
theorem Ok.in64 {f : Qc} (h : Ok f) : In64 f.Num /\ In64 f.Den := by
 have h1 := h.den
 have h2 := h.denB
 have h3 := h.num
 unfold In64; omega
theorem Qjg (k : Nat) (hk : 18446744073709551617 <= k) (f g : Qc) (hf : Ok f) (hg : Ok g) : Wi k [f, g] = some 0 := by
 unfold Wi
 obtain ⟨j, hj⟩ : ∃ j, k = j + 1 + 1 + 1 := ⟨k - 3, by omega⟩
 have e : Zg k [f, g] k 0 = some (.inr ()) := by
  have go : ∀ j, Zg k [f, g] (j + 1 + 1 + 1) 0 = some (.inr ()) := by
   intro j
   rw [Zg.eq_2, if_pos (by simp), if_pos (by simp), show ([f, g] : List Qc).getD (0 : Int).toNat default = f from rfl, Qke k hk f hf.in64.1 hf.in64.2, Option.bind_some, if_pos hf.cf, show w64 (0 + 1) = 1 from rfl,
    Zg.eq_2, if_pos (by simp), if_pos (by simp), show ([f, g] : List Qc).getD (1 : Int).toNat default = g from rfl, Qke k hk g hg.in64.1 hg.in64.2, Option.bind_some, if_pos hg.cf, show w64 (1 + 1) = 2 from rfl,
    Zg.eq_2, if_neg (by simp)]
  have := go j
  rw [<- hj] at this
  exact this
 rw [e]; rfl
theorem Qnv {a b : Int} (ha : a.natAbs <= 1000000000) (hb : b.natAbs <= 1000000000) : (a * b).natAbs <= 1000000000000000000 := by
 rw [Int.natAbs_mul]; exact Nat.mul_le_mul ha hb
def mulS (f g : Qc) : Qc × Int := lowS (f.Num * g.Num) (f.Den * g.Den)
theorem Qol (k : Nat) (hk : 18446744073709551617 <= k) (f g : Qc) (hf : Ok f) (hg : Ok g) : Qb3 k f g = some (mulS f g) := by
 have b1 := Qnv hf.num hg.num
 have b2 := Qnv (a := f.Den) (b := g.Den) (by have := hf.den; have := hf.denB; omega) (by have := hg.den; have := hg.denB; omega)
 have b3 : 0 < f.Den * g.Den := Int.mul_pos (by have := hf.den; omega) (by have := hg.den; omega)
 unfold Qb3 mulS
 rw [Qjg k hk f g hf hg, Option.bind_some, if_pos rfl, Wy (n := f.Num * g.Num) (by omega) (by omega), Wy (n := f.Den * g.Den) (by omega) (by omega), Qvo k hk _ _ (by omega) (by omega) (by omega)]
 rfl
theorem Qry {n d : Int} (h : (lowS n d).2 = 0) : Ok (lowS n d).1 /\ (lowS n d).1 = lowF n d := by
 unfold lowS at h ⊢
 by_cases hc : cf (lowF n d) = 0
 ·rw [if_pos hc]; exact ⟨Qlv hc, rfl⟩
 ·rw [if_neg hc] at h; simp at h
theorem Qtq (n d : Int) : (lowS n d).2 = 0 \/ (lowS n d).2 = 8 := by
 unfold lowS
 by_cases hc : cf (lowF n d) = 0
 ·rw [if_pos hc]; exact .inl rfl
 ·rw [if_neg hc]; exact .inr rfl
theorem Qgo {n d : Int} (hd : 0 < d) : 0 < (lowF n d).Den /\ n = (lowF n d).Num * (Nat.gcd n.natAbs d.natAbs : Int) /\ d = (lowF n d).Den * (Nat.gcd n.natAbs d.natAbs : Int) /\ Nat.gcd (lowF n d).Num.natAbs (lowF n d).Den.natAbs = 1 := by
 have hg := Qir (x := n) (y := d) (by omega)
 have d1 : (Nat.gcd n.natAbs d.natAbs : Int) ∣ n := Int.ofNat_dvd_left.2 (Nat.gcd_dvd_left _ _)
 have d2 : (Nat.gcd n.natAbs d.natAbs : Int) ∣ d := Int.ofNat_dvd_left.2 (Nat.gcd_dvd_right _ _)
 unfold lowF
 rw [if_neg (by omega)]
 dsimp only
 have e1 := Int.tdiv_mul_cancel d1
 have e2 := Int.tdiv_mul_cancel d2
 refine ⟨?_, e1.symm, e2.symm, ?_⟩
 ·rcases Int.lt_trichotomy (d.tdiv (Nat.gcd n.natAbs d.natAbs : Int)) 0 with h | h | h
  ·have := Int.mul_neg_of_neg_of_pos h (show (0 : Int) < (Nat.gcd n.natAbs d.natAbs : Int) by omega); omega
  ·rw [h] at e2; omega
  ·exact h
 ·rw [Int.natAbs_tdiv, Int.natAbs_tdiv]
  simp only [Int.natAbs_natCast]
  exact Nat.gcd_div_gcd_div_gcd_of_pos_right (by omega)
end Go.Proofs.Ytgoohnencoipoaa.Vg
end

section
set_option linter.unusedVariables false
set_option linter.unusedSimpArgs false
namespace Go.Proofs.Ytgoohnencoipoaa.Vg
open Go Go.Proofs.Ytgoohnencoipoaa.Ev Go.Proofs.Ytgoohnencoipoaa.Vv
abbrev Qjk (g : Qe) : Prop := 1 <= g.Driver /\ g.Driver <= 500 /\ 1 <= g.Driven /\ g.Driven <= 500
theorem Qqr (k : Nat) (hk : 10 <= k) (a b : Int) : Wj k 1 500 [a, b] = some (decide (1 <= a /\ a <= 500 /\ 1 <= b /\ b <= 500)) := by
 obtain ⟨j, hj⟩ : ∃ j, k = j + 1 + 1 + 1 := ⟨k - 3, by omega⟩
 unfold Wj
 have go : Zj k 1 500 [a, b] (j + 1 + 1 + 1) 0 = some (if 1 <= a /\ a <= 500 /\ 1 <= b /\ b <= 500 then .inr () else .inl ()) := by
  rw [Zj.eq_2, if_pos (by simp), if_pos (by simp), show ([a, b] : List Int).getD (0 : Int).toNat 0 = a from rfl]
  by_cases h1 : a < 1
  ·rw [if_pos h1, if_neg (by omega)]
  ·rw [if_neg h1]
   by_cases h2 : 500 < a
   ·rw [if_pos h2, if_neg (by omega)]
   ·rw [if_neg h2, show w64 (0 + 1) = 1 from rfl, Zj.eq_2, if_pos (by simp), if_pos (by simp), show ([a, b] : List Int).getD (1 : Int).toNat 0 = b from rfl]
    by_cases h3 : b < 1
    ·rw [if_pos h3, if_neg (by omega)]
    ·rw [if_neg h3]
     by_cases h4 : 500 < b
     ·rw [if_pos h4, if_neg (by omega)]
     ·rw [if_neg h4, show w64 (1 + 1) = 2 from rfl, Zj.eq_2, if_neg (by simp), if_pos (by omega)]
 rw [<- hj] at go
 rw [go, Option.bind_some]
 by_cases h : 1 <= a /\ a <= 500 /\ 1 <= b /\ b <= 500
 ·rw [if_pos h, decide_eq_true h]
 ·rw [if_neg h, decide_eq_false h]
def sumB (b : Bool) : Sum Unit Unit := match b with | true => .inr () | false => .inl ()
def Qfq (g : Qe) : Bool := decide (1 <= g.Driver /\ g.Driver <= 500 /\ 1 <= g.Driven /\ g.Driven <= 500)
theorem Qp1 {α : Type} {y : List α} {i : Nat} (h : i < y.length) (d : α) : y.drop i = y.getD i d :: y.drop (i + 1) := by
 rw [List.drop_eq_getElem_cons h, List.getD_eq_getElem?_getD, List.getElem?_eq_getElem h]; rfl
theorem Qv8 (k : Nat) (hk : 10 <= k) (l : List Qe) (hl : l.length <= 1000) : ∀ (d fuel i : Nat), l.length = i + d -> d < fuel ->
 Zh k l fuel (i : Int) = some (sumB ((l.drop i).all Qfq)) := by
 intro d
 induction d with
 | zero =>
   intro fuel i h hf
   obtain ⟨g, rfl⟩ : ∃ g, fuel = g + 1 := ⟨fuel - 1, by omega⟩
   rw [Zh.eq_2, if_neg (by omega), List.drop_eq_nil_of_le (by omega)]; rfl
 | succ d ih =>
   intro fuel i h hf
   obtain ⟨g, rfl⟩ : ∃ g, fuel = g + 1 := ⟨fuel - 1, by omega⟩
   rw [Zh.eq_2, if_pos (by omega), if_pos (by omega), Int.toNat_natCast, Qqr k hk, Option.bind_some, J8 (by omega), ih g (i + 1) (by omega) (by omega), Qp1 (y := l) (i := i) (by omega) default, List.all_cons]
   show (if Qfq (l.getD i default) = true then _ else _) = _
   cases Qfq (l.getD i default) with
   | true => rw [if_pos rfl, Bool.true_and]
   | false => rw [if_neg (by simp), Bool.false_and]; rfl
theorem Quy (k : Nat) (n : Int) : X9 k n = some (decide (1 <= n /\ n <= 500)) := by
 unfold X9 Wu
 by_cases c1 : 1 <= n
 ·rw [if_pos c1, Option.bind_some]
  by_cases c2 : n <= 500
  ·rw [decide_eq_true c2, decide_eq_true ⟨c1, c2⟩]
  ·rw [decide_eq_false c2, decide_eq_false (fun h => c2 h.2)]
 ·rw [if_neg c1, Option.bind_some, decide_eq_false (fun h => c1 h.1)]
theorem Qv9 (k : Nat) (l : List Qe) (hl : l.length <= 1000) : ∀ (d fuel i : Nat), l.length = i + d -> d < fuel ->
 Ze k l fuel (i : Int) = some (sumB ((l.drop i).all Qfq)) := by
 intro d
 induction d with
 | zero =>
   intro fuel i h hf
   obtain ⟨g, rfl⟩ : ∃ g, fuel = g + 1 := ⟨fuel - 1, by omega⟩
   rw [Ze.eq_2, if_neg (by omega), List.drop_eq_nil_of_le (by omega)]; rfl
 | succ d ih =>
   intro fuel i h hf
   obtain ⟨g, rfl⟩ : ∃ g, fuel = g + 1 := ⟨fuel - 1, by omega⟩
   rw [Ze.eq_2, if_pos (by omega), if_pos (by omega), Int.toNat_natCast, Quy, Option.bind_some, J8 (by omega), ih g (i + 1) (by omega) (by omega), Qp1 (y := l) (i := i) (by omega) default, List.all_cons, Quy, Option.bind_some]
   generalize l.getD i default = x
   have e : Qfq x = (decide (1 <= x.Driver /\ x.Driver <= 500) && decide (1 <= x.Driven /\ x.Driven <= 500)) := by
    unfold Qfq; rw [<- Bool.decide_and]; congr 1; simp only [eq_iff_iff]; omega
   rw [e]
   cases decide (1 <= x.Driver /\ x.Driver <= 500) with
   | false => rw [if_neg (by simp), Bool.false_and, Bool.false_and]; rfl
   | true =>
     rw [if_pos rfl, Bool.true_and]
     cases decide (1 <= x.Driven /\ x.Driven <= 500) with
     | true => rw [if_pos rfl, Bool.true_and]
     | false => rw [if_neg (by simp), Bool.false_and]; rfl
def trE (l : List Qe) : Int := if 12 < l.length then 8 else match l.all Qfq with | true => 0 | false => 2
theorem Qfp (k : Nat) (hk : 1000 <= k) (l : List Qe) (hl : l.length <= 15) : Y3 k l = some (trE l) /\ Xc k l = some (trE l) := by
 have h1 := Qv8 k (by omega) l (by omega) l.length k 0 (by omega) (by omega)
 have h2 := Qv9 k l (by omega) l.length k 0 (by omega) (by omega)
 rw [List.drop_zero] at h1 h2
 unfold Y3 Xc trE
 by_cases c : 12 < l.length
 ·rw [if_pos c]; exact ⟨if_pos (by omega), if_pos (by omega)⟩
 ·rw [if_neg c, show Zh k l k 0 = _ from h1, show Ze k l k 0 = _ from h2]
  cases l.all Qfq
  ·exact ⟨if_neg (by omega), if_neg (by omega)⟩
  ·exact ⟨if_neg (by omega), if_neg (by omega)⟩
theorem Qde {l : List Qe} (h : trE l = 0) : l.length <= 12 /\ ∀ g ∈ l, Qjk g := by
 unfold trE at h
 split at h
 ·omega
 split at h
 ·rename_i h2; exact ⟨by omega, fun g hg => of_decide_eq_true (List.all_eq_true.1 h2 g hg)⟩
 ·omega
theorem gs (k : Nat) : ∀ (n fuel : Nat) (x y : Nat), y < n -> n <= fuel ->
 X3 k fuel (x : Int) (y : Int) = some (Nat.gcd x y : Int) := by
 intro n
 induction n with
 | zero => intro fuel x y h; omega
 | succ n ih =>
   intro fuel x y h hf
   obtain ⟨g, rfl⟩ : ∃ g, fuel = g + 1 := ⟨fuel - 1, by omega⟩
   rw [X3.eq_2]
   by_cases h0 : y = 0
   ·subst h0
    rw [if_pos (show ((0 : Nat) : Int) = 0 from rfl), Nat.gcd_zero_right]
   ·rw [if_neg (by omega), if_pos (by omega)]
    have e : ((x : Int).tmod (y : Int)) = ((x % y : Nat) : Int) := by
     rw [Int.tmod_eq_emod_of_nonneg (by omega)]; omega
    rw [e, ih g y (x % y) (by have := Nat.mod_lt x (show 0 < y by omega); omega) (by omega), Nat.gcd_comm x y, Nat.gcd_rec y x, Nat.gcd_comm]
theorem Qs3 (k : Nat) (x y : Int) (hx : 0 <= x) (hy : 0 <= y) (hk : y.natAbs < k) : Wh k x y = some (Nat.gcd x.natAbs y.natAbs : Int) := by
 have h := gs k (y.natAbs + 1) k x.natAbs y.natAbs (by omega) (by omega)
 unfold Wh
 rw [show ((x.natAbs : Nat) : Int) = x by omega, show ((y.natAbs : Nat) : Int) = y by omega] at h
 rw [h]; rfl
def ratF (g : Qe) : Qc := lowF g.Driver g.Driven
theorem Qqs (k : Nat) (hk : 18446744073709551617 <= k) (g : Qe) (h : Qjk g) : Qal k g = some (ratF g) := by
 unfold Qjk at h
 unfold Qal Qbb ratF
 have hg := Qir (x := g.Driver) (y := g.Driven) (by omega)
 have h1 := tdiv_le g.Driver (Nat.gcd g.Driver.natAbs g.Driven.natAbs : Int)
 have h2 := tdiv_le g.Driven (Nat.gcd g.Driver.natAbs g.Driven.natAbs : Int)
 rw [Qs3 k _ _ (by omega) (by omega) (by omega), Option.bind_some, if_pos (by omega), Wy (by omega) (by omega), Wy (by omega) (by omega)]
 unfold lowF
 rw [if_neg (by omega)]
 rfl
theorem Quz {g : Qe} (h : Qjk g) : Ok (ratF g) := by
 unfold Qjk at h
 obtain ⟨f1, f2, f3, f4⟩ := Qgo (n := g.Driver) (d := g.Driven) (by omega)
 have h1 := tdiv_le g.Driver (Nat.gcd g.Driver.natAbs g.Driven.natAbs : Int)
 have h2 := tdiv_le g.Driven (Nat.gcd g.Driver.natAbs g.Driven.natAbs : Int)
 unfold ratF
 refine ⟨by omega, ?_, ?_, f4⟩
 ·unfold lowF; rw [if_neg (by omega)]; dsimp only; omega
 ·unfold lowF; rw [if_neg (by omega)]; dsimp only; omega
def Qgn : Qc -> List Qe -> List Qc -> Option (List Qc)
 | _, [], y => some y
 | f, g :: gs, y => if (mulS f (ratF g)).2 = 0 then Qgn (mulS f (ratF g)).1 gs (y ++ [(mulS f (ratF g)).1]) else none
theorem Qwa (k : Nat) (hk : 18446744073709551617 <= k) (l : List Qe) (hl : l.length <= 12) (ht : ∀ g ∈ l, Qjk g) : ∀ (d fuel i : Nat) (y : List Qc), l.length = i + d -> d < fuel -> y.length = i + 1 -> (∀ f ∈ y, Ok f) ->
 Zm k l fuel y (i : Int) = some (match Qgn (y.getD i default) (l.drop i) y with | some z => .inr z | none => .inl 8) /\
 ∀ z, Qgn (y.getD i default) (l.drop i) y = some z -> z.length = l.length + 1 /\ ∀ f ∈ z, Ok f := by
 intro d
 induction d with
 | zero =>
   intro fuel i y h hf hy hok
   obtain ⟨g, rfl⟩ : ∃ g, fuel = g + 1 := ⟨fuel - 1, by omega⟩
   rw [Zm.eq_2, if_neg (by omega), List.drop_eq_nil_of_le (by omega)]
   refine ⟨rfl, fun z hz => ?_⟩
   injection hz with hz; subst hz
   exact ⟨by omega, hok⟩
 | succ d ih =>
   intro fuel i y h hf hy hok
   obtain ⟨g, rfl⟩ : ∃ g, fuel = g + 1 := ⟨fuel - 1, by omega⟩
   have hi : i < l.length := by omega
   have hd : l.drop i = l.getD i default :: l.drop (i + 1) := by
    rw [List.drop_eq_getElem_cons hi, List.getD_eq_getElem?_getD, List.getElem?_eq_getElem hi]; rfl
   have hm : l.getD i default ∈ l := by rw [List.getD_eq_getElem?_getD, List.getElem?_eq_getElem hi]; exact List.getElem_mem hi
   have hyi : y.getD i default ∈ y := by rw [List.getD_eq_getElem?_getD, List.getElem?_eq_getElem (show i < y.length by omega)]; exact List.getElem_mem _
   have ht1 := ht _ hm
   have r1 := Qqs k hk _ ht1
   have m1 := Qol k hk _ _ (hok _ hyi) (Quz ht1)
   rw [Zm.eq_2, if_pos (by omega), if_pos (by omega), if_pos (by omega), Int.toNat_natCast, r1, Option.bind_some, m1, Option.bind_some, hd]
   simp only [Qgn]
   by_cases h0 : (mulS (y.getD i default) (ratF (l.getD i default))).2 = 0
   ·rw [if_pos h0, if_pos h0, if_pos (by simp only [List.length_cons, List.length_nil]; omega), J8 (by omega)]
    have := ih g (i + 1) (y ++ [(mulS (y.getD i default) (ratF (l.getD i default))).1]) (by omega) (by omega) (by simp; omega) (fun f hf => by
     rcases List.mem_append.1 hf with hf | hf
     ·exact hok f hf
     ·rw [List.mem_singleton.1 hf]; exact (Qry h0).1)
    rw [show (y ++ [(mulS (y.getD i default) (ratF (l.getD i default))).1]).getD (i + 1) default = (mulS (y.getD i default) (ratF (l.getD i default))).1 by
     rw [<- hy, List.getD_eq_getElem?_getD, List.getElem?_append_right (Nat.le_refl _)]; simp] at this
    exact this
   ·rw [if_neg h0, if_neg h0]
    rcases Qtq ((y.getD i default).Num * (ratF (l.getD i default)).Num) ((y.getD i default).Den * (ratF (l.getD i default)).Den) with e | e
    ·exact absurd e h0
    ·exact ⟨by rw [show (mulS (y.getD i default) (ratF (l.getD i default))).2 = 8 from e], fun z hz => by cases hz⟩
def begs (l : List Qe) : Option (List Qc) := Qgn ⟨1, 1⟩ l [⟨1, 1⟩]
theorem Qui : Ok ⟨1, 1⟩ := ⟨by simp, by simp, by simp, by simp⟩
theorem Qkf (k : Nat) (hk : 18446744073709551617 <= k) (l : List Qe) (h : trE l = 0) :
 Qab k l = some (match begs l with | some z => (z, 0) | none => ([], 8)) /\ ∀ z, begs l = some z -> z.length = l.length + 1 /\ ∀ f ∈ z, Ok f := by
 obtain ⟨hl, ht⟩ := Qde h
 obtain ⟨h1, h3⟩ := Qwa k hk l hl ht l.length k 0 [⟨1, 1⟩] (by omega) (by omega) rfl (fun f hf => by rw [List.mem_singleton.1 hf]; exact Qui)
 rw [List.drop_zero, show ([⟨1, 1⟩] : List Qc).getD 0 default = ⟨1, 1⟩ from rfl] at h1 h3
 unfold Qab Qdg begs
 rw [Option.bind_some, show Zm k l k [⟨1, 1⟩] 0 = _ from h1, Option.bind_some]
 refine ⟨?_, h3⟩
 cases Qgn ⟨1, 1⟩ l [⟨1, 1⟩] <;> rfl
def turn : Int -> List Qc -> Option Int
 | n, [] => some n
 | n, f :: fs => if 1000000000 < n * f.Den / (Nat.gcd n.natAbs f.Den.natAbs : Int) then none else turn (n * f.Den / (Nat.gcd n.natAbs f.Den.natAbs : Int)) fs
theorem Qs4 {n d : Int} (hn : 1 <= n) (hd : 1 <= d) : n * d.tdiv (Nat.gcd n.natAbs d.natAbs : Int) = n * d / (Nat.gcd n.natAbs d.natAbs : Int) /\ n.tdiv (Nat.gcd n.natAbs d.natAbs : Int) * d = n * d / (Nat.gcd n.natAbs d.natAbs : Int) /\ n ∣ n * d / (Nat.gcd n.natAbs d.natAbs : Int) /\ d ∣ n * d / (Nat.gcd n.natAbs d.natAbs : Int) /\ 1 <= n * d / (Nat.gcd n.natAbs d.natAbs : Int) := by
 have hg := Qir (x := n) (y := d) (by omega)
 obtain ⟨a, ha⟩ : (Nat.gcd n.natAbs d.natAbs : Int) ∣ n := Int.ofNat_dvd_left.2 (Nat.gcd_dvd_left _ _)
 obtain ⟨b, hb⟩ : (Nat.gcd n.natAbs d.natAbs : Int) ∣ d := Int.ofNat_dvd_left.2 (Nat.gcd_dvd_right _ _)
 have hg0 : (0 : Int) < (Nat.gcd n.natAbs d.natAbs : Int) := by omega
 clear hg
 generalize (Nat.gcd n.natAbs d.natAbs : Int) = g at *
 have e1 : d.tdiv g = b := by rw [hb]; exact Int.mul_tdiv_cancel_left _ (by omega)
 have e2 : n.tdiv g = a := by rw [ha]; exact Int.mul_tdiv_cancel_left _ (by omega)
 have e3 : n * d / g = n * b := by
  rw [hb, show n * (g * b) = g * (n * b) by grind]; exact Int.mul_ediv_cancel_left _ (by omega)
 have hb1 : 1 <= b := by
  rcases Int.lt_or_le 0 b with h | h
  ·omega
  ·have := Int.mul_nonpos_of_nonneg_of_nonpos (show (0 : Int) <= g by omega) h; omega
 refine ⟨by rw [e1, e3], by rw [e2, e3, hb]; rw [ha]; grind, by rw [e3]; exact Int.dvd_mul_right _ _, ?_, ?_⟩
 ·rw [e3, ha, hb]; exact ⟨a, by grind⟩
 ·rw [e3]; have := Int.mul_le_mul hn hb1 (by omega) (by omega); omega
theorem Qwd (k : Nat) (hk : 18446744073709551617 <= k) (y : List Qc) (e : Int) (hl : y.length <= 1000) (hok : ∀ f ∈ y, Ok f) : ∀ (d fuel i : Nat) (n : Int), y.length = i + d -> d < fuel -> 1 <= n -> n <= 1000000000 ->
 Zp k (y, e) fuel (i : Int) n = some (match turn n (y.drop i) with | some m => .inr m | none => .inl ()) /\
 ∀ m, turn n (y.drop i) = some m -> n ∣ m /\ 1 <= m := by
 intro d
 induction d with
 | zero =>
   intro fuel i n h hf h1 h2
   obtain ⟨g, rfl⟩ : ∃ g, fuel = g + 1 := ⟨fuel - 1, by omega⟩
   rw [Zp.eq_2]
   dsimp only
   rw [if_neg (by omega), List.drop_eq_nil_of_le (by omega)]
   refine ⟨rfl, fun m hm => ?_⟩
   injection hm with hm; subst hm
   exact ⟨Int.dvd_refl _, h1⟩
 | succ d ih =>
   intro fuel i n h hf h1 h2
   obtain ⟨g, rfl⟩ : ∃ g, fuel = g + 1 := ⟨fuel - 1, by omega⟩
   have hi : i < y.length := by omega
   have hd : y.drop i = y.getD i default :: y.drop (i + 1) := by
    rw [List.drop_eq_getElem_cons hi, List.getD_eq_getElem?_getD, List.getElem?_eq_getElem hi]; rfl
   have hyi : y.getD i default ∈ y := by rw [List.getD_eq_getElem?_getD, List.getElem?_eq_getElem hi]; exact List.getElem_mem _
   have ok := hok _ hyi
   rw [Zp.eq_2, hd]
   dsimp only
   rw [if_pos (by omega), if_pos (by omega), Int.toNat_natCast]
   generalize y.getD i default = f at *
   have k1 := ok.den
   have k2 := ok.denB
   have hg := Qir (x := n) (y := f.Den) (by omega)
   obtain ⟨t1, t2, t3, t4, t5⟩ := Qs4 h1 k1
   have l1 := tdiv_le f.Den (Nat.gcd n.natAbs f.Den.natAbs : Int)
   have l2 := tdiv_le n (Nat.gcd n.natAbs f.Den.natAbs : Int)
   have hB : n * f.Den / (Nat.gcd n.natAbs f.Den.natAbs : Int) <= 1000000000000000000 := by
    rw [<- t1]
    have := Qnv (a := n) (b := f.Den.tdiv (Nat.gcd n.natAbs f.Den.natAbs : Int)) (by omega) (by omega)
    omega
   rw [Qs3 k n f.Den (by omega) (by omega) (by omega), Option.bind_some,
    Wy (n := f.Den.tdiv (Nat.gcd n.natAbs f.Den.natAbs : Int)) (by omega) (by omega), t1, Wy (n := n * f.Den / (Nat.gcd n.natAbs f.Den.natAbs : Int)) (by omega) (by omega),
    if_pos (show (Nat.gcd n.natAbs f.Den.natAbs : Int) ≠ 0 by omega)]
   simp only [turn]
   by_cases c : 1000000000 < n * f.Den / (Nat.gcd n.natAbs f.Den.natAbs : Int)
   ·rw [if_pos c, if_pos c]; exact ⟨rfl, fun m hm => by cases hm⟩
   ·rw [if_neg c, if_neg c, J8 (by omega)]
    obtain ⟨i1, i3⟩ := ih g (i + 1) _ (by omega) (by omega) t5 (by omega)
    refine ⟨i1, fun m hm => ?_⟩
    obtain ⟨j1, j2⟩ := i3 m hm
    exact ⟨Int.dvd_trans t3 j1, j2⟩
theorem Qom : ∀ (a b : List Qc) (n : Int), turn n (a ++ b) = (match turn n a with | some m => turn m b | none => none)
 | [], b, n => rfl
 | f :: a, b, n => by
   show turn n (f :: (a ++ b)) = _
   simp only [turn]
   split
   ·rfl
   ·exact Qom a b _
theorem Qkh : ∀ (l : List Qc) (n m : Int), 1 <= n -> (∀ f ∈ l, Ok f) -> turn n l = some m -> n ∣ m /\ 1 <= m
 | [], n, m, h1, _, h => by injection h with h; subst h; exact ⟨Int.dvd_refl _, h1⟩
 | f :: l, n, m, h1, ho, h => by
   simp only [turn] at h
   split at h
   ·cases h
   ·obtain ⟨t1, t2, t3, t4, t5⟩ := Qs4 h1 (ho f (List.mem_cons_self ..)).den
    obtain ⟨a1, a2⟩ := Qkh l _ m t5 (fun g hg => ho g (List.mem_cons_of_mem _ hg)) h
    exact ⟨Int.dvd_trans t3 a1, a2⟩
theorem Qlx : ∀ (a b : List Qe) (f : Qc) (y z : List Qc), y.getD (y.length - 1) default = f -> y.length ≠ 0 -> Qgn f (a ++ b) y = some z -> ∃ za t, Qgn f a y = some za /\ z = za ++ t /\ za.length = y.length + a.length
 | [], b, f, y, z, hl, hy, h => by
   have : ∀ (b : List Qe) (f : Qc) (y z : List Qc), Qgn f b y = some z -> ∃ t, z = y ++ t := by
    intro b
    induction b with
    | nil => intro f y z h; injection h with h; exact ⟨[], by rw [<- h, List.append_nil]⟩
    | cons g gs ih =>
      intro f y z h
      simp only [Qgn] at h
      split at h
      ·obtain ⟨t, ht⟩ := ih _ _ _ h
       exact ⟨(mulS f (ratF g)).1 :: t, by rw [ht, List.append_assoc]; rfl⟩
      ·cases h
   obtain ⟨t, ht⟩ := this b f y z h
   exact ⟨y, t, rfl, ht, rfl⟩
 | g :: a, b, f, y, z, hl, hy, h => by
   simp only [List.cons_append, Qgn] at h
   split at h
   ·rename_i h0
    obtain ⟨za, t, h1, h2, h3⟩ := Qlx a b _ _ _ (by simp [List.getD_eq_getElem?_getD]) (by simp) h
    refine ⟨za, t, ?_, h2, ?_⟩
    ·simp only [Qgn]; rw [if_pos h0]; exact h1
    ·rw [h3]; simp; omega
   ·cases h
def drs : List Qe -> Int
 | [] => 1
 | g :: l => g.Driver * drs l
def dns : List Qe -> Int
 | [] => 1
 | g :: l => g.Driven * dns l
theorem Qq4 : ∀ a b, drs (a ++ b) = drs a * drs b
 | [], b => by show drs b = 1 * drs b; omega
 | g :: a, b => by show g.Driver * drs (a ++ b) = g.Driver * drs a * drs b; rw [Qq4 a b, Int.mul_assoc]
theorem Qq5 : ∀ a b, dns (a ++ b) = dns a * dns b
 | [], b => by show dns b = 1 * dns b; omega
 | g :: a, b => by show g.Driven * dns (a ++ b) = g.Driven * dns a * dns b; rw [Qq5 a b, Int.mul_assoc]
theorem Qng : ∀ l : List Qe, (∀ g ∈ l, Qjk g) -> 0 < dns l
 | [], _ => by show (0 : Int) < 1; decide
 | g :: l, h => Int.mul_pos (by have := h g (List.mem_cons_self ..); unfold Qjk at this; omega) (Qng l (fun x hx => h x (List.mem_cons_of_mem _ hx)))
theorem Qh3 {n d : Int} (hd : 0 < d) : (lowF n d).Num * d = n * (lowF n d).Den := by
 obtain ⟨h1, h2, h3, h4⟩ := Qgo (n := n) hd
 generalize (Nat.gcd n.natAbs d.natAbs : Int) = g at h2 h3
 generalize (lowF n d).Num = u at *
 generalize (lowF n d).Den = v at *
 rw [h2, h3]; grind
theorem Qlw : ∀ (l : List Qe) (f : Qc) (y z : List Qc), (∀ g ∈ l, Qjk g) -> Ok f -> y.getD (y.length - 1) default = f -> y.length ≠ 0 -> Qgn f l y = some z ->
 z.length = y.length + l.length /\ Ok (z.getD (z.length - 1) default) /\ (z.getD (z.length - 1) default).Num * (f.Den * dns l) = (f.Num * drs l) * (z.getD (z.length - 1) default).Den
 | [], f, y, z, ht, hf, hl, hy, h => by
   injection h with h; subst h
   rw [hl]
   exact ⟨rfl, hf, by show f.Num * (f.Den * 1) = f.Num * 1 * f.Den; grind⟩
 | g :: l, f, y, z, ht, hf, hl, hy, h => by
   simp only [Qgn] at h
   split at h
   ·rename_i h0
    have tg := ht g (List.mem_cons_self ..)
    obtain ⟨o1, o2⟩ : Ok (mulS f (ratF g)).1 /\ (mulS f (ratF g)).1 = lowF (f.Num * (ratF g).Num) (f.Den * (ratF g).Den) := Qry h0
    have og := Quz tg
    obtain ⟨h1, h2, h3⟩ := Qlw l _ _ _ (fun x hx => ht x (List.mem_cons_of_mem _ hx)) o1 (by simp [List.getD_eq_getElem?_getD]) (by simp) h
    refine ⟨by rw [h1]; simp; omega, h2, ?_⟩
    have hp : 0 < f.Den * (ratF g).Den := Int.mul_pos (by have := hf.den; omega) (by have := og.den; omega)
    have e1 : (mulS f (ratF g)).1.Num * (f.Den * (ratF g).Den) = f.Num * (ratF g).Num * (mulS f (ratF g)).1.Den := by
     rw [o2]; exact Qh3 hp
    have e2 : (ratF g).Num * g.Driven = g.Driver * (ratF g).Den := Qh3 (by unfold Qjk at tg; omega)
    have q1 : (mulS f (ratF g)).1.Den ≠ 0 := by have := o1.den; omega
    have q2 : (ratF g).Den ≠ 0 := by have := og.den; omega
    show (z.getD (z.length - 1) default).Num * (f.Den * (g.Driven * dns l)) = (f.Num * (g.Driver * drs l)) * (z.getD (z.length - 1) default).Den
    generalize (z.getD (z.length - 1) default).Num = zn at *
    generalize (z.getD (z.length - 1) default).Den = zd at *
    generalize (mulS f (ratF g)).1.Num = mn at *
    generalize (mulS f (ratF g)).1.Den = md at *
    generalize (ratF g).Num = rn at *
    generalize (ratF g).Den = rd at *
    generalize drs l = A at *
    generalize dns l = B at *
    refine Int.eq_of_mul_eq_mul_right (Int.mul_ne_zero q1 q2) ?_
    have z1 : zn * (f.Den * (g.Driven * B)) * (md * rd) = (zn * (md * B)) * (f.Den * rd) * g.Driven := by grind
    have z2 : (f.Num * (g.Driver * A)) * zd * (md * rd) = (f.Num * rn * md) * g.Driven * A * zd := by
     have : (f.Num * (g.Driver * A)) * zd * (md * rd) = f.Num * md * A * zd * (g.Driver * rd) := by grind
     rw [this, <- e2]; grind
    rw [z1, z2, h3, <- e1]; grind
   ·cases h
theorem Qtd {a b c d : Int} (hb : 0 < b) (hd : 0 < d) (h1 : Nat.gcd a.natAbs b.natAbs = 1) (h2 : Nat.gcd c.natAbs d.natAbs = 1) (h : a * d = c * b) : a = c /\ b = d := by
 have e : a.natAbs * d.natAbs = c.natAbs * b.natAbs := by rw [<- Int.natAbs_mul, <- Int.natAbs_mul, h]
 have d1 : b.natAbs ∣ d.natAbs := by
  have : b.natAbs ∣ a.natAbs * d.natAbs := ⟨c.natAbs, by rw [e, Nat.mul_comm]⟩
  exact (Nat.Coprime.symm h1).dvd_of_dvd_mul_left this
 have d2 : d.natAbs ∣ b.natAbs := by
  have : d.natAbs ∣ c.natAbs * b.natAbs := ⟨a.natAbs, by rw [<- e, Nat.mul_comm]⟩
  exact (Nat.Coprime.symm h2).dvd_of_dvd_mul_left this
 have e2 : b = d := by have := Nat.dvd_antisymm d1 d2; omega
 subst e2
 exact ⟨Int.eq_of_mul_eq_mul_right (by omega) h, rfl⟩
end Go.Proofs.Ytgoohnencoipoaa.Vg
end

section
set_option linter.unusedVariables false
set_option linter.unusedSimpArgs false
namespace Go.Proofs.Ytgoohnencoipoaa.Vg
open Go Go.Proofs.Ytgoohnencoipoaa.Ev Go.Proofs.Ytgoohnencoipoaa.Vv
structure Cv (y : List Qc) : Prop where
 bd : ∀ i, i < y.length -> 0 <= (y.getD i default).Num /\ (y.getD i default).Num <= 1000000000 /\ 0 <= (y.getD i default).Den /\ (y.getD i default).Den <= 1000000000
 one : ∀ i, i + 1 < y.length -> (y.getD (i + 1) default).Num * (y.getD i default).Den - (y.getD i default).Num * (y.getD (i + 1) default).Den = 1 \/ (y.getD (i + 1) default).Num * (y.getD i default).Den - (y.getD i default).Num * (y.getD (i + 1) default).Den = -1
structure St7 (F : Qc) (y : List Qc) (p0 q0 p1 q1 a b : Int) : Prop where
 cv : Cv y
 last : y.length ≠ 0 -> y.getD (y.length - 1) default = ⟨p1, q1⟩
 fp0 : 0 <= p0
 fq0 : 0 <= q0
 fp1 : 0 <= p1
 fq1 : 0 <= q1
 fa : 0 <= a
 fb : 0 <= b
 aB : a <= 1000000000
 g : Nat.gcd a.natAbs b.natAbs = 1
 num : p1 * a + p0 * b = F.Num
 den : q1 * a + q0 * b = F.Den
 det : p1 * q0 - p0 * q1 = 1 \/ p1 * q0 - p0 * q1 = -1
 room : (y.length : Int) + b <= 1000000000
 some : y.length = 0 -> 0 < b
theorem Qfo {y : List Qc} {x : Qc} {i : Nat} (h : i < y.length) : (y ++ [x]).getD i default = y.getD i default := by
 rw [List.getD_eq_getElem?_getD, List.getD_eq_getElem?_getD, List.getElem?_append_left h]
theorem Qeg {y : List Qc} {x : Qc} : (y ++ [x]).getD y.length default = x := by
 rw [List.getD_eq_getElem?_getD, List.getElem?_append_right (Nat.le_refl _)]; simp
theorem Quh {a b c : Int} (ha : 0 <= a) (hb : 1 <= b) (h : a * b <= c) : a <= c := by
 have : a * 1 <= a * b := Int.mul_le_mul_of_nonneg_left hb ha
 omega
theorem Qxo {F : Qc} (hF : F.Num <= 1000000000 /\ F.Den <= 1000000000) {y : List Qc} {p0 q0 p1 q1 a b : Int} (s : St7 F y p0 q0 p1 q1 a b) (hb : 0 < b) :
 ∃ p q, w64 ((w64 ((w64 (a.tdiv b)) * p1)) + p0) = p /\ w64 ((w64 ((w64 (a.tdiv b)) * q1)) + q0) = q /\ St7 F (y ++ [⟨p, q⟩]) p1 q1 p q b (a.tmod b) /\ 0 <= a.tmod b /\ a.tmod b < b /\ p = a / b * p1 + p0 /\ q = a / b * q1 + q0 := by
 have ha := s.fa
 have e1 : a.tdiv b = a / b := Int.tdiv_eq_ediv_of_nonneg ha
 have e2 : a.tmod b = a % b := Int.tmod_eq_emod_of_nonneg ha
 have m1 := Int.emod_nonneg a (show b ≠ 0 by omega)
 have m2 := Int.emod_lt_of_pos a hb
 have m3 := Int.mul_ediv_add_emod a b
 generalize hw : a / b = w at *
 generalize hr : a % b = r at *
 have hw0 : 0 <= w := by rw [<- hw]; exact Int.ediv_nonneg ha (by omega)
 have hwB : w <= 1000000000 := by
  have : w * b <= 1000000000 := by have := s.aB; rw [Int.mul_comm]; omega
  exact Quh hw0 (by omega) this
 have key : ∀ {x1 x0 X : Int}, 0 <= x1 -> 0 <= x0 -> X <= 1000000000 -> x1 * a + x0 * b = X -> (w * x1 + x0) * b + x1 * r = X /\ 0 <= w * x1 /\ w * x1 + x0 <= 1000000000 := by
  intro x1 x0 X h1 h0 hX h
  have k1 : (w * x1 + x0) * b + x1 * r = X := by rw [<- h, <- m3]; grind
  have k2 : 0 <= w * x1 := Int.mul_nonneg hw0 h1
  have k3 : 0 <= x1 * r := Int.mul_nonneg h1 m1
  exact ⟨k1, k2, Quh (b := b) (by omega) (by omega) (by omega)⟩
 obtain ⟨n1, n2, n3⟩ := key s.fp1 s.fp0 hF.1 s.num
 obtain ⟨d1, d2, d3⟩ := key s.fq1 s.fq0 hF.2 s.den
 have hp0' := s.fp0
 have hq0' := s.fq0
 have ew : w64 (a.tdiv b) = w := by rw [e1]; exact Wy (by omega) (by omega)
 refine ⟨w * p1 + p0, w * q1 + q0, ?_, ?_, ?_, by rw [e2]; exact m1, by rw [e2]; exact m2, rfl, rfl⟩
 ·rw [ew, Wy (n := w * p1) (by omega) (by omega), Wy (by omega) (by omega)]
 ·rw [ew, Wy (n := w * q1) (by omega) (by omega), Wy (by omega) (by omega)]
 ·rw [e2]
  have hl : (y ++ [(⟨w * p1 + p0, w * q1 + q0⟩ : Qc)]).length = y.length + 1 := by simp
  have hdet : (w * p1 + p0) * q1 - p1 * (w * q1 + q0) = -(p1 * q0 - p0 * q1) := by grind
  refine ⟨⟨?_, ?_⟩, ?_, s.fp1, s.fq1, by omega, by omega, by omega, m1, ?_, ?_, n1, d1, ?_, ?_, ?_⟩
  ·intro i hi
   by_cases h : i < y.length
   ·rw [Qfo h]; exact s.cv.bd i h
   ·obtain rfl : i = y.length := by omega
    rw [Qeg]
    exact ⟨by show 0 <= w * p1 + p0; omega, n3, by show 0 <= w * q1 + q0; omega, d3⟩
  ·intro i hi
   rw [hl] at hi
   rw [Qfo (show i < y.length by omega)]
   by_cases h : i + 1 < y.length
   ·rw [Qfo h]; exact s.cv.one i h
   ·have hi' : i + 1 = y.length := by omega
    rw [hi', Qeg, show i = y.length - 1 by omega, s.last (by omega)]
    show (w * p1 + p0) * q1 - p1 * (w * q1 + q0) = 1 \/ (w * p1 + p0) * q1 - p1 * (w * q1 + q0) = -1
    rcases s.det with h | h <;> omega
  ·intro _
   rw [hl, Nat.add_sub_cancel, Qeg]
  ·have := s.room; omega
  ·have := s.g
   rw [<- Qok, e2] at this
   exact this
  ·rcases s.det with h | h <;> omega
  ·rw [hl]; have := s.room; omega
  ·intro h; rw [hl] at h; omega
theorem Qta {N D P Q P0 Q0 A B u v : Int} (num : P * A + P0 * B = N) (den : Q * A + Q0 * B = D) (det : P * Q0 - P0 * Q = 1 \/ P * Q0 - P0 * Q = -1) (hQ0 : 1 <= Q0) (hB : 0 <= B) (hBA : B < A) (hv : 1 <= v) (hvQ : v <= Q) :
 B <= ((u * D - N * v).natAbs : Int) /\ ((P * D - N * Q).natAbs : Int) = B := by
 have e : u * D - N * v = A * (u * Q - v * P) + B * (u * Q0 - v * P0) := by rw [<- num, <- den]; grind
 have e2 : P * D - N * Q = B * (P * Q0 - P0 * Q) := by rw [<- num, <- den]; grind
 have f : (u * Q - v * P) * Q0 - (u * Q0 - v * P0) * Q = -(v * (P * Q0 - P0 * Q)) := by grind
 have f2 : -(v * (P * Q0 - P0 * Q)) = v \/ -(v * (P * Q0 - P0 * Q)) = -v := by rcases det with h | h <;> rw [h] <;> omega
 refine ⟨?_, ?_⟩
 ·rw [e]
  rw [<- f] at f2
  generalize u * Q - v * P = X at *
  generalize u * Q0 - v * P0 = Y at *
  have hQ : 1 <= Q := by omega
  rcases Int.lt_trichotomy X 0 with c | c | c
  ·have a1 : A * X <= A * (-1) := Int.mul_le_mul_of_nonneg_left (by omega) (by omega)
   have a2 : X * Q0 <= (-1) * Q0 := Int.mul_le_mul_of_nonneg_right (by omega) (by omega)
   rcases Int.lt_or_le 0 Y with d | d
   ·have a3 : 1 * Q <= Y * Q := Int.mul_le_mul_of_nonneg_right (by omega) (by omega)
    omega
   ·have a4 : B * Y <= B * 0 := Int.mul_le_mul_of_nonneg_left d hB
    omega
  ·subst c
   rcases Int.lt_trichotomy Y 0 with d | d | d
   ·have a4 : B * Y <= B * (-1) := Int.mul_le_mul_of_nonneg_left (by omega) hB
    omega
   ·subst d; omega
   ·have a4 : B * 1 <= B * Y := Int.mul_le_mul_of_nonneg_left (by omega) hB
    omega
  ·have a1 : A * 1 <= A * X := Int.mul_le_mul_of_nonneg_left (by omega) (by omega)
   have a2 : 1 * Q0 <= X * Q0 := Int.mul_le_mul_of_nonneg_right (by omega) (by omega)
   rcases Int.lt_or_le Y 0 with d | d
   ·have a3 : Y * Q <= (-1) * Q := Int.mul_le_mul_of_nonneg_right (by omega) (by omega)
    omega
   ·have a4 : B * 0 <= B * Y := Int.mul_le_mul_of_nonneg_left d hB
    omega
 ·rw [e2]
  rcases det with h | h <;> rw [h] <;> omega
theorem Qu9 {p q p0 q0 : Int} (h : p * q0 - p0 * q = 1 \/ p * q0 - p0 * q = -1) : Nat.gcd p.natAbs q.natAbs = 1 := by
 have d1 : (Nat.gcd p.natAbs q.natAbs : Int) ∣ p := Int.ofNat_dvd_left.2 (Nat.gcd_dvd_left _ _)
 have d2 : (Nat.gcd p.natAbs q.natAbs : Int) ∣ q := Int.ofNat_dvd_left.2 (Nat.gcd_dvd_right _ _)
 have d3 : (Nat.gcd p.natAbs q.natAbs : Int) ∣ p * q0 - p0 * q := Int.dvd_sub (Int.dvd_mul_of_dvd_left d1) (Int.dvd_mul_of_dvd_right d2)
 have d4 : Nat.gcd p.natAbs q.natAbs ∣ (p * q0 - p0 * q).natAbs := Int.ofNat_dvd_left.1 d3
 have : (p * q0 - p0 * q).natAbs = 1 := by rcases h with h | h <;> rw [h] <;> rfl
 rw [this] at d4
 exact Nat.dvd_one.1 d4
structure Good (F c : Qc) : Prop where
 ok : Ok c
 num : 1 <= c.Num
 best : ∀ u v : Int, 1 <= v -> v <= c.Den -> ((c.Num * F.Den - F.Num * c.Den).natAbs : Int) * v <= ((u * F.Den - F.Num * v).natAbs : Int) * c.Den
theorem Qq3 {F : Qc} {p q p0 q0 A B : Int} (num : p * A + p0 * B = F.Num) (den : q * A + q0 * B = F.Den) (det : p * q0 - p0 * q = 1 \/ p * q0 - p0 * q = -1) (h0 : 1 <= q0) (hB : 0 <= B) (hBA : B < A) (hp : 1 <= p) (hq : 1 <= q) (bp : p <= 1000000000) (bq : q <= 1000000000) : Good F ⟨p, q⟩ := by
 refine ⟨⟨hq, bq, by show p.natAbs <= 1000000000; omega, Qu9 det⟩, hp, fun u v hv hvq => ?_⟩
 obtain ⟨b1, b2⟩ := Qta (u := u) num den det h0 hB hBA hv hvq
 show ((p * F.Den - F.Num * q).natAbs : Int) * v <= ((u * F.Den - F.Num * v).natAbs : Int) * q
 rw [b2]
 have c1 := Int.mul_le_mul_of_nonneg_right b1 (show 0 <= v by omega)
 have c2 := Int.mul_le_mul_of_nonneg_left hvq (show (0 : Int) <= ((u * F.Den - F.Num * v).natAbs : Int) by omega)
 exact Int.le_trans c1 c2
theorem Qxp (k : Nat) {F : Qc} (hF : F.Num <= 1000000000 /\ F.Den <= 1000000000) : ∀ (n fuel : Nat) (y : List Qc) (p0 q0 p1 q1 a b : Int), b.natAbs < n -> n <= fuel -> St7 F y p0 q0 p1 q1 a b ->
 ((y.length = 0 /\ p0 = 0 /\ q0 = 1 /\ p1 = 1 /\ q1 = 0) \/ (y.length ≠ 0 /\ 1 <= q1 /\ 1 <= p1 + p0 /\ b < a)) -> (∀ i, 1 <= i -> i < y.length -> Good F (y.getD i default)) ->
 ∃ z u v s t, Z8 k F fuel y p0 q0 p1 q1 a b = some (u, v, s, t, z) /\ z.length <= 1000000000 /\ ∀ i, 1 <= i -> i < z.length -> Good F (z.getD i default) := by
 intro n
 induction n with
 | zero => intro fuel y p0 q0 p1 q1 a b h; omega
 | succ n ih =>
   intro fuel y p0 q0 p1 q1 a b h hf s hy hg
   obtain ⟨g, rfl⟩ : ∃ g, fuel = g + 1 := ⟨fuel - 1, by omega⟩
   rw [Z8.eq_2]
   have hb := s.fb
   by_cases h0 : b = 0
   ·rw [if_pos h0]
    exact ⟨y, _, _, _, _, rfl, by have := s.room; omega, hg⟩
   ·obtain ⟨p, q, f1, f2, f3, f4, f5, f6, f7⟩ := Qxo hF s (by omega)
    have hroom := s.room
    have hp0 := s.fp0
    have hq0 := s.fq0
    have hp1 := s.fp1
    have hq1 := s.fq1
    have ha := s.fa
    have hl : (y ++ [(⟨p, q⟩ : Qc)]).length = y.length + 1 := by simp
    rw [if_neg h0, if_pos h0, f1, f2, if_pos (by simp only [List.length_cons, List.length_nil]; omega)]
    have hw0 : 0 <= a / b := Int.ediv_nonneg ha (by omega)
    have key : 1 <= q /\ 1 <= p + p1 /\ (y.length ≠ 0 -> 1 <= p) := by
     rcases hy with ⟨c0, c1, c2, c3, c4⟩ | ⟨c0, c1, c2, c3⟩
     ·subst c1; subst c2; subst c3; subst c4
      refine ⟨by omega, by omega, fun h => absurd c0 h⟩
     ·have w1 : 1 <= a / b := (Int.le_ediv_iff_mul_le (by omega)).2 (by omega)
      have m1 := Int.mul_le_mul_of_nonneg_right w1 hp1
      have m2 := Int.mul_le_mul_of_nonneg_right w1 hq1
      refine ⟨by omega, by omega, fun _ => by omega⟩
    refine ih g _ _ _ _ _ _ _ (by omega) (by omega) f3 (.inr ⟨by rw [hl]; omega, key.1, key.2.1, f5⟩) (fun i hi hi2 => ?_)
    rw [hl] at hi2
    by_cases hiy : i < y.length
    ·rw [Qfo hiy]; exact hg i hi hiy
    ·obtain rfl : i = y.length := by omega
     rw [Qeg]
     have bd := f3.cv.bd y.length (by rw [hl]; omega)
     rw [Qeg] at bd
     rcases hy with ⟨c0, _⟩ | ⟨c0, c1, c2, c3⟩
     ·omega
     ·exact Qq3 f3.num f3.den f3.det c1 f4 f5 (key.2.2 c0) key.1 bd.2.1 bd.2.2.2
theorem Qe1 (k : Nat) (hk : 18446744073709551617 <= k) (f : Qc) (h1 : In64 f.Num) (h2 : In64 f.Den) (c0 : cf f = 0) (c1 : ¬ f.Num < 0) : ∃ z, Qu k f = some (z, 0) /\ z.length <= 1000000000 /\ ∀ i, 1 <= i -> i < z.length -> Good f (z.getD i default) := by
 unfold Qu
 rw [Qke k hk f h1 h2, Option.bind_some, if_pos c0, if_neg c1]
 have o := Qlv c0
 have o1 := o.den
 have o2 := o.denB
 have o3 := o.num
 have st : St7 f [] 0 1 1 0 f.Num f.Den := ⟨⟨fun i hi => by simp at hi, fun i hi => by simp at hi⟩, fun h => by simp at h, by omega, by omega, by omega, by omega, by omega, by omega, by omega, o.low, by omega, by omega, by omega, by simp; omega, fun _ => by omega⟩
 obtain ⟨z, u, v, s, t, g1, g2, g3⟩ := Qxp k (F := f) (by omega) (f.Den.natAbs + 1) k [] 0 1 1 0 f.Num f.Den (by omega) (by omega) st (.inl ⟨rfl, rfl, rfl, rfl, rfl⟩) (fun i hi hi2 => by simp at hi2)
 rw [g1, Option.bind_some]
 exact ⟨z, rfl, g2, g3⟩
theorem Qva (k : Nat) {n : Int} (h : n.natAbs <= 9000000000000000000) : Jb k n = some (n.natAbs : Int) := by
 unfold Jb
 by_cases c : n < 0
 ·rw [if_pos c, Wy (by omega) (by omega)]; congr 1; omega
 ·rw [if_neg c]; congr 1; omega
theorem Qtb {a b A B : Int} (h1 : 0 <= a) (h2 : a <= A) (h3 : 0 <= b) (h4 : b <= B) : 0 <= a * b /\ a * b <= A * B := by
 refine ⟨Int.mul_nonneg h1 h3, Int.le_trans (Int.mul_le_mul_of_nonneg_right h2 h3) (Int.mul_le_mul_of_nonneg_left h4 (by omega))⟩
theorem Qe2 (k : Nat) {f c : Qc} (hf : Ok f) (hn : 0 <= f.Num) (hc : Good f c) (c1 : c.Num <= 60) (c2 : c.Den <= 60) {u v : Int} (hu : 1 <= u) (hu2 : u <= 60) (hv : 1 <= v) (hv2 : v <= c.Den) :
 Zk k f ⟨u, v⟩ ⟨c.Num, c.Den⟩ = some false := by
 have f1 := hf.den
 have f2 := hf.denB
 have f3 := hf.num
 have g1 := hc.num
 have g2 := hc.ok.den
 have off : ∀ {x y : Int}, 1 <= x -> x <= 60 -> 1 <= y -> y <= 60 -> Yn k f ⟨x, y⟩ = some (((x * f.Den - f.Num * y).natAbs : Int), y) /\ ((x * f.Den - f.Num * y).natAbs : Int) <= 60000000000 := by
  intro x y h1 h2 h3 h4
  obtain ⟨m1, m2⟩ := Qtb (A := 60) (B := 1000000000) (show 0 <= x by omega) h2 (show 0 <= f.Den by omega) f2
  obtain ⟨m3, m4⟩ := Qtb (A := 1000000000) (B := 60) hn (show f.Num <= 1000000000 by omega) (show 0 <= y by omega) h4
  unfold Yn
  dsimp only
  rw [Wy (n := x * f.Den) (by omega) (by omega), Wy (n := f.Num * y) (by omega) (by omega), Wy (by omega) (by omega), Qva k (by omega), Option.bind_some]
  exact ⟨rfl, by omega⟩
 obtain ⟨a1, a2⟩ := off hu hu2 hv (by omega)
 obtain ⟨b1, b2⟩ := off g1 c1 g2 c2
 have hb := hc.best u v hv hv2
 obtain ⟨m1, m2⟩ := Qtb (A := 60000000000) (B := 60) (show (0 : Int) <= ((u * f.Den - f.Num * v).natAbs : Int) by omega) a2 (show 0 <= c.Den by omega) c2
 obtain ⟨m3, m4⟩ := Qtb (A := 60000000000) (B := 60) (show (0 : Int) <= ((c.Num * f.Den - f.Num * c.Den).natAbs : Int) by omega) b2 (show 0 <= v by omega) (show v <= 60 by omega)
 unfold Zk
 rw [a1, Option.bind_some, b1, Option.bind_some]
 dsimp only
 rw [Wy (by omega) (by omega), Wy (by omega) (by omega), decide_eq_false (by omega)]
end Go.Proofs.Ytgoohnencoipoaa.Vg
end

section
set_option linter.unusedVariables false
set_option linter.unusedSimpArgs false
namespace Go.Proofs.Ytgoohnencoipoaa.Vg
open Go Go.Proofs.Ytgoohnencoipoaa.Ev Go.Proofs.Ytgoohnencoipoaa.Vv
theorem Qh1 (k : Nat) (hk : 18446744073709551617 <= k) (l : List Qe) (h : trE l = 0) : Wl k l = some (match begs l with | some z => (z.getD l.length default, 0) | none => (⟨0, 0⟩, 8)) := by
 obtain ⟨b1, b3⟩ := Qkf k hk l h
 have hl := (Qde h).1
 unfold Wl Yc
 rw [(Qfp k (by omega) l (by omega)).1, Option.bind_some, if_pos h, b1, Option.bind_some, Option.bind_some]
 cases hb : begs l with
 | none => rfl
 | some z =>
   obtain ⟨z1, z2⟩ := b3 z hb
   dsimp only
   rw [if_pos rfl, if_pos (by omega), Int.toNat_natCast]
theorem Qh2 (k : Nat) (hk : 18446744073709551617 <= k) (l : List Qe) (h : trE l = 0) : Y9 k l = some (match begs l with | some z => (match turn 1 z with | some m => (m, 0) | none => (0, 8)) | none => (0, 8)) := by
 obtain ⟨b1, b3⟩ := Qkf k hk l h
 have hl := (Qde h).1
 unfold Y9 Yc
 rw [(Qfp k (by omega) l (by omega)).1, Option.bind_some, if_pos h, b1, Option.bind_some, Option.bind_some]
 cases hb : begs l with
 | none => rfl
 | some z =>
   obtain ⟨z1, z2⟩ := b3 z hb
   have t := (Qwd k hk z 0 (by omega) z2 z.length k 0 1 (by omega) (by omega) (by omega) (by omega)).1
   rw [List.drop_zero] at t
   dsimp only
   rw [if_pos rfl, show Zp k (z, 0) k 0 1 = _ from t]
   cases turn 1 z <;> rfl
theorem Qvb {a b : List Qe} (ha : trE a = 0) (hb : trE b = 0) (la : a.length <= 4) (lb : b.length <= 4) : trE (a ++ b) = 0 := by
 obtain ⟨_, h1⟩ := Qde ha
 obtain ⟨_, h2⟩ := Qde hb
 unfold trE
 rw [if_neg (by rw [List.length_append]; omega), show (a ++ b).all Qfq = true from List.all_eq_true.2 (fun g hg => by
  rcases List.mem_append.1 hg with h | h
  ·exact decide_eq_true (h1 g h)
  ·exact decide_eq_true (h2 g h))]
theorem Qkg {l : List Qe} (h : trE l = 0) {z : List Qc} (hz : begs l = some z) : z.length = l.length + 1 /\ Ok (z.getD l.length default) /\ (z.getD l.length default).Num * dns l = drs l * (z.getD l.length default).Den := by
 obtain ⟨h1, h2, h3⟩ := Qlw l ⟨1, 1⟩ [⟨1, 1⟩] z (Qde h).2 Qui rfl (by simp) hz
 have e : z.length - 1 = l.length := by rw [h1]; simp
 rw [e] at h2 h3
 refine ⟨by rw [h1]; simp; omega, h2, ?_⟩
 dsimp only at h3
 rw [Int.one_mul, Int.one_mul] at h3
 exact h3
theorem Qtc {a b : List Qe} (ha : trE a = 0) (hb : trE b = 0) (hab : trE (a ++ b) = 0) {x y z : Qc} (ox : Ok x) (oy : Ok y) (oz : Ok z) (h1 : x.Num * dns a = drs a * x.Den) (h2 : y.Num * dns b = drs b * y.Den) (h3 : z.Num * dns (a ++ b) = drs (a ++ b) * z.Den) : mulS x y = (z, 0) := by
 have da := Qng a (Qde ha).2
 have db := Qng b (Qde hb).2
 have hp : 0 < x.Den * y.Den := Int.mul_pos (by have := ox.den; omega) (by have := oy.den; omega)
 obtain ⟨f1, _, _, f4⟩ := Qgo (n := x.Num * y.Num) hp
 have cr := Qh3 (n := x.Num * y.Num) hp
 rw [Qq4, Qq5] at h3
 have e : (lowF (x.Num * y.Num) (x.Den * y.Den)).Num * z.Den = z.Num * (lowF (x.Num * y.Num) (x.Den * y.Den)).Den := by
  have q1 : dns a * dns b ≠ 0 := Int.ne_of_gt (Int.mul_pos da db)
  have q2 : x.Den * y.Den ≠ 0 := Int.ne_of_gt hp
  generalize (lowF (x.Num * y.Num) (x.Den * y.Den)).Num = u at *
  generalize (lowF (x.Num * y.Num) (x.Den * y.Den)).Den = v at *
  generalize dns a = A at *
  generalize dns b = B at *
  generalize drs a = C at *
  generalize drs b = D at *
  refine Int.eq_of_mul_eq_mul_right (Int.mul_ne_zero q1 q2) ?_
  have z1 : u * z.Den * (A * B * (x.Den * y.Den)) = (u * (x.Den * y.Den)) * z.Den * A * B := by grind
  have z2 : z.Num * v * (A * B * (x.Den * y.Den)) = (z.Num * (A * B)) * v * (x.Den * y.Den) := by grind
  rw [z1, z2, cr, h3]
  have z3 : x.Num * y.Num * v * z.Den * A * B = (x.Num * A) * (y.Num * B) * v * z.Den := by grind
  rw [z3, h1, h2]; grind
 obtain ⟨e1, e2⟩ := Qtd f1 (by have := oz.den; omega) f4 oz.low e
 have e3 : lowF (x.Num * y.Num) (x.Den * y.Den) = z := by
  cases hz : lowF (x.Num * y.Num) (x.Den * y.Den) with
  | mk p q => rw [hz] at e1 e2; cases z; simp only at e1 e2; rw [e1, e2]
 unfold mulS lowS
 rw [e3, if_pos oz.cf]
theorem l2_0 (k : Nat) {f : Qc} (z : List Qc) (e : Int) (x : Int) (hf : Ok f) (hn : 0 <= f.Num) (hc : Good f (z.getD x.toNat default)) (c1 : (z.getD x.toNat default).Num <= 60) (c2 : (z.getD x.toNat default).Den <= 60) {v : Int} (hv : 1 <= v) (hv2 : v <= (z.getD x.toNat default).Den) : ∀ (d fuel i : Nat), 61 = i + d -> d < fuel -> 1 <= i -> Qw k f (z, e) x v fuel (i : Int) = some (.inr ()) := by
 intro d
 induction d with
 | zero =>
   intro fuel i h hg h1
   obtain ⟨g, rfl⟩ : ∃ g, fuel = g + 1 := ⟨fuel - 1, by omega⟩
   rw [Qw.eq_2, if_neg (by omega)]
 | succ d ih =>
   intro fuel i h hg h1
   obtain ⟨g, rfl⟩ : ∃ g, fuel = g + 1 := ⟨fuel - 1, by omega⟩
   rw [Qw.eq_2, if_pos (by omega)]
   dsimp only
   rw [Qe2 k hf hn hc c1 c2 (show (1 : Int) <= (i : Int) by omega) (by omega) hv hv2, Option.bind_some, if_neg (by decide), J8 (by omega)]
   exact ih g (i + 1) (by omega) (by omega) (by omega)
theorem l1_0 (k : Nat) (hk : 18446744073709551617 <= k) {f : Qc} (z : List Qc) (e : Int) (x : Int) (hf : Ok f) (hn : 0 <= f.Num) (hc : Good f (z.getD x.toNat default)) (c1 : (z.getD x.toNat default).Num <= 60) (c2 : (z.getD x.toNat default).Den <= 60) : ∀ (d fuel i : Nat), (z.getD x.toNat default).Den + 1 = (i : Int) + d -> d < fuel -> 1 <= i -> Qx k f (z, e) x fuel (i : Int) = some (.inr ()) := by
 intro d
 induction d with
 | zero =>
   intro fuel i h hg h1
   obtain ⟨g, rfl⟩ : ∃ g, fuel = g + 1 := ⟨fuel - 1, by omega⟩
   rw [Qx.eq_2]; dsimp only
   rw [if_neg (by omega)]
 | succ d ih =>
   intro fuel i h hg h1
   obtain ⟨g, rfl⟩ : ∃ g, fuel = g + 1 := ⟨fuel - 1, by omega⟩
   have hin : Qw k f (z, e) x (i : Int) k 1 = some (.inr ()) := l2_0 k z e x hf hn hc c1 c2 (v := (i : Int)) (by omega) (by omega) 60 k 1 (by omega) (by omega) (by omega)
   rw [Qx.eq_2]; dsimp only
   rw [if_pos (by omega), hin, Option.bind_some]
   dsimp only
   rw [J8 (by omega)]
   exact ih g (i + 1) (by omega) (by omega) (by omega)
theorem l0_0 (k : Nat) (hk : 18446744073709551617 <= k) {f : Qc} (z : List Qc) (e : Int) (hf : Ok f) (hn : 0 <= f.Num) (hl : z.length <= 1000000000) (hz : ∀ i, 1 <= i -> i < z.length -> Good f (z.getD i default)) : ∀ (d fuel i : Nat), d < fuel -> 1 <= i -> z.length <= i + d -> Qn k f (z, e) fuel (i : Int) = some (.inr ()) := by
 intro d
 induction d with
 | zero =>
   intro fuel i hg h1 h
   obtain ⟨g, rfl⟩ : ∃ g, fuel = g + 1 := ⟨fuel - 1, by omega⟩
   rw [Qn.eq_2]; dsimp only
   rw [if_neg (by omega)]
 | succ d ih =>
   intro fuel i hg h1 h
   obtain ⟨g, rfl⟩ : ∃ g, fuel = g + 1 := ⟨fuel - 1, by omega⟩
   rw [Qn.eq_2]; dsimp only
   by_cases hi : i < z.length
   ·have G := hz i h1 hi
    have g1 := G.num
    have g2 := G.ok.den
    rw [if_pos (by omega), if_pos (by omega), Int.toNat_natCast, Qea k hk _ G.ok.in64.1 G.ok.in64.2, Option.bind_some, if_pos G.ok.cf, if_neg (by omega)]
    by_cases c1 : 60 < (z.getD i default).Num
    ·rw [if_pos c1]
    ·rw [if_neg c1]
     by_cases c2 : 60 < (z.getD i default).Den
     ·rw [if_pos c2]
     ·have hin : Qx k f (z, e) (i : Int) k 1 = some (.inr ()) := l1_0 k hk z e (i : Int) hf hn (by rw [Int.toNat_natCast]; exact G) (by rw [Int.toNat_natCast]; omega) (by rw [Int.toNat_natCast]; omega) (z.getD i default).Den.toNat k 1 (by rw [Int.toNat_natCast]; omega) (by omega) (by omega)
      rw [if_neg c2, hin, Option.bind_some]
      dsimp only
      rw [J8 (by omega)]
      exact ih g (i + 1) (by omega) (by omega) (by omega)
   ·rw [if_neg (by omega)]
theorem Qwe (k : Nat) (hk : 18446744073709551617 <= k) (f : Qc) (h1 : In64 f.Num) (h2 : In64 f.Den) : ((Qi k f).bind fun r => (if r = 0 then (if f.Num <= 0 then (some true) else ((Qu k f).bind fun r2 => (if r2.2 = 0 then ((Qn k f r2 k 1).bind fun r3 => (match r3 with | .inl _ => (some false) | .inr _ => (some true))) else (some false)))) else (some true))) = some true := by
 rw [Qea k hk f h1 h2, Option.bind_some]
 by_cases c : cf f = 0
 ·rw [if_pos c]
  by_cases c1 : f.Num <= 0
  ·rw [if_pos c1]
  ·obtain ⟨z, e1, e2, e3⟩ := Qe1 k hk f h1 h2 c (by omega)
   have hin : Qn k f (z, 0) k 1 = some (.inr ()) := l0_0 k hk z 0 (Qlv c) (by omega) e2 e3 z.length k 1 (by omega) (by omega) (by omega)
   rw [if_neg c1, e1, Option.bind_some, if_pos rfl, hin]; rfl
 ·rw [if_neg c]
theorem l2_1 (k : Nat) {f : Qc} (z : List Qc) (e : Int) (x : Int) (hf : Ok f) (hn : 0 <= f.Num) (hc : Good f (z.getD x.toNat default)) (c1 : (z.getD x.toNat default).Num <= 60) (c2 : (z.getD x.toNat default).Den <= 60) {v : Int} (hv : 1 <= v) (hv2 : v <= (z.getD x.toNat default).Den) : ∀ (d fuel i : Nat), 61 = i + d -> d < fuel -> 1 <= i -> Qy k f (z, e) x v fuel (i : Int) = some (.inr ()) := by
 intro d
 induction d with
 | zero =>
   intro fuel i h hg h1
   obtain ⟨g, rfl⟩ : ∃ g, fuel = g + 1 := ⟨fuel - 1, by omega⟩
   rw [Qy.eq_2, if_neg (by omega)]
 | succ d ih =>
   intro fuel i h hg h1
   obtain ⟨g, rfl⟩ : ∃ g, fuel = g + 1 := ⟨fuel - 1, by omega⟩
   rw [Qy.eq_2, if_pos (by omega)]
   dsimp only
   rw [Qe2 k hf hn hc c1 c2 (show (1 : Int) <= (i : Int) by omega) (by omega) hv hv2, Option.bind_some, if_neg (by decide), J8 (by omega)]
   exact ih g (i + 1) (by omega) (by omega) (by omega)
theorem l1_1 (k : Nat) (hk : 18446744073709551617 <= k) {f : Qc} (z : List Qc) (e : Int) (x : Int) (hf : Ok f) (hn : 0 <= f.Num) (hc : Good f (z.getD x.toNat default)) (c1 : (z.getD x.toNat default).Num <= 60) (c2 : (z.getD x.toNat default).Den <= 60) : ∀ (d fuel i : Nat), (z.getD x.toNat default).Den + 1 = (i : Int) + d -> d < fuel -> 1 <= i -> Qz k f (z, e) x fuel (i : Int) = some (.inr ()) := by
 intro d
 induction d with
 | zero =>
   intro fuel i h hg h1
   obtain ⟨g, rfl⟩ : ∃ g, fuel = g + 1 := ⟨fuel - 1, by omega⟩
   rw [Qz.eq_2]; dsimp only
   rw [if_neg (by omega)]
 | succ d ih =>
   intro fuel i h hg h1
   obtain ⟨g, rfl⟩ : ∃ g, fuel = g + 1 := ⟨fuel - 1, by omega⟩
   have hin : Qy k f (z, e) x (i : Int) k 1 = some (.inr ()) := l2_1 k z e x hf hn hc c1 c2 (v := (i : Int)) (by omega) (by omega) 60 k 1 (by omega) (by omega) (by omega)
   rw [Qz.eq_2]; dsimp only
   rw [if_pos (by omega), hin, Option.bind_some]
   dsimp only
   rw [J8 (by omega)]
   exact ih g (i + 1) (by omega) (by omega) (by omega)
theorem l0_1 (k : Nat) (hk : 18446744073709551617 <= k) {f : Qc} (z : List Qc) (e : Int) (hf : Ok f) (hn : 0 <= f.Num) (hl : z.length <= 1000000000) (hz : ∀ i, 1 <= i -> i < z.length -> Good f (z.getD i default)) : ∀ (d fuel i : Nat), d < fuel -> 1 <= i -> z.length <= i + d -> Qo k f (z, e) fuel (i : Int) = some (.inr ()) := by
 intro d
 induction d with
 | zero =>
   intro fuel i hg h1 h
   obtain ⟨g, rfl⟩ : ∃ g, fuel = g + 1 := ⟨fuel - 1, by omega⟩
   rw [Qo.eq_2]; dsimp only
   rw [if_neg (by omega)]
 | succ d ih =>
   intro fuel i hg h1 h
   obtain ⟨g, rfl⟩ : ∃ g, fuel = g + 1 := ⟨fuel - 1, by omega⟩
   rw [Qo.eq_2]; dsimp only
   by_cases hi : i < z.length
   ·have G := hz i h1 hi
    have g1 := G.num
    have g2 := G.ok.den
    rw [if_pos (by omega), if_pos (by omega), Int.toNat_natCast, Qea k hk _ G.ok.in64.1 G.ok.in64.2, Option.bind_some, if_pos G.ok.cf, if_neg (by omega)]
    by_cases c1 : 60 < (z.getD i default).Num
    ·rw [if_pos c1]
    ·rw [if_neg c1]
     by_cases c2 : 60 < (z.getD i default).Den
     ·rw [if_pos c2]
     ·have hin : Qz k f (z, e) (i : Int) k 1 = some (.inr ()) := l1_1 k hk z e (i : Int) hf hn (by rw [Int.toNat_natCast]; exact G) (by rw [Int.toNat_natCast]; omega) (by rw [Int.toNat_natCast]; omega) (z.getD i default).Den.toNat k 1 (by rw [Int.toNat_natCast]; omega) (by omega) (by omega)
      rw [if_neg c2, hin, Option.bind_some]
      dsimp only
      rw [J8 (by omega)]
      exact ih g (i + 1) (by omega) (by omega) (by omega)
   ·rw [if_neg (by omega)]
theorem Qwf (k : Nat) (hk : 18446744073709551617 <= k) (f : Qc) (h1 : In64 f.Num) (h2 : In64 f.Den) : ((Qi k f).bind fun r => (if r = 0 then (if f.Num <= 0 then (some true) else ((Qu k f).bind fun r2 => (if r2.2 = 0 then ((Qo k f r2 k 1).bind fun r3 => (match r3 with | .inl _ => (some false) | .inr _ => (some true))) else (some false)))) else (some true))) = some true := by
 rw [Qea k hk f h1 h2, Option.bind_some]
 by_cases c : cf f = 0
 ·rw [if_pos c]
  by_cases c1 : f.Num <= 0
  ·rw [if_pos c1]
  ·obtain ⟨z, e1, e2, e3⟩ := Qe1 k hk f h1 h2 c (by omega)
   have hin : Qo k f (z, 0) k 1 = some (.inr ()) := l0_1 k hk z 0 (Qlv c) (by omega) e2 e3 z.length k 1 (by omega) (by omega) (by omega)
   rw [if_neg c1, e1, Option.bind_some, if_pos rfl, hin]; rfl
 ·rw [if_neg c]
theorem l2_2 (k : Nat) {f : Qc} (z : List Qc) (e : Int) (x : Int) (hf : Ok f) (hn : 0 <= f.Num) (hc : Good f (z.getD x.toNat default)) (c1 : (z.getD x.toNat default).Num <= 60) (c2 : (z.getD x.toNat default).Den <= 60) {v : Int} (hv : 1 <= v) (hv2 : v <= (z.getD x.toNat default).Den) : ∀ (d fuel i : Nat), 61 = i + d -> d < fuel -> 1 <= i -> Q5 k f (z, e) x v fuel (i : Int) = some (.inr ()) := by
 intro d
 induction d with
 | zero =>
   intro fuel i h hg h1
   obtain ⟨g, rfl⟩ : ∃ g, fuel = g + 1 := ⟨fuel - 1, by omega⟩
   rw [Q5.eq_2, if_neg (by omega)]
 | succ d ih =>
   intro fuel i h hg h1
   obtain ⟨g, rfl⟩ : ∃ g, fuel = g + 1 := ⟨fuel - 1, by omega⟩
   rw [Q5.eq_2, if_pos (by omega)]
   dsimp only
   rw [Qe2 k hf hn hc c1 c2 (show (1 : Int) <= (i : Int) by omega) (by omega) hv hv2, Option.bind_some, if_neg (by decide), J8 (by omega)]
   exact ih g (i + 1) (by omega) (by omega) (by omega)
theorem l1_2 (k : Nat) (hk : 18446744073709551617 <= k) {f : Qc} (z : List Qc) (e : Int) (x : Int) (hf : Ok f) (hn : 0 <= f.Num) (hc : Good f (z.getD x.toNat default)) (c1 : (z.getD x.toNat default).Num <= 60) (c2 : (z.getD x.toNat default).Den <= 60) : ∀ (d fuel i : Nat), (z.getD x.toNat default).Den + 1 = (i : Int) + d -> d < fuel -> 1 <= i -> Q7 k f (z, e) x fuel (i : Int) = some (.inr ()) := by
 intro d
 induction d with
 | zero =>
   intro fuel i h hg h1
   obtain ⟨g, rfl⟩ : ∃ g, fuel = g + 1 := ⟨fuel - 1, by omega⟩
   rw [Q7.eq_2]; dsimp only
   rw [if_neg (by omega)]
 | succ d ih =>
   intro fuel i h hg h1
   obtain ⟨g, rfl⟩ : ∃ g, fuel = g + 1 := ⟨fuel - 1, by omega⟩
   have hin : Q5 k f (z, e) x (i : Int) k 1 = some (.inr ()) := l2_2 k z e x hf hn hc c1 c2 (v := (i : Int)) (by omega) (by omega) 60 k 1 (by omega) (by omega) (by omega)
   rw [Q7.eq_2]; dsimp only
   rw [if_pos (by omega), hin, Option.bind_some]
   dsimp only
   rw [J8 (by omega)]
   exact ih g (i + 1) (by omega) (by omega) (by omega)
theorem l0_2 (k : Nat) (hk : 18446744073709551617 <= k) {f : Qc} (z : List Qc) (e : Int) (hf : Ok f) (hn : 0 <= f.Num) (hl : z.length <= 1000000000) (hz : ∀ i, 1 <= i -> i < z.length -> Good f (z.getD i default)) : ∀ (d fuel i : Nat), d < fuel -> 1 <= i -> z.length <= i + d -> Qp k f (z, e) fuel (i : Int) = some (.inr ()) := by
 intro d
 induction d with
 | zero =>
   intro fuel i hg h1 h
   obtain ⟨g, rfl⟩ : ∃ g, fuel = g + 1 := ⟨fuel - 1, by omega⟩
   rw [Qp.eq_2]; dsimp only
   rw [if_neg (by omega)]
 | succ d ih =>
   intro fuel i hg h1 h
   obtain ⟨g, rfl⟩ : ∃ g, fuel = g + 1 := ⟨fuel - 1, by omega⟩
   rw [Qp.eq_2]; dsimp only
   by_cases hi : i < z.length
   ·have G := hz i h1 hi
    have g1 := G.num
    have g2 := G.ok.den
    rw [if_pos (by omega), if_pos (by omega), Int.toNat_natCast, Qea k hk _ G.ok.in64.1 G.ok.in64.2, Option.bind_some, if_pos G.ok.cf, if_neg (by omega)]
    by_cases c1 : 60 < (z.getD i default).Num
    ·rw [if_pos c1]
    ·rw [if_neg c1]
     by_cases c2 : 60 < (z.getD i default).Den
     ·rw [if_pos c2]
     ·have hin : Q7 k f (z, e) (i : Int) k 1 = some (.inr ()) := l1_2 k hk z e (i : Int) hf hn (by rw [Int.toNat_natCast]; exact G) (by rw [Int.toNat_natCast]; omega) (by rw [Int.toNat_natCast]; omega) (z.getD i default).Den.toNat k 1 (by rw [Int.toNat_natCast]; omega) (by omega) (by omega)
      rw [if_neg c2, hin, Option.bind_some]
      dsimp only
      rw [J8 (by omega)]
      exact ih g (i + 1) (by omega) (by omega) (by omega)
   ·rw [if_neg (by omega)]
theorem Qwg (k : Nat) (hk : 18446744073709551617 <= k) (f : Qc) (h1 : In64 f.Num) (h2 : In64 f.Den) : ((Qi k f).bind fun r => (if r = 0 then (if f.Num <= 0 then (some true) else ((Qu k f).bind fun r2 => (if r2.2 = 0 then ((Qp k f r2 k 1).bind fun r3 => (match r3 with | .inl _ => (some false) | .inr _ => (some true))) else (some false)))) else (some true))) = some true := by
 rw [Qea k hk f h1 h2, Option.bind_some]
 by_cases c : cf f = 0
 ·rw [if_pos c]
  by_cases c1 : f.Num <= 0
  ·rw [if_pos c1]
  ·obtain ⟨z, e1, e2, e3⟩ := Qe1 k hk f h1 h2 c (by omega)
   have hin : Qp k f (z, 0) k 1 = some (.inr ()) := l0_2 k hk z 0 (Qlv c) (by omega) e2 e3 z.length k 1 (by omega) (by omega) (by omega)
   rw [if_neg c1, e1, Option.bind_some, if_pos rfl, hin]; rfl
 ·rw [if_neg c]
theorem l2_3 (k : Nat) {f : Qc} (z : List Qc) (e : Int) (x : Int) (hf : Ok f) (hn : 0 <= f.Num) (hc : Good f (z.getD x.toNat default)) (c1 : (z.getD x.toNat default).Num <= 60) (c2 : (z.getD x.toNat default).Den <= 60) {v : Int} (hv : 1 <= v) (hv2 : v <= (z.getD x.toNat default).Den) : ∀ (d fuel i : Nat), 61 = i + d -> d < fuel -> 1 <= i -> Q8 k f (z, e) x v fuel (i : Int) = some (.inr ()) := by
 intro d
 induction d with
 | zero =>
   intro fuel i h hg h1
   obtain ⟨g, rfl⟩ : ∃ g, fuel = g + 1 := ⟨fuel - 1, by omega⟩
   rw [Q8.eq_2, if_neg (by omega)]
 | succ d ih =>
   intro fuel i h hg h1
   obtain ⟨g, rfl⟩ : ∃ g, fuel = g + 1 := ⟨fuel - 1, by omega⟩
   rw [Q8.eq_2, if_pos (by omega)]
   dsimp only
   rw [Qe2 k hf hn hc c1 c2 (show (1 : Int) <= (i : Int) by omega) (by omega) hv hv2, Option.bind_some, if_neg (by decide), J8 (by omega)]
   exact ih g (i + 1) (by omega) (by omega) (by omega)
theorem l1_3 (k : Nat) (hk : 18446744073709551617 <= k) {f : Qc} (z : List Qc) (e : Int) (x : Int) (hf : Ok f) (hn : 0 <= f.Num) (hc : Good f (z.getD x.toNat default)) (c1 : (z.getD x.toNat default).Num <= 60) (c2 : (z.getD x.toNat default).Den <= 60) : ∀ (d fuel i : Nat), (z.getD x.toNat default).Den + 1 = (i : Int) + d -> d < fuel -> 1 <= i -> Q9 k f (z, e) x fuel (i : Int) = some (.inr ()) := by
 intro d
 induction d with
 | zero =>
   intro fuel i h hg h1
   obtain ⟨g, rfl⟩ : ∃ g, fuel = g + 1 := ⟨fuel - 1, by omega⟩
   rw [Q9.eq_2]; dsimp only
   rw [if_neg (by omega)]
 | succ d ih =>
   intro fuel i h hg h1
   obtain ⟨g, rfl⟩ : ∃ g, fuel = g + 1 := ⟨fuel - 1, by omega⟩
   have hin : Q8 k f (z, e) x (i : Int) k 1 = some (.inr ()) := l2_3 k z e x hf hn hc c1 c2 (v := (i : Int)) (by omega) (by omega) 60 k 1 (by omega) (by omega) (by omega)
   rw [Q9.eq_2]; dsimp only
   rw [if_pos (by omega), hin, Option.bind_some]
   dsimp only
   rw [J8 (by omega)]
   exact ih g (i + 1) (by omega) (by omega) (by omega)
theorem l0_3 (k : Nat) (hk : 18446744073709551617 <= k) {f : Qc} (z : List Qc) (e : Int) (hf : Ok f) (hn : 0 <= f.Num) (hl : z.length <= 1000000000) (hz : ∀ i, 1 <= i -> i < z.length -> Good f (z.getD i default)) : ∀ (d fuel i : Nat), d < fuel -> 1 <= i -> z.length <= i + d -> Qq k f (z, e) fuel (i : Int) = some (.inr ()) := by
 intro d
 induction d with
 | zero =>
   intro fuel i hg h1 h
   obtain ⟨g, rfl⟩ : ∃ g, fuel = g + 1 := ⟨fuel - 1, by omega⟩
   rw [Qq.eq_2]; dsimp only
   rw [if_neg (by omega)]
 | succ d ih =>
   intro fuel i hg h1 h
   obtain ⟨g, rfl⟩ : ∃ g, fuel = g + 1 := ⟨fuel - 1, by omega⟩
   rw [Qq.eq_2]; dsimp only
   by_cases hi : i < z.length
   ·have G := hz i h1 hi
    have g1 := G.num
    have g2 := G.ok.den
    rw [if_pos (by omega), if_pos (by omega), Int.toNat_natCast, Qea k hk _ G.ok.in64.1 G.ok.in64.2, Option.bind_some, if_pos G.ok.cf, if_neg (by omega)]
    by_cases c1 : 60 < (z.getD i default).Num
    ·rw [if_pos c1]
    ·rw [if_neg c1]
     by_cases c2 : 60 < (z.getD i default).Den
     ·rw [if_pos c2]
     ·have hin : Q9 k f (z, e) (i : Int) k 1 = some (.inr ()) := l1_3 k hk z e (i : Int) hf hn (by rw [Int.toNat_natCast]; exact G) (by rw [Int.toNat_natCast]; omega) (by rw [Int.toNat_natCast]; omega) (z.getD i default).Den.toNat k 1 (by rw [Int.toNat_natCast]; omega) (by omega) (by omega)
      rw [if_neg c2, hin, Option.bind_some]
      dsimp only
      rw [J8 (by omega)]
      exact ih g (i + 1) (by omega) (by omega) (by omega)
   ·rw [if_neg (by omega)]
theorem Qwh (k : Nat) (hk : 18446744073709551617 <= k) (f : Qc) (h1 : In64 f.Num) (h2 : In64 f.Den) : ((Qi k f).bind fun r => (if r = 0 then (if f.Num <= 0 then (some true) else ((Qu k f).bind fun r2 => (if r2.2 = 0 then ((Qq k f r2 k 1).bind fun r3 => (match r3 with | .inl _ => (some false) | .inr _ => (some true))) else (some false)))) else (some true))) = some true := by
 rw [Qea k hk f h1 h2, Option.bind_some]
 by_cases c : cf f = 0
 ·rw [if_pos c]
  by_cases c1 : f.Num <= 0
  ·rw [if_pos c1]
  ·obtain ⟨z, e1, e2, e3⟩ := Qe1 k hk f h1 h2 c (by omega)
   have hin : Qq k f (z, 0) k 1 = some (.inr ()) := l0_3 k hk z 0 (Qlv c) (by omega) e2 e3 z.length k 1 (by omega) (by omega) (by omega)
   rw [if_neg c1, e1, Option.bind_some, if_pos rfl, hin]; rfl
 ·rw [if_neg c]
theorem l2_4 (k : Nat) {f : Qc} (z : List Qc) (e : Int) (x : Int) (hf : Ok f) (hn : 0 <= f.Num) (hc : Good f (z.getD x.toNat default)) (c1 : (z.getD x.toNat default).Num <= 60) (c2 : (z.getD x.toNat default).Den <= 60) {v : Int} (hv : 1 <= v) (hv2 : v <= (z.getD x.toNat default).Den) : ∀ (d fuel i : Nat), 61 = i + d -> d < fuel -> 1 <= i -> Za k f (z, e) x v fuel (i : Int) = some (.inr ()) := by
 intro d
 induction d with
 | zero =>
   intro fuel i h hg h1
   obtain ⟨g, rfl⟩ : ∃ g, fuel = g + 1 := ⟨fuel - 1, by omega⟩
   rw [Za.eq_2, if_neg (by omega)]
 | succ d ih =>
   intro fuel i h hg h1
   obtain ⟨g, rfl⟩ : ∃ g, fuel = g + 1 := ⟨fuel - 1, by omega⟩
   rw [Za.eq_2, if_pos (by omega)]
   dsimp only
   rw [Qe2 k hf hn hc c1 c2 (show (1 : Int) <= (i : Int) by omega) (by omega) hv hv2, Option.bind_some, if_neg (by decide), J8 (by omega)]
   exact ih g (i + 1) (by omega) (by omega) (by omega)
theorem l1_4 (k : Nat) (hk : 18446744073709551617 <= k) {f : Qc} (z : List Qc) (e : Int) (x : Int) (hf : Ok f) (hn : 0 <= f.Num) (hc : Good f (z.getD x.toNat default)) (c1 : (z.getD x.toNat default).Num <= 60) (c2 : (z.getD x.toNat default).Den <= 60) : ∀ (d fuel i : Nat), (z.getD x.toNat default).Den + 1 = (i : Int) + d -> d < fuel -> 1 <= i -> Zb k f (z, e) x fuel (i : Int) = some (.inr ()) := by
 intro d
 induction d with
 | zero =>
   intro fuel i h hg h1
   obtain ⟨g, rfl⟩ : ∃ g, fuel = g + 1 := ⟨fuel - 1, by omega⟩
   rw [Zb.eq_2]; dsimp only
   rw [if_neg (by omega)]
 | succ d ih =>
   intro fuel i h hg h1
   obtain ⟨g, rfl⟩ : ∃ g, fuel = g + 1 := ⟨fuel - 1, by omega⟩
   have hin : Za k f (z, e) x (i : Int) k 1 = some (.inr ()) := l2_4 k z e x hf hn hc c1 c2 (v := (i : Int)) (by omega) (by omega) 60 k 1 (by omega) (by omega) (by omega)
   rw [Zb.eq_2]; dsimp only
   rw [if_pos (by omega), hin, Option.bind_some]
   dsimp only
   rw [J8 (by omega)]
   exact ih g (i + 1) (by omega) (by omega) (by omega)
theorem l0_4 (k : Nat) (hk : 18446744073709551617 <= k) {f : Qc} (z : List Qc) (e : Int) (hf : Ok f) (hn : 0 <= f.Num) (hl : z.length <= 1000000000) (hz : ∀ i, 1 <= i -> i < z.length -> Good f (z.getD i default)) : ∀ (d fuel i : Nat), d < fuel -> 1 <= i -> z.length <= i + d -> Qr k f (z, e) fuel (i : Int) = some (.inr ()) := by
 intro d
 induction d with
 | zero =>
   intro fuel i hg h1 h
   obtain ⟨g, rfl⟩ : ∃ g, fuel = g + 1 := ⟨fuel - 1, by omega⟩
   rw [Qr.eq_2]; dsimp only
   rw [if_neg (by omega)]
 | succ d ih =>
   intro fuel i hg h1 h
   obtain ⟨g, rfl⟩ : ∃ g, fuel = g + 1 := ⟨fuel - 1, by omega⟩
   rw [Qr.eq_2]; dsimp only
   by_cases hi : i < z.length
   ·have G := hz i h1 hi
    have g1 := G.num
    have g2 := G.ok.den
    rw [if_pos (by omega), if_pos (by omega), Int.toNat_natCast, Qea k hk _ G.ok.in64.1 G.ok.in64.2, Option.bind_some, if_pos G.ok.cf, if_neg (by omega)]
    by_cases c1 : 60 < (z.getD i default).Num
    ·rw [if_pos c1]
    ·rw [if_neg c1]
     by_cases c2 : 60 < (z.getD i default).Den
     ·rw [if_pos c2]
     ·have hin : Zb k f (z, e) (i : Int) k 1 = some (.inr ()) := l1_4 k hk z e (i : Int) hf hn (by rw [Int.toNat_natCast]; exact G) (by rw [Int.toNat_natCast]; omega) (by rw [Int.toNat_natCast]; omega) (z.getD i default).Den.toNat k 1 (by rw [Int.toNat_natCast]; omega) (by omega) (by omega)
      rw [if_neg c2, hin, Option.bind_some]
      dsimp only
      rw [J8 (by omega)]
      exact ih g (i + 1) (by omega) (by omega) (by omega)
   ·rw [if_neg (by omega)]
theorem Qwi (k : Nat) (hk : 18446744073709551617 <= k) (f : Qc) (h1 : In64 f.Num) (h2 : In64 f.Den) : ((Qi k f).bind fun r => (if r = 0 then (if f.Num <= 0 then (some true) else ((Qu k f).bind fun r2 => (if r2.2 = 0 then ((Qr k f r2 k 1).bind fun r3 => (match r3 with | .inl _ => (some false) | .inr _ => (some true))) else (some false)))) else (some true))) = some true := by
 rw [Qea k hk f h1 h2, Option.bind_some]
 by_cases c : cf f = 0
 ·rw [if_pos c]
  by_cases c1 : f.Num <= 0
  ·rw [if_pos c1]
  ·obtain ⟨z, e1, e2, e3⟩ := Qe1 k hk f h1 h2 c (by omega)
   have hin : Qr k f (z, 0) k 1 = some (.inr ()) := l0_4 k hk z 0 (Qlv c) (by omega) e2 e3 z.length k 1 (by omega) (by omega) (by omega)
   rw [if_neg c1, e1, Option.bind_some, if_pos rfl, hin]; rfl
 ·rw [if_neg c]
theorem l2_5 (k : Nat) {f : Qc} (z : List Qc) (e : Int) (x : Int) (hf : Ok f) (hn : 0 <= f.Num) (hc : Good f (z.getD x.toNat default)) (c1 : (z.getD x.toNat default).Num <= 60) (c2 : (z.getD x.toNat default).Den <= 60) {v : Int} (hv : 1 <= v) (hv2 : v <= (z.getD x.toNat default).Den) : ∀ (d fuel i : Nat), 61 = i + d -> d < fuel -> 1 <= i -> Zc k f (z, e) x v fuel (i : Int) = some (.inr ()) := by
 intro d
 induction d with
 | zero =>
   intro fuel i h hg h1
   obtain ⟨g, rfl⟩ : ∃ g, fuel = g + 1 := ⟨fuel - 1, by omega⟩
   rw [Zc.eq_2, if_neg (by omega)]
 | succ d ih =>
   intro fuel i h hg h1
   obtain ⟨g, rfl⟩ : ∃ g, fuel = g + 1 := ⟨fuel - 1, by omega⟩
   rw [Zc.eq_2, if_pos (by omega)]
   dsimp only
   rw [Qe2 k hf hn hc c1 c2 (show (1 : Int) <= (i : Int) by omega) (by omega) hv hv2, Option.bind_some, if_neg (by decide), J8 (by omega)]
   exact ih g (i + 1) (by omega) (by omega) (by omega)
theorem l1_5 (k : Nat) (hk : 18446744073709551617 <= k) {f : Qc} (z : List Qc) (e : Int) (x : Int) (hf : Ok f) (hn : 0 <= f.Num) (hc : Good f (z.getD x.toNat default)) (c1 : (z.getD x.toNat default).Num <= 60) (c2 : (z.getD x.toNat default).Den <= 60) : ∀ (d fuel i : Nat), (z.getD x.toNat default).Den + 1 = (i : Int) + d -> d < fuel -> 1 <= i -> Zd k f (z, e) x fuel (i : Int) = some (.inr ()) := by
 intro d
 induction d with
 | zero =>
   intro fuel i h hg h1
   obtain ⟨g, rfl⟩ : ∃ g, fuel = g + 1 := ⟨fuel - 1, by omega⟩
   rw [Zd.eq_2]; dsimp only
   rw [if_neg (by omega)]
 | succ d ih =>
   intro fuel i h hg h1
   obtain ⟨g, rfl⟩ : ∃ g, fuel = g + 1 := ⟨fuel - 1, by omega⟩
   have hin : Zc k f (z, e) x (i : Int) k 1 = some (.inr ()) := l2_5 k z e x hf hn hc c1 c2 (v := (i : Int)) (by omega) (by omega) 60 k 1 (by omega) (by omega) (by omega)
   rw [Zd.eq_2]; dsimp only
   rw [if_pos (by omega), hin, Option.bind_some]
   dsimp only
   rw [J8 (by omega)]
   exact ih g (i + 1) (by omega) (by omega) (by omega)
theorem l0_5 (k : Nat) (hk : 18446744073709551617 <= k) {f : Qc} (z : List Qc) (e : Int) (hf : Ok f) (hn : 0 <= f.Num) (hl : z.length <= 1000000000) (hz : ∀ i, 1 <= i -> i < z.length -> Good f (z.getD i default)) : ∀ (d fuel i : Nat), d < fuel -> 1 <= i -> z.length <= i + d -> Qs k f (z, e) fuel (i : Int) = some (.inr ()) := by
 intro d
 induction d with
 | zero =>
   intro fuel i hg h1 h
   obtain ⟨g, rfl⟩ : ∃ g, fuel = g + 1 := ⟨fuel - 1, by omega⟩
   rw [Qs.eq_2]; dsimp only
   rw [if_neg (by omega)]
 | succ d ih =>
   intro fuel i hg h1 h
   obtain ⟨g, rfl⟩ : ∃ g, fuel = g + 1 := ⟨fuel - 1, by omega⟩
   rw [Qs.eq_2]; dsimp only
   by_cases hi : i < z.length
   ·have G := hz i h1 hi
    have g1 := G.num
    have g2 := G.ok.den
    rw [if_pos (by omega), if_pos (by omega), Int.toNat_natCast, Qea k hk _ G.ok.in64.1 G.ok.in64.2, Option.bind_some, if_pos G.ok.cf, if_neg (by omega)]
    by_cases c1 : 60 < (z.getD i default).Num
    ·rw [if_pos c1]
    ·rw [if_neg c1]
     by_cases c2 : 60 < (z.getD i default).Den
     ·rw [if_pos c2]
     ·have hin : Zd k f (z, e) (i : Int) k 1 = some (.inr ()) := l1_5 k hk z e (i : Int) hf hn (by rw [Int.toNat_natCast]; exact G) (by rw [Int.toNat_natCast]; omega) (by rw [Int.toNat_natCast]; omega) (z.getD i default).Den.toNat k 1 (by rw [Int.toNat_natCast]; omega) (by omega) (by omega)
      rw [if_neg c2, hin, Option.bind_some]
      dsimp only
      rw [J8 (by omega)]
      exact ih g (i + 1) (by omega) (by omega) (by omega)
   ·rw [if_neg (by omega)]
theorem Qwj (k : Nat) (hk : 18446744073709551617 <= k) (f : Qc) (h1 : In64 f.Num) (h2 : In64 f.Den) : ((Qi k f).bind fun r => (if r = 0 then (if f.Num <= 0 then (some true) else ((Qu k f).bind fun r2 => (if r2.2 = 0 then ((Qs k f r2 k 1).bind fun r3 => (match r3 with | .inl _ => (some false) | .inr _ => (some true))) else (some false)))) else (some true))) = some true := by
 rw [Qea k hk f h1 h2, Option.bind_some]
 by_cases c : cf f = 0
 ·rw [if_pos c]
  by_cases c1 : f.Num <= 0
  ·rw [if_pos c1]
  ·obtain ⟨z, e1, e2, e3⟩ := Qe1 k hk f h1 h2 c (by omega)
   have hin : Qs k f (z, 0) k 1 = some (.inr ()) := l0_5 k hk z 0 (Qlv c) (by omega) e2 e3 z.length k 1 (by omega) (by omega) (by omega)
   rw [if_neg c1, e1, Option.bind_some, if_pos rfl, hin]; rfl
 ·rw [if_neg c]
theorem Qq6 (k : Nat) (hk : 18446744073709551617 <= k) (f : Qc) (a b : List Qe) (h1 : In64 f.Num) (h2 : In64 f.Den) : Yf k f a b = some true := by
 unfold Yf
 rw [show Qq7 k = some true from rfl, Option.bind_some, if_pos rfl]
 by_cases la : 4 < (a.length : Int)
 ·rw [if_pos la]
 rw [if_neg la]
 by_cases lb : 4 < (b.length : Int)
 ·rw [if_pos lb]
 rw [if_neg lb, (Qfp k (by omega) a (by omega)).2, Option.bind_some]
 by_cases ta : trE a = 0
 case neg => rw [if_neg ta]
 rw [if_pos ta, (Qfp k (by omega) b (by omega)).2, Option.bind_some]
 by_cases tb : trE b = 0
 case neg => rw [if_neg tb]
 have tab := Qvb ta tb (by omega) (by omega)
 rw [if_pos tb, Qh1 k hk a ta, Option.bind_some, Qh1 k hk b tb, Option.bind_some, if_pos (by show 0 + a.length <= 1000000000; omega), List.nil_append, if_pos (by omega), Qh1 k hk (a ++ b) tab, Option.bind_some]
 cases ha : begs a with
 | none =>
   dsimp only
   rw [if_neg (by decide)]
   exact Qwj k hk f h1 h2
 | some za =>
   cases hb : begs b with
   | none =>
     dsimp only
     rw [if_pos rfl, if_neg (by decide)]
     exact Qwi k hk f h1 h2
   | some zb =>
     cases hz : begs (a ++ b) with
     | none =>
       dsimp only
       rw [if_pos rfl, if_pos rfl, if_neg (by decide)]
       exact Qwh k hk f h1 h2
     | some z =>
       obtain ⟨x1, x2, x3⟩ := Qkg ta ha
       obtain ⟨y1, y2, y3⟩ := Qkg tb hb
       obtain ⟨w1, w2, w3⟩ := Qkg tab hz
       dsimp only
       rw [if_pos rfl, if_pos rfl, if_pos rfl, Qol k hk _ _ x2 y2, Option.bind_some, Qtc ta tb tab x2 y2 w2 x3 y3 w3]
       dsimp only
       rw [if_pos rfl, if_pos (by simp), Qh2 k hk a ta, Option.bind_some, Qh2 k hk (a ++ b) tab, Option.bind_some, ha, hz]
       dsimp only
       obtain ⟨zz, t, p1, p2, p3⟩ := Qlx a b ⟨1, 1⟩ [⟨1, 1⟩] z rfl (by simp) hz
       have ezz : zz = za := by
        have := p1.symm.trans ha; injection this
       subst ezz
       have oz : ∀ g ∈ z, Ok g := (Qkf k hk (a ++ b) tab).2 z hz |>.2
       rcases (show turn 1 zz = none \/ ∃ m, turn 1 zz = some m by cases turn 1 zz; exact .inl rfl; exact .inr ⟨_, rfl⟩) with hm | ⟨m, hm⟩
       ·simp only [hm]
        rw [if_neg (by decide)]
        exact Qwg k hk f h1 h2
       ·have e : turn 1 z = turn m t := by rw [p2, Qom, hm]
        obtain ⟨_, m1⟩ := Qkh zz 1 m (by omega) (fun g hg => oz g (by rw [p2]; exact List.mem_append_left _ hg)) hm
        rcases (show turn m t = none \/ ∃ n, turn m t = some n by cases turn m t; exact .inl rfl; exact .inr ⟨_, rfl⟩) with hn | ⟨n, hn⟩
        ·simp only [hm, e, hn]
         rw [if_pos trivial, if_neg (by decide)]
         exact Qwf k hk f h1 h2
        ·obtain ⟨dv, _⟩ := Qkh t m n m1 (fun g hg => oz g (by rw [p2]; exact List.mem_append_right _ hg)) hn
         simp only [hm, e, hn]
         rw [if_pos trivial, if_pos trivial, if_neg (by omega), if_pos (by omega), if_pos (Int.tmod_eq_zero_of_dvd dv)]
         exact Qwe k hk f h1 h2
theorem Qte (f : Qc) (a b : List Qe) (hb : (In64 f.Num) /\ (In64 f.Den)) : VC Try.prog 3 [VV.ag (Qa f), VV.tr (a.flatMap Qd) a.length, VV.tr (b.flatMap Qd) b.length] (vb true) := Qct _ _ _ _ _ (Qq6 100000000000000000000 (by decide) f a b hb.1 hb.2)
end Go.Proofs.Ytgoohnencoipoaa.Vg
end

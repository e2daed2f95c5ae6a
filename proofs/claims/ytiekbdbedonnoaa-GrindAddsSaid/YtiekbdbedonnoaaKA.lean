import Derived.Test.YtiekbdbedonnoaaK0
import Derived.Test.YtiekbdbedonnoaaWb
set_option linter.unusedVariables false
set_option linter.unusedSimpArgs false
namespace Go.Proofs.Ytiekbdbedonnoaa.Vg
open Go Go.Proofs.Ytiekbdbedonnoaa.Ev Go.Proofs.Ytiekbdbedonnoaa.Vv
theorem Qzm {n : Int} (h1 : -9223372036854775808 <= n) (h2 : n <= 9223372036854775807) : w64 n = n := by
 unfold w64 IntKind.wrap
 simp [IntKind.signed, IntKind.bits]
 omega
theorem Qyg {i : Nat} (h : i < 1000000000000) : w64 ((i : Int) + 1) = ((i + 1 : Nat) : Int) := by
 rw [Qzm (by omega) (by omega)]; omega
def sumB (b : Bool) : Sum Unit Unit := match b with | true => .inr () | false => .inl ()
def inR (a b n : Int) : Bool := decide (a <= n /\ n <= b)
theorem Qtv {a b n : Int} : inR a b n = true ↔ a <= n /\ n <= b := by unfold inR; exact decide_eq_true_iff
theorem Q3o {a b n : Int} : inR a b n = false ↔ ¬(a <= n /\ n <= b) := by unfold inR; exact decide_eq_false_iff_not
theorem isw (k : Nat) (a b c : Int) : Y3 k a b c = some (inR b c a) := by
 unfold Y3 inR
 by_cases h1 : b <= a
 ·rw [if_pos h1]; congr 1; by_cases h2 : a <= c
  ·rw [decide_eq_true h2, decide_eq_true ⟨h1, h2⟩]
  ·rw [decide_eq_false h2, decide_eq_false (fun h => h2 h.2)]
 ·rw [if_neg h1, decide_eq_false (fun h => h1 h.1)]
theorem wib (k : Nat) (a b c : Int) : Jc k a b c = some (inR b c a) := by
 unfold Jc inR
 by_cases h1 : b <= a
 ·rw [if_pos h1]; congr 1; by_cases h2 : a <= c
  ·rw [decide_eq_true h2, decide_eq_true ⟨h1, h2⟩]
  ·rw [decide_eq_false h2, decide_eq_false (fun h => h2 h.2)]
 ·rw [if_neg h1, decide_eq_false (fun h => h1 h.1)]
def letB (n : Int) : Bool := decide (97 <= n /\ n <= 122) || decide (65 <= n /\ n <= 90)
def namB (n : Int) : Bool := letB n || decide (48 <= n /\ n <= 57) || decide (n = 45)
theorem Qp0 (k : Nat) (n : Int) : Qb6 k n = some (letB n) := by
 unfold Qb6 letB
 by_cases h1 : 97 <= n <;> by_cases h2 : n <= 122 <;> by_cases h3 : 65 <= n <;> simp [h1, h2, h3]
theorem Qm3 (k : Nat) (n : Int) : Yn k n = some (letB n) := by
 unfold Yn letB
 by_cases h1 : 97 <= n <;> by_cases h2 : n <= 122 <;> by_cases h3 : 65 <= n <;> simp [h1, h2, h3]
theorem Qwp (k : Nat) (n : Int) : Qai k n = some (decide (48 <= n /\ n <= 57)) := by
 unfold Qai
 by_cases h1 : 48 <= n <;> simp [h1]
theorem Qt6 (k : Nat) (n : Int) : Qcl k n = some (!namB n) := by
 unfold Qcl namB
 rw [Qp0, Option.bind_some]
 cases letB n
 ·by_cases h1 : 48 <= n <;> by_cases h2 : n <= 57 <;> simp [h1, h2]
 ·rfl
def bt8 (s : ByteArray) (i : Nat) : Int := bat s (i : Int)
theorem Qon {s : ByteArray} {i : Nat} (h : i < s.size) : bt8 s i = ((s.get! i).toNat : Int) := by
 unfold bt8 bat
 rw [show ((i : Int)).toNat = i from rfl, getElem?_pos s i h]
 dsimp only
 rw [show s.get! i = s[i] from by cases s; exact getElem!_pos _ i h]
theorem Qt7 {s : ByteArray} {i : Nat} (h : i < s.size) (hb : bt8 s i < 128) : Go.Utf8.decode s i = ((bt8 s i).toNat, 1) := by
 rw [Qon h] at hb ⊢
 unfold Go.Utf8.decode
 dsimp only
 rw [if_pos (by rw [Nat.add_zero]; omega)]
 simp
theorem decode_high {s : ByteArray} {i : Nat} (h : i < s.size) (hb : 128 <= bt8 s i) : 128 <= (Go.Utf8.decode s i).1 := by
 rw [Qon h] at hb
 have he : 128 <= Go.Utf8.runeError := by decide
 unfold Go.Utf8.decode
 dsimp only
 rw [if_neg (by rw [Nat.add_zero]; omega)]
 split
 ·split
  ·dsimp only; omega
  ·exact he
 ·split
  ·split
   ·rename_i hh; simp only [Bool.and_eq_true, decide_eq_true_eq] at hh; dsimp only; omega
   ·exact he
  ·split
   ·split
    ·rename_i hh; simp only [Bool.and_eq_true, decide_eq_true_eq] at hh; dsimp only; omega
    ·exact he
   ·exact he
theorem Qs6 {n : Int} (h : 128 <= n) : namB n = false := by
 unfold namB letB
 simp
 omega
def allN (s : ByteArray) : Nat -> Nat -> Bool
 | 0, _ => true
 | d + 1, i => namB (bt8 s i) && allN s d (i + 1)
theorem Q07 (k : Nat) (s : ByteArray) : ∀ (d fuel i : Nat), s.size = i + d -> d < fuel ->
 ∃ j : Nat, Q5 k s true fuel (i : Int) = some (match allN s d i with | true => .inr () | false => .inl (j : Int)) := by
 intro d
 induction d with
 | zero =>
   intro fuel i h hf
   obtain ⟨g, rfl⟩ : ∃ g, fuel = g + 1 := ⟨fuel - 1, by omega⟩
   rw [Q5.eq_2, if_neg (by omega)]
   exact ⟨0, rfl⟩
 | succ d ih =>
   intro fuel i h hf
   obtain ⟨g, rfl⟩ : ∃ g, fuel = g + 1 := ⟨fuel - 1, by omega⟩
   obtain ⟨j, hj⟩ := ih g (i + 1) (by omega) (by omega)
   rw [Q5.eq_2, if_pos (by omega), if_pos (by omega), Qt6, Option.bind_some]
   rw [show ((i : Int)).toNat = i from rfl]
   unfold allN
   by_cases hb : bt8 s i < 128
   ·rw [Qt7 (by omega) hb]
    have h0 : 0 <= bt8 s i := by rw [Qon (by omega)]; omega
    dsimp only
    rw [show (((bt8 s i).toNat : Nat) : Int) = bt8 s i by omega]
    cases hn : namB (bt8 s i) with
    | true =>
      rw [if_neg (by decide), show (i : Int) + ((1 : Nat) : Int) = ((i + 1 : Nat) : Int) by omega, hj]
      exact ⟨j, rfl⟩
    | false => exact ⟨i, by rw [if_pos (by decide)]; rfl⟩
   ·have := decode_high (s := s) (i := i) (by omega) (by omega)
    rw [Qs6 (n := ((Go.Utf8.decode s i).1 : Int)) (by omega), Qs6 (n := bt8 s i) (by omega)]
    exact ⟨i, by rw [if_pos (by decide)]; rfl⟩
theorem Q25 (k : Nat) (s : ByteArray) (hl : s.size < 100000000) : ∀ (d fuel i : Nat), s.size = i + d -> d < fuel ->
 Zr k s fuel (i : Int) = some (sumB (allN s d i)) := by
 intro d
 induction d with
 | zero =>
   intro fuel i h hf
   obtain ⟨g, rfl⟩ : ∃ g, fuel = g + 1 := ⟨fuel - 1, by omega⟩
   rw [Zr.eq_2, if_neg (by omega)]; rfl
 | succ d ih =>
   intro fuel i h hf
   obtain ⟨g, rfl⟩ : ∃ g, fuel = g + 1 := ⟨fuel - 1, by omega⟩
   rw [Zr.eq_2, if_pos (by omega), if_pos (by omega), Qm3, Option.bind_some, Qwp, Option.bind_some, Qyg (by omega), ih g (i + 1) (by omega) (by omega)]
   change (if letB (bt8 s i) = true then _ else (if decide (48 <= bt8 s i /\ bt8 s i <= 57) = true then _ else (if bt8 s i = 45 then _ else _))) = some (sumB (namB (bt8 s i) && allN s d (i + 1)))
   unfold namB
   by_cases c1 : letB (bt8 s i) = true
   ·rw [if_pos c1, c1]; rfl
   ·rw [if_neg c1, eq_false_of_ne_true c1]
    by_cases c2 : decide (48 <= bt8 s i /\ bt8 s i <= 57) = true
    ·rw [if_pos c2, c2]; rfl
    ·rw [if_neg c2, eq_false_of_ne_true c2]
     by_cases c3 : bt8 s i = 45
     ·rw [if_pos c3, decide_eq_true c3]; rfl
     ·rw [if_neg c3, decide_eq_false c3]; rfl
def nameB (s : ByteArray) : Bool := match inR 1 12 (s.size : Int) with
 | true => letB (bt8 s 0) && allN s s.size 0
 | false => false
theorem Qrh (k : Nat) (hk : 100 < k) (hk2 : k <= 100000000000000000000) (s : ByteArray) : Qdr k s = some (nameB s) := by
 unfold Qdr nameB
 rw [isw k, Option.bind_some]
 cases h : inR 1 12 (s.size : Int) with
 | false => rfl
 | true =>
   have h := Qtv.1 h
   have h0 : bt8 s 0 = ((s.get! 0).toNat : Int) := Qon (by omega)
   have hlt : (s.get! 0).toNat < 256 := (s.get! 0).toNat_lt
   rw [if_pos rfl, if_pos (by omega), Qp0, Option.bind_some]
   rw [show IntKind.i32.wrap (bat s 0) = bt8 s 0 by
    show IntKind.i32.wrap (bt8 s 0) = bt8 s 0
    rw [h0]
    unfold IntKind.wrap
    simp [IntKind.signed, IntKind.bits]
    omega]
   cases letB (bt8 s 0) with
   | false => rfl
   | true =>
     rw [if_pos rfl]
     unfold Xy Jb Ja
     obtain ⟨j, hj⟩ := Q07 k s s.size k 0 (by omega) (by omega)
     rw [show Q5 k s true k 0 = _ from hj]
     cases allN s s.size 0 with
     | true => rfl
     | false =>
       simp only [Option.bind_some]
       rw [decide_eq_true (show (0 : Int) <= (j : Int) by omega)]; rfl
theorem Qnn (k : Nat) (hk : 100 < k) (s : ByteArray) : Yh k s = some (nameB s) := by
 unfold Yh nameB
 cases h : inR 1 12 (s.size : Int) with
 | false =>
   have h := Q3o.1 h
   by_cases h0 : (s.size : Int) = 0
   ·rw [if_pos h0]
   ·rw [if_neg h0, if_pos (by omega)]
 | true =>
   have h := Qtv.1 h
   rw [if_neg (by omega), if_neg (by omega), if_pos (by omega), Qm3, Option.bind_some]
   change (if letB (bt8 s 0) = true then _ else _) = _
   cases letB (bt8 s 0) with
   | false => rfl
   | true =>
     rw [if_pos rfl, show Zr k s k 0 = _ from Q25 k s (by omega) s.size k 0 (by omega) (by omega)]
     cases allN s s.size 0 <;> rfl
end Go.Proofs.Ytiekbdbedonnoaa.Vg

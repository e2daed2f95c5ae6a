import Derived.Test.YtiekbdbedonnoaaK0
import Derived.Test.YtiekbdbedonnoaaWb
set_option linter.unusedVariables false
set_option linter.unusedSimpArgs false
namespace Go.Proofs.Ytiekbdbedonnoaa.Vg
open Go Go.Proofs.Ytiekbdbedonnoaa.Ev Go.Proofs.Ytiekbdbedonnoaa.Vv
theorem Qys {n : Int} (h1 : -9223372036854775808 <= n) (h2 : n <= 9223372036854775807) : w64 n = n := by
 unfold w64 IntKind.wrap
 simp [IntKind.signed, IntKind.bits]
 omega
theorem Qxl {i : Nat} (h : i < 1000000000000) : w64 ((i : Int) + 1) = ((i + 1 : Nat) : Int) := by
 rw [Qys (by omega) (by omega)]; omega
def sumB (b : Bool) : Sum Unit Unit := match b with | true => .inr () | false => .inl ()
def inR (a b n : Int) : Bool := decide (a <= n /\ n <= b)
theorem Qs7 {a b n : Int} : inR a b n = true ↔ a <= n /\ n <= b := by unfold inR; exact decide_eq_true_iff
theorem Q2v {a b n : Int} : inR a b n = false ↔ ¬(a <= n /\ n <= b) := by unfold inR; exact decide_eq_false_iff_not
theorem isw (k : Nat) (a b c : Int) : Yq k a b c = some (inR b c a) := by
 unfold Yq inR
 by_cases h1 : b <= a
 ·rw [if_pos h1]; congr 1; by_cases h2 : a <= c
  ·rw [decide_eq_true h2, decide_eq_true ⟨h1, h2⟩]
  ·rw [decide_eq_false h2, decide_eq_false (fun h => h2 h.2)]
 ·rw [if_neg h1, decide_eq_false (fun h => h1 h.1)]
theorem wib (k : Nat) (a b c : Int) : X3 k a b c = some (inR b c a) := by
 unfold X3 inR
 by_cases h1 : b <= a
 ·rw [if_pos h1]; congr 1; by_cases h2 : a <= c
  ·rw [decide_eq_true h2, decide_eq_true ⟨h1, h2⟩]
  ·rw [decide_eq_false h2, decide_eq_false (fun h => h2 h.2)]
 ·rw [if_neg h1, decide_eq_false (fun h => h1 h.1)]
def letB (n : Int) : Bool := decide (97 <= n /\ n <= 122) || decide (65 <= n /\ n <= 90)
def namB (n : Int) : Bool := letB n || decide (48 <= n /\ n <= 57) || decide (n = 45)
theorem Qph (k : Nat) (n : Int) : Qbu k n = some (letB n) := by
 unfold Qbu letB
 by_cases h1 : 97 <= n <;> by_cases h2 : n <= 122 <;> by_cases h3 : 65 <= n <;> simp [h1, h2, h3]
theorem Qmm (k : Nat) (n : Int) : Yc k n = some (letB n) := by
 unfold Yc letB
 by_cases h1 : 97 <= n <;> by_cases h2 : n <= 122 <;> by_cases h3 : 65 <= n <;> simp [h1, h2, h3]
theorem Qvz (k : Nat) (n : Int) : Wx k n = some (decide (48 <= n /\ n <= 57)) := by
 unfold Wx
 by_cases h1 : 48 <= n <;> simp [h1]
theorem Qth (k : Nat) (n : Int) : Qb9 k n = some (!namB n) := by
 unfold Qb9 namB
 rw [Qph, Option.bind_some]
 cases letB n
 ·by_cases h1 : 48 <= n <;> by_cases h2 : n <= 57 <;> simp [h1, h2]
 ·rfl
def bt8 (s : ByteArray) (i : Nat) : Int := bat s (i : Int)
theorem Qn6 {s : ByteArray} {i : Nat} (h : i < s.size) : bt8 s i = ((s.get! i).toNat : Int) := by
 unfold bt8 bat
 rw [show ((i : Int)).toNat = i from rfl, getElem?_pos s i h]
 dsimp only
 rw [show s.get! i = s[i] from by cases s; exact getElem!_pos _ i h]
theorem Qti {s : ByteArray} {i : Nat} (h : i < s.size) (hb : bt8 s i < 128) : Go.Utf8.decode s i = ((bt8 s i).toNat, 1) := by
 rw [Qn6 h] at hb ⊢
 unfold Go.Utf8.decode
 dsimp only
 rw [if_pos (by rw [Nat.add_zero]; omega)]
 simp
theorem decode_high {s : ByteArray} {i : Nat} (h : i < s.size) (hb : 128 <= bt8 s i) : 128 <= (Go.Utf8.decode s i).1 := by
 rw [Qn6 h] at hb
 have he : 128 <= Go.Utf8.runeError := by decide
 unfold Go.Utf8.decode
 dsimp only
 rw [if_neg (by rw [Nat.add_zero]; omega)]
 split
 ·split
  ·dsimp only; omega
  ·exact he
 ·split
  ·split
   ·rename_i hh; simp only [Bool.and_eq_true, decide_eq_true_eq] at hh; dsimp only; omega
   ·exact he
  ·split
   ·split
    ·rename_i hh; simp only [Bool.and_eq_true, decide_eq_true_eq] at hh; dsimp only; omega
    ·exact he
   ·exact he
theorem Qsj {n : Int} (h : 128 <= n) : namB n = false := by
 unfold namB letB
 simp
 omega
def allN (s : ByteArray) : Nat -> Nat -> Bool
 | 0, _ => true
 | d + 1, i => namB (bt8 s i) && allN s d (i + 1)
theorem Q0e (k : Nat) (s : ByteArray) : ∀ (d fuel i : Nat), s.size = i + d -> d < fuel ->
 ∃ j : Nat, Qv k s true fuel (i : Int) = some (match allN s d i with | true => .inr () | false => .inl (j : Int)) := by
 intro d
 induction d with
 | zero =>
   intro fuel i h hf
   obtain ⟨g, rfl⟩ : ∃ g, fuel = g + 1 := ⟨fuel - 1, by omega⟩
   rw [Qv.eq_2, if_neg (by omega)]
   exact ⟨0, rfl⟩
 | succ d ih =>
   intro fuel i h hf
   obtain ⟨g, rfl⟩ : ∃ g, fuel = g + 1 := ⟨fuel - 1, by omega⟩
   obtain ⟨j, hj⟩ := ih g (i + 1) (by omega) (by omega)
   rw [Qv.eq_2, if_pos (by omega), if_pos (by omega), Qth, Option.bind_some]
   rw [show ((i : Int)).toNat = i from rfl]
   unfold allN
   by_cases hb : bt8 s i < 128
   ·rw [Qti (by omega) hb]
    have h0 : 0 <= bt8 s i := by rw [Qn6 (by omega)]; omega
    dsimp only
    rw [show (((bt8 s i).toNat : Nat) : Int) = bt8 s i by omega]
    cases hn : namB (bt8 s i) with
    | true =>
      rw [if_neg (by decide), show (i : Int) + ((1 : Nat) : Int) = ((i + 1 : Nat) : Int) by omega, hj]
      exact ⟨j, rfl⟩
    | false => exact ⟨i, by rw [if_pos (by decide)]; rfl⟩
   ·have := decode_high (s := s) (i := i) (by omega) (by omega)
    rw [Qsj (n := ((Go.Utf8.decode s i).1 : Int)) (by omega), Qsj (n := bt8 s i) (by omega)]
    exact ⟨i, by rw [if_pos (by decide)]; rfl⟩
theorem Q2c (k : Nat) (s : ByteArray) (hl : s.size < 100000000) : ∀ (d fuel i : Nat), s.size = i + d -> d < fuel ->
 Zl k s fuel (i : Int) = some (sumB (allN s d i)) := by
 intro d
 induction d with
 | zero =>
   intro fuel i h hf
   obtain ⟨g, rfl⟩ : ∃ g, fuel = g + 1 := ⟨fuel - 1, by omega⟩
   rw [Zl.eq_2, if_neg (by omega)]; rfl
 | succ d ih =>
   intro fuel i h hf
   obtain ⟨g, rfl⟩ : ∃ g, fuel = g + 1 := ⟨fuel - 1, by omega⟩
   rw [Zl.eq_2, if_pos (by omega), if_pos (by omega), Qmm, Option.bind_some, Qvz, Option.bind_some, Qxl (by omega), ih g (i + 1) (by omega) (by omega)]
   change (if letB (bt8 s i) = true then _ else (if decide (48 <= bt8 s i /\ bt8 s i <= 57) = true then _ else (if bt8 s i = 45 then _ else _))) = some (sumB (namB (bt8 s i) && allN s d (i + 1)))
   unfold namB
   by_cases c1 : letB (bt8 s i) = true
   ·rw [if_pos c1, c1]; rfl
   ·rw [if_neg c1, eq_false_of_ne_true c1]
    by_cases c2 : decide (48 <= bt8 s i /\ bt8 s i <= 57) = true
    ·rw [if_pos c2, c2]; rfl
    ·rw [if_neg c2, eq_false_of_ne_true c2]
     by_cases c3 : bt8 s i = 45
     ·rw [if_pos c3, decide_eq_true c3]; rfl
     ·rw [if_neg c3, decide_eq_false c3]; rfl
def nameB (s : ByteArray) : Bool := match inR 1 12 (s.size : Int) with
 | true => letB (bt8 s 0) && allN s s.size 0
 | false => false
theorem Qqv (k : Nat) (hk : 100 < k) (hk2 : k <= 100000000000000000000) (s : ByteArray) : Qdf k s = some (nameB s) := by
 unfold Qdf nameB
 rw [isw k, Option.bind_some]
 cases h : inR 1 12 (s.size : Int) with
 | false => rfl
 | true =>
   have h := Qs7.1 h
   have h0 : bt8 s 0 = ((s.get! 0).toNat : Int) := Qn6 (by omega)
   have hlt : (s.get! 0).toNat < 256 := (s.get! 0).toNat_lt
   rw [if_pos rfl, if_pos (by omega), Qph, Option.bind_some]
   rw [show IntKind.i32.wrap (bat s 0) = bt8 s 0 by
    show IntKind.i32.wrap (bt8 s 0) = bt8 s 0
    rw [h0]
    unfold IntKind.wrap
    simp [IntKind.signed, IntKind.bits]
    omega]
   cases letB (bt8 s 0) with
   | false => rfl
   | true =>
     rw [if_pos rfl]
     unfold Xo X0 Xz
     obtain ⟨j, hj⟩ := Q0e k s s.size k 0 (by omega) (by omega)
     rw [show Qv k s true k 0 = _ from hj]
     cases allN s s.size 0 with
     | true => rfl
     | false =>
       simp only [Option.bind_some]
       rw [decide_eq_true (show (0 : Int) <= (j : Int) by omega)]; rfl
theorem Qm6 (k : Nat) (hk : 100 < k) (s : ByteArray) : J6 k s = some (nameB s) := by
 unfold J6 nameB
 cases h : inR 1 12 (s.size : Int) with
 | false =>
   have h := Q2v.1 h
   by_cases h0 : (s.size : Int) = 0
   ·rw [if_pos h0]
   ·rw [if_neg h0, if_pos (by omega)]
 | true =>
   have h := Qs7.1 h
   rw [if_neg (by omega), if_neg (by omega), if_pos (by omega), Qmm, Option.bind_some]
   change (if letB (bt8 s 0) = true then _ else _) = _
   cases letB (bt8 s 0) with
   | false => rfl
   | true =>
     rw [if_pos rfl, show Zl k s k 0 = _ from Q2c k s (by omega) s.size k 0 (by omega) (by omega)]
     cases allN s s.size 0 <;> rfl
end Go.Proofs.Ytiekbdbedonnoaa.Vg

import Derived.Test.YtjomicmhnbmhoaaPA
import Derived.Test.YtjomicmhnbmhoaaB2
set_option linter.unusedVariables false
set_option linter.unusedSimpArgs false
namespace Go.Proofs.Ytjomicmhnbmhoaa.Vg
open Go Go.Proofs.Ytjomicmhnbmhoaa.Ev Go.Proofs.Ytjomicmhnbmhoaa.Vv
def letB (n : Int) : Bool := decide (97 <= n /\ n <= 122) || decide (65 <= n /\ n <= 90)
def namB (n : Int) : Bool := letB n || decide (48 <= n /\ n <= 57) || decide (n = 45)
theorem Qnt (k : Nat) (n : Int) : Qd7 k n = some (letB n) := by
 unfold Qd7 letB
 by_cases h1 : 97 <= n <;> by_cases h2 : n <= 122 <;> by_cases h3 : 65 <= n <;> simp [h1, h2, h3]
theorem Qp3 (k : Nat) (n : Int) : Qd7 k n = some (letB n) := by
 unfold Qd7 letB
 by_cases h1 : 97 <= n <;> by_cases h2 : n <= 122 <;> by_cases h3 : 65 <= n <;> simp [h1, h2, h3]
theorem Qxt (k : Nat) (n : Int) : Qbq k n = some (decide (48 <= n /\ n <= 57)) := by
 unfold Qbq
 by_cases h1 : 48 <= n <;> simp [h1]
theorem Qqs (k : Nat) (n : Int) : Qex k n = some (!namB n) := by
 unfold Qex namB
 rw [Qnt, Option.bind_some]
 cases letB n
 ·by_cases h1 : 48 <= n <;> by_cases h2 : n <= 57 <;> simp [h1, h2]
 ·rfl
def bt8 (s : ByteArray) (i : Nat) : Int := bat s (i : Int)
theorem Qqt {s : ByteArray} {i : Nat} (h : i < s.size) : bt8 s i = ((s.get! i).toNat : Int) := by
 unfold bt8 bat
 rw [show ((i : Int)).toNat = i from rfl, getElem?_pos s i h]
 dsimp only
 rw [show s.get! i = s[i] from by cases s; exact getElem!_pos _ i h]
theorem Qwp {s : ByteArray} {i : Nat} (h : i < s.size) (hb : bt8 s i < 128) : Go.Utf8.decode s i = ((bt8 s i).toNat, 1) := by
 rw [Qqt h] at hb ⊢
 unfold Go.Utf8.decode
 dsimp only
 rw [if_pos (by rw [Nat.add_zero]; omega)]
 simp
theorem decode_high {s : ByteArray} {i : Nat} (h : i < s.size) (hb : 128 <= bt8 s i) : 128 <= (Go.Utf8.decode s i).1 := by
 rw [Qqt h] at hb
 have he : 128 <= Go.Utf8.runeError := by decide
 unfold Go.Utf8.decode
 dsimp only
 rw [if_neg (by rw [Nat.add_zero]; omega)]
 split
 ·split
  ·dsimp only; omega
  ·exact he
 ·split
  ·split
   ·rename_i hh; simp only [Bool.and_eq_true, decide_eq_true_eq] at hh; dsimp only; omega
   ·exact he
  ·split
   ·split
    ·rename_i hh; simp only [Bool.and_eq_true, decide_eq_true_eq] at hh; dsimp only; omega
    ·exact he
   ·exact he
theorem Qup {n : Int} (h : 128 <= n) : namB n = false := by
 unfold namB letB
 simp
 omega
def allN (s : ByteArray) : Nat -> Nat -> Bool
 | 0, _ => true
 | d + 1, i => namB (bt8 s i) && allN s d (i + 1)
theorem Qwq (k : Nat) (s : ByteArray) : ∀ (d fuel i : Nat), s.size = i + d -> d < fuel ->
 ∃ j : Nat, Qw k s true fuel (i : Int) = some (match allN s d i with | true => .inr () | false => .inl (j : Int)) := by
 intro d
 induction d with
 | zero =>
   intro fuel i h hf
   obtain ⟨g, rfl⟩ : ∃ g, fuel = g + 1 := ⟨fuel - 1, by omega⟩
   rw [Qw.eq_2, if_neg (by omega)]
   exact ⟨0, rfl⟩
 | succ d ih =>
   intro fuel i h hf
   obtain ⟨g, rfl⟩ : ∃ g, fuel = g + 1 := ⟨fuel - 1, by omega⟩
   obtain ⟨j, hj⟩ := ih g (i + 1) (by omega) (by omega)
   rw [Qw.eq_2, if_pos (by omega), if_pos (by omega), Qqs, Option.bind_some]
   rw [show ((i : Int)).toNat = i from rfl]
   unfold allN
   by_cases hb : bt8 s i < 128
   ·rw [Qwp (by omega) hb]
    have h0 : 0 <= bt8 s i := by rw [Qqt (by omega)]; omega
    dsimp only
    rw [show (((bt8 s i).toNat : Nat) : Int) = bt8 s i by omega]
    cases hn : namB (bt8 s i) with
    | true =>
      rw [if_neg (by decide), show (i : Int) + ((1 : Nat) : Int) = ((i + 1 : Nat) : Int) by omega, hj]
      exact ⟨j, rfl⟩
    | false => exact ⟨i, by rw [if_pos (by decide)]; rfl⟩
   ·have := decode_high (s := s) (i := i) (by omega) (by omega)
    rw [Qup (n := ((Go.Utf8.decode s i).1 : Int)) (by omega), Qup (n := bt8 s i) (by omega)]
    exact ⟨i, by rw [if_pos (by decide)]; rfl⟩
theorem Q5d (k : Nat) (s : ByteArray) (hl : s.size < 100000000) : ∀ (d fuel i : Nat), s.size = i + d -> d < fuel ->
 Zt k s fuel (i : Int) = some (sumB (allN s d i)) := by
 intro d
 induction d with
 | zero =>
   intro fuel i h hf
   obtain ⟨g, rfl⟩ : ∃ g, fuel = g + 1 := ⟨fuel - 1, by omega⟩
   rw [Zt.eq_2, if_neg (by omega)]; rfl
 | succ d ih =>
   intro fuel i h hf
   obtain ⟨g, rfl⟩ : ∃ g, fuel = g + 1 := ⟨fuel - 1, by omega⟩
   rw [Zt.eq_2, if_pos (by omega), if_pos (by omega), Qp3, Option.bind_some, Qxt, Option.bind_some, Js (by omega), ih g (i + 1) (by omega) (by omega)]
   change (if letB (bt8 s i) = true then _ else (if decide (48 <= bt8 s i /\ bt8 s i <= 57) = true then _ else (if bt8 s i = 45 then _ else _))) = some (sumB (namB (bt8 s i) && allN s d (i + 1)))
   unfold namB
   by_cases c1 : letB (bt8 s i) = true
   ·rw [if_pos c1, c1]; rfl
   ·rw [if_neg c1, eq_false_of_ne_true c1]
    by_cases c2 : decide (48 <= bt8 s i /\ bt8 s i <= 57) = true
    ·rw [if_pos c2, c2]; rfl
    ·rw [if_neg c2, eq_false_of_ne_true c2]
     by_cases c3 : bt8 s i = 45
     ·rw [if_pos c3, decide_eq_true c3]; rfl
     ·rw [if_neg c3, decide_eq_false c3]; rfl
def nameB (s : ByteArray) : Bool := match inR 1 12 (s.size : Int) with
 | true => letB (bt8 s 0) && allN s s.size 0
 | false => false
theorem Qwr (k : Nat) (hk : 100 < k) (hk2 : k <= 100000000000000000000) (s : ByteArray) : Qgb k s = some (nameB s) := by
 unfold Qgb nameB
 rw [Qen k _ _ _ (by omega) hk2, Option.bind_some]
 cases h : inR 1 12 (s.size : Int) with
 | false => rfl
 | true =>
   have h := Qkn.1 h
   have h0 : bt8 s 0 = ((s.get! 0).toNat : Int) := Qqt (by omega)
   have hlt : (s.get! 0).toNat < 256 := (s.get! 0).toNat_lt
   rw [if_pos rfl, if_pos (by omega), Qnt, Option.bind_some]
   rw [show IntKind.i32.wrap (bat s 0) = bt8 s 0 by
    show IntKind.i32.wrap (bt8 s 0) = bt8 s 0
    rw [h0]
    unfold IntKind.wrap
    simp [IntKind.signed, IntKind.bits]
    omega]
   cases letB (bt8 s 0) with
   | false => rfl
   | true =>
     rw [if_pos rfl]
     unfold Jf Jt Ju
     obtain ⟨j, hj⟩ := Qwq k s s.size k 0 (by omega) (by omega)
     rw [show Qw k s true k 0 = _ from hj]
     cases allN s s.size 0 with
     | true => rfl
     | false =>
       simp only [Option.bind_some]
       rw [decide_eq_true (show (0 : Int) <= (j : Int) by omega)]; rfl
theorem Q1d (k : Nat) (hk : 100 < k) (s : ByteArray) : Qcc k s = some (nameB s) := by
 unfold Qcc nameB
 cases h : inR 1 12 (s.size : Int) with
 | false =>
   have h := Qws.1 h
   by_cases h0 : (s.size : Int) = 0
   ·rw [if_pos h0]
   ·rw [if_neg h0, if_pos (by omega)]
 | true =>
   have h := Qkn.1 h
   rw [if_neg (by omega), if_neg (by omega), if_pos (by omega), Qp3, Option.bind_some]
   change (if letB (bt8 s 0) = true then _ else _) = _
   cases letB (bt8 s 0) with
   | false => rfl
   | true =>
     rw [if_pos rfl, show Zt k s k 0 = _ from Q5d k s (by omega) s.size k 0 (by omega) (by omega)]
     cases allN s s.size 0 <;> rfl
def mOK (m : Qc) : Bool := inR (-25920000) 25920000 m.Least && (inR (-25920000) 25920000 m.Most && (inR 0 324000 m.Low && (inR 0 324000 m.High && inR 1 1000000 m.Speed)))
def mntE (m : Qc) : Int := match mOK m with
 | true => if m.Most < m.Least then 9 else if m.High < m.Low then 9 else if tabE m.Refraction = 0 then tabE m.Drift else tabE m.Refraction
 | false => 2
theorem Qtl (k : Nat) (hk : 100 < k) (hk2 : k <= 100000000000000000000) (m : Qc) (h1 : m.Refraction.length < k) (h2 : m.Drift.length < k) : Qd8 k m = some (mntE m) := by
 unfold Qd8 mntE mOK
 rw [Qp4 k _ _ _ (by decide) hk hk2, Option.bind_some]
 cases inR (-25920000) 25920000 m.Least with
 | false => rfl
 | true =>
   cases inR (-25920000) 25920000 m.Most with
   | false => rfl
   | true =>
     rw [show (true && true) = true from rfl, if_pos rfl, Qoj k _ _ _ _ hk hk2, Option.bind_some]
     cases inR 0 324000 m.Low with
     | false => rfl
     | true =>
       cases inR 0 324000 m.High with
       | false => rfl
       | true =>
         rw [show (true && true) = true from rfl, if_pos rfl, Qen k _ _ _ hk hk2, Option.bind_some]
         cases inR 1 1000000 m.Speed with
         | false => rfl
         | true =>
           rw [if_pos rfl, Qok k hk hk2 _ h1, Qok k hk hk2 _ h2, Option.bind_some, Option.bind_some]
           show _ = some (if m.Most < m.Least then 9 else if m.High < m.Low then 9 else if tabE m.Refraction = 0 then tabE m.Drift else tabE m.Refraction)
           split
           ·rfl
           ·split
            ·rfl
            ·split <;> rfl
theorem Qp5 (k : Nat) (n : Int) : J6 k n = some (inR 0 324000 n) := by
 unfold J6; rw [Qb9]; rfl
theorem Qwt (k : Nat) (n : Int) : Y4 k n = some (inR 0 10000000 n) := by
 unfold Y4; rw [Qb9]; rfl
theorem Q3h (k : Nat) (n : Int) : Qcd k n = some (inR 0 100000 n) := by
 unfold Qcd; rw [Qb9]; rfl
theorem Qxu (k : Nat) (hk : 100 < k) (hk2 : k <= 100000000000000000000) (m : Qc) (h1 : m.Refraction.length < k) (h2 : m.Drift.length < k) : Ws k m = some (mntE m) := by
 unfold Ws mntE mOK
 simp only [Qb9, Qp5, Option.bind_some, Qr4 k hk hk2 _ h1, Qr4 k hk hk2 _ h2]
 cases inR (-25920000) 25920000 m.Least with
 | false => rfl
 | true =>
   cases inR (-25920000) 25920000 m.Most with
   | false => rfl
   | true =>
     cases inR 0 324000 m.Low with
     | false => rfl
     | true =>
       cases inR 0 324000 m.High with
       | false => rfl
       | true =>
         cases inR 1 1000000 m.Speed with
         | false => rfl
         | true =>
           show (if m.Most < m.Least then some 9 else if m.High < m.Low then some 9 else if tabE m.Refraction = 0 then some (tabE m.Drift) else some (tabE m.Refraction)) = some (if m.Most < m.Least then 9 else if m.High < m.Low then 9 else if tabE m.Refraction = 0 then tabE m.Drift else tabE m.Refraction)
           split
           ·rfl
           ·split
            ·rfl
            ·split <;> rfl
structure Mnt (m : Qc) : Prop where
 lo : -25920000 <= m.Least
 mid : m.Least <= m.Most
 hi : m.Most <= 25920000
 h0 : 0 <= m.Low /\ m.Low <= m.High /\ m.High <= 324000
 sp : 1 <= m.Speed /\ m.Speed <= 1000000
 re : Tab m.Refraction
 dr : Tab m.Drift
theorem Mnt.of {m : Qc} (h : mntE m = 0) : Mnt m := by
 unfold mntE at h
 cases h1 : mOK m with
 | false => rw [h1] at h; cases h
 | true =>
   rw [h1] at h
   have h : (if m.Most < m.Least then (9 : Int) else if m.High < m.Low then 9 else if tabE m.Refraction = 0 then tabE m.Drift else tabE m.Refraction) = 0 := h
   simp only [mOK, Bool.and_eq_true, Qkn] at h1
   split at h
   ·omega
   ·split at h
    ·omega
    ·split at h
     ·exact ⟨by omega, by omega, by omega, by omega, by omega, Tab.of ‹_›, Tab.of h⟩
     ·omega
def tOK (t : Qa) : Bool := inR 0 1295999 t.Azimuth && (inR 0 324000 t.Height && (inR 0 10000000 t.From && (inR 0 10000000 t.To && inR 1 10000 t.Dwell)))
def tgtE (t : Qa) : Int := match nameB t.Name with
 | true => match tOK t with
   | true => if t.To <= t.From then 9 else 0
   | false => 2
 | false => 4
theorem Qr5 (k : Nat) (hk : 100 < k) (hk2 : k <= 100000000000000000000) (t : Qa) : Qdi k t = some (tgtE t) := by
 unfold Qdi tgtE tOK
 rw [Qwr k hk hk2, Option.bind_some]
 cases nameB t.Name with
 | false => rfl
 | true =>
   rw [if_pos rfl, Qen k _ _ _ hk hk2, Option.bind_some]
   cases inR 0 1295999 t.Azimuth with
   | false => rfl
   | true =>
     rw [if_pos rfl, Qen k _ _ _ hk hk2, Option.bind_some]
     cases inR 0 324000 t.Height with
     | false => rfl
     | true =>
       rw [if_pos rfl, Qoj k _ _ _ _ hk hk2, Option.bind_some]
       cases inR 0 10000000 t.From with
       | false => rfl
       | true =>
         cases inR 0 10000000 t.To with
         | false => rfl
         | true =>
           rw [show (true && true) = true from rfl, if_pos rfl, Qen k _ _ _ hk hk2, Option.bind_some]
           cases inR 1 10000 t.Dwell with
           | false => rfl
           | true =>
             show (if t.To <= t.From then some 9 else some 0) = some (if t.To <= t.From then 9 else 0)
             split <;> rfl
theorem Qwu (k : Nat) (hk : 100 < k) (t : Qa) : Y9 k t = some (tgtE t) := by
 unfold Y9 tgtE tOK
 simp only [Q1d k hk, Qb9, Qp5, Qwt, Option.bind_some]
 cases nameB t.Name with
 | false => rfl
 | true =>
   cases inR 0 1295999 t.Azimuth with
   | false => rfl
   | true =>
     cases inR 0 324000 t.Height with
     | false => rfl
     | true =>
       cases inR 0 10000000 t.From with
       | false => rfl
       | true =>
         cases inR 0 10000000 t.To with
         | false => rfl
         | true =>
           cases inR 1 10000 t.Dwell with
           | false => rfl
           | true =>
             show (if t.To <= t.From then some 9 else some 0) = some (if t.To <= t.From then 9 else 0)
             split <;> rfl
structure Tgt (t : Qa) : Prop where
 az : 0 <= t.Azimuth /\ t.Azimuth < 1296000
 he : 0 <= t.Height /\ t.Height <= 324000
 fr : 0 <= t.From /\ t.From < t.To /\ t.To <= 10000000
 dw : 1 <= t.Dwell /\ t.Dwell <= 10000
theorem Tgt.of {t : Qa} (h : tgtE t = 0) : Tgt t := by
 unfold tgtE at h
 cases h0 : nameB t.Name with
 | false => rw [h0] at h; cases h
 | true =>
   rw [h0] at h
   cases h1 : tOK t with
   | false => rw [h1] at h; cases h
   | true =>
     rw [h1] at h
     have h : (if t.To <= t.From then (9 : Int) else 0) = 0 := h
     simp only [tOK, Bool.and_eq_true, Qkn] at h1
     split at h
     ·omega
     ·exact ⟨by omega, by omega, by omega, by omega⟩
def apA (m : Qc) (t : Qa) (d : Int) : Int := (t.Azimuth + val m.Drift d) % 1296000
def apH (m : Qc) (t : Qa) : Int := t.Height + val m.Refraction t.Height
theorem Qxv (m : Qc) (t : Qa) (d : Int) : 0 <= apA m t d /\ apA m t d < 1296000 := by unfold apA; omega
theorem Qps (k : Nat) (hk : 100 < k) {m : Qc} {t : Qa} {d : Int} (hm : Mnt m) (ht : Tgt t) (hd : 0 <= d /\ d <= 100000) : Qfc k m t d = some ⟨apA m t d, apH m t⟩ := by
 unfold Qfc
 have hz := ht.az
 have hh := ht.he
 have v1 := Quq hm.dr d
 have v2 := Quq hm.re t.Height
 rw [Qol k hk hm.dr (by omega), Option.bind_some, Ji (n := t.Azimuth + val m.Drift d) (by omega) (by omega), Qqu k (by omega) (by decide), Option.bind_some, Qol k hk hm.re (by omega), Option.bind_some, Ji (n := t.Height + _) (by omega) (by omega), Ji (n := (t.Azimuth + val m.Drift d) / 1296000 * 1296000) (by omega) (by omega), Ji (by omega) (by omega)]
 unfold apA apH
 rw [show t.Azimuth + val m.Drift d - (t.Azimuth + val m.Drift d) / 1296000 * 1296000 = (t.Azimuth + val m.Drift d) % 1296000 by omega]
theorem Q3i (k : Nat) {n d : Int} (hd : 0 < d) (hd2 : d <= 1000000000000) : Qd9 k n d = some (n % d) := by
 unfold Qd9
 have h1 : n.tmod d < d := Int.tmod_lt_of_pos n hd
 have h2 : -d < n.tmod d := by
  have := Int.lt_tmod_of_pos n hd
  omega
 have h3 := Int.mul_tdiv_add_tmod n d
 rw [if_pos (by omega)]
 have key : ∀ r q : Int, d * q + r = n -> 0 <= r -> r < d -> r = n % d := by
  intro r q e e1 e2
  rw [<- e, Int.add_comm, Int.add_mul_emod_self_left, Int.emod_eq_of_lt e1 e2]
 split
 ·rw [Ji (by omega) (by omega), key (n.tmod d + d) (n.tdiv d - 1) (by rw [Int.mul_sub, Int.mul_one]; omega) (by omega) (by omega)]
 ·rw [key (n.tmod d) (n.tdiv d) h3 (by omega) (by omega)]
theorem Qnu (k : Nat) (hk : 100 < k) {m : Qc} {t : Qa} {d : Int} (hm : Mnt m) (ht : Tgt t) (hd : 0 <= d /\ d <= 100000) : Y5 k m t d = some ⟨apA m t d, apH m t⟩ := by
 unfold Y5
 have hz := ht.az
 have hh := ht.he
 have v1 := Quq hm.dr d
 have v2 := Quq hm.re t.Height
 rw [Qr6 k hk hm.dr (by omega), Option.bind_some, Ji (n := t.Azimuth + val m.Drift d) (by omega) (by omega), Q3i k (by decide) (by decide), Option.bind_some, Qr6 k hk hm.re (by omega), Option.bind_some, Ji (n := t.Height + _) (by omega) (by omega)]
 rfl
def ups (a most : Int) : Nat -> Int -> List Int
 | 0, _ => []
 | d + 1, x => if a + x * 1296000 <= most then x :: ups a most d (x + 1) else []
def flt (a least most : Int) : Nat -> Int -> List Int
 | 0, _ => []
 | d + 1, x => match inR least most (a + x * 1296000) with
   | true => x :: flt a least most d (x + 1)
   | false => flt a least most d (x + 1)
theorem Qur (a least most : Int) : ∀ (d : Nat) (x : Int), most < a + x * 1296000 -> flt a least most d x = []
 | 0, x, _ => rfl
 | d + 1, x, h => by
   simp only [flt]
   rw [show inR least most (a + x * 1296000) = false from Qws.2 (by omega)]
   exact Qur a least most d (x + 1) (by omega)
theorem Qxw (a least most : Int) : ∀ (d : Nat) (x : Int), least <= a + x * 1296000 -> flt a least most d x = ups a most d x
 | 0, x, _ => rfl
 | d + 1, x, h => by
   simp only [flt, ups]
   by_cases c : a + x * 1296000 <= most
   ·rw [if_pos c, show inR least most (a + x * 1296000) = true from Qkn.2 ⟨h, c⟩]
    show x :: _ = _
    rw [Qxw a least most d (x + 1) (by omega)]
   ·rw [if_neg c, show inR least most (a + x * 1296000) = false from Qws.2 (by omega)]
    exact Qur a least most d (x + 1) (by omega)
theorem Qus (a least most : Int) : ∀ (n d : Nat) (x : Int), a + (x + n - 1) * 1296000 < least -> flt a least most (n + d) x = flt a least most d (x + n)
 | 0, d, x, _ => by rw [Nat.zero_add]; congr 1; omega
 | n + 1, d, x, h => by
   rw [show n + 1 + d = (n + d) + 1 by omega]
   simp only [flt]
   rw [show inR least most (a + x * 1296000) = false from Qws.2 (by omega)]
   show flt a least most (n + d) (x + 1) = _
   rw [Qus a least most n d (x + 1) (by omega)]
   congr 1; omega
def trn (m : Qc) (a : Int) : List Int := flt a m.Least m.Most 43 (-21)
theorem Q3j {m : Qc} (hm : Mnt m) {a : Int} (ha : 0 <= a /\ a < 1296000) : trn m a = ups a m.Most (22 - -((a - m.Least) / 1296000)).toNat (-((a - m.Least) / 1296000)) := by
 have h1 := hm.lo
 have h2 := hm.hi
 have h3 := hm.mid
 obtain ⟨x, hx⟩ : ∃ x : Int, x = -((a - m.Least) / 1296000) := ⟨_, rfl⟩
 obtain ⟨n, hn⟩ : ∃ n : Nat, (n : Int) = x + 21 := ⟨(x + 21).toNat, by omega⟩
 rw [<- hx]
 unfold trn
 rw [show 43 = n + (22 - x).toNat by omega, Qus a m.Least m.Most n _ (-21) (by omega), show (-21 : Int) + n = x by omega]
 exact Qxw a m.Least m.Most _ x (by omega)
theorem Q5e (k : Nat) (m : Qc) (t : Qa) (p : A26) (hm : Mnt m) (ha : 0 <= p.e0 /\ p.e0 < 1296000) : ∀ (d fuel : Nat) (y6 y7 : List Int) (x : Int), x + d = 22 -> -30 <= x -> d < fuel -> y6.length + d <= 1000 -> y7.length + d <= 1000 ->
 Wn k m t p fuel y6 y7 x = some (y6 ++ ups p.e0 m.Most d x, y7 ++ (ups p.e0 m.Most d x).map fun x => p.e0 + x * 1296000) := by
 have h2 := hm.hi
 intro d
 induction d with
 | zero =>
   intro fuel y6 y7 x hx hx2 hf h6 h7
   obtain ⟨g, rfl⟩ : ∃ g, fuel = g + 1 := ⟨fuel - 1, by omega⟩
   rw [Wn.eq_2, Ji (n := x * 1296000) (by omega) (by omega), Ji (n := p.e0 + _) (by omega) (by omega), if_neg (by omega)]
   simp [ups]
 | succ d ih =>
   intro fuel y6 y7 x hx hx2 hf h6 h7
   obtain ⟨g, rfl⟩ : ∃ g, fuel = g + 1 := ⟨fuel - 1, by omega⟩
   rw [Wn.eq_2, Ji (n := x * 1296000) (by omega) (by omega), Ji (n := p.e0 + _) (by omega) (by omega)]
   simp only [ups]
   by_cases c : p.e0 + x * 1296000 <= m.Most
   ·rw [if_pos c, if_pos (by simp; omega), if_pos (by simp; omega), Ji (n := x + 1) (by omega) (by omega), ih g _ _ (x + 1) (by omega) (by omega) (by omega) (by simp; omega) (by simp; omega), if_pos c]
    simp
   ·rw [if_neg c, if_neg c]; simp
theorem Q3k (k : Nat) (m : Qc) (t : Qa) (p : A26) (ha : 0 <= p.e0 /\ p.e0 < 1296000) : ∀ (d fuel : Nat) (y : List Int) (x : Int), x + d = 22 -> -30 <= x -> d < fuel -> y.length + d <= 1000 ->
 Xl k m t p fuel y x = some (y ++ flt p.e0 m.Least m.Most d x) := by
 intro d
 induction d with
 | zero =>
   intro fuel y x hx hx2 hf h6
   obtain ⟨g, rfl⟩ : ∃ g, fuel = g + 1 := ⟨fuel - 1, by omega⟩
   rw [Xl.eq_2, if_neg (by omega)]
   simp [flt]
 | succ d ih =>
   intro fuel y x hx hx2 hf h6
   obtain ⟨g, rfl⟩ : ∃ g, fuel = g + 1 := ⟨fuel - 1, by omega⟩
   rw [Xl.eq_2, if_pos (by omega), Ji (n := x * 1296000) (by omega) (by omega), Ji (n := p.e0 + _) (by omega) (by omega), Qb9, Option.bind_some, Ji (n := x + 1) (by omega) (by omega)]
   simp only [flt]
   cases inR m.Least m.Most (p.e0 + x * 1296000) with
   | true =>
     rw [if_pos rfl, if_pos (by simp; omega), ih g _ (x + 1) (by omega) (by omega) (by omega) (by simp; omega)]
     simp
   | false =>
     rw [if_neg (by decide), ih g _ (x + 1) (by omega) (by omega) (by omega) (by omega)]
def stpE (m : Qc) (t : Qa) (d : Int) : Int := match inR m.Low m.High (apH m t) with
 | true => if (trn m (apA m t d)).length = 0 then 12 else 0
 | false => 26
def posL (m : Qc) (t : Qa) (d : Int) : List Int := (trn m (apA m t d)).map fun x => apA m t d + x * 1296000
def Q5f : Jj := ⟨⟨ByteArray.empty, 0, 0, 0, 0, 0⟩, [], []⟩
theorem Qwv (k : Nat) (hk : 100 < k) (hk2 : k <= 100000000000000000000) {m : Qc} {t : Qa} {d : Int} (hm : Mnt m) (ht : Tgt t) (hd : 0 <= d /\ d <= 100000) :
 Qgc k m t d = some (if stpE m t d = 0 then (⟨t, trn m (apA m t d), posL m t d⟩, 0) else (Q5f, stpE m t d)) := by
 unfold Qgc stpE
 rw [Qps k hk hm ht hd, Option.bind_some, Qen k _ _ _ hk hk2, Option.bind_some]
 cases inR m.Low m.High (apH m t) with
 | false => rfl
 | true =>
   have h1 := hm.lo
   have h2 := hm.hi
   have h3 := hm.mid
   have ha := Qxv m t d
   unfold Qml
   dsimp only
   rw [if_pos rfl, Ji (n := m.Least - _) (by omega) (by omega), Ji (n := 0 - _) (by omega) (by omega), Qqu k (by omega) (by decide), Option.bind_some, Option.bind_some, Ji (by omega) (by omega)]
   have e : (0 : Int) - (0 - (m.Least - apA m t d)) / 1296000 = -((apA m t d - m.Least) / 1296000) := by
    rw [show (0 : Int) - (m.Least - apA m t d) = apA m t d - m.Least by omega]; omega
   rw [e, Q5e k m t ⟨apA m t d, apH m t⟩ hm ha (22 - -((apA m t d - m.Least) / 1296000)).toNat k [] [] _ (by omega) (by omega) (by omega) (by simp; omega) (by simp; omega), Option.bind_some]
   simp only [List.nil_append]
   rw [<- Q3j hm ha]
   by_cases c : (trn m (apA m t d)).length = 0
   ·rw [if_pos (by omega)]
    simp only [if_pos c]
    rfl
   ·rw [if_neg (by omega)]
    simp only [if_neg c]
    rfl
theorem Qko (k : Nat) (hk : 100 < k) {m : Qc} {t : Qa} {d : Int} (hm : Mnt m) (ht : Tgt t) (hd : 0 <= d /\ d <= 100000) :
 Jv k m t d = some (if stpE m t d = 0 then (trn m (apA m t d), 0) else ([], stpE m t d)) := by
 unfold Jv stpE
 rw [Qnu k hk hm ht hd, Option.bind_some, Qb9, Option.bind_some]
 cases inR m.Low m.High (apH m t) with
 | false => rfl
 | true =>
   dsimp only
   rw [if_pos rfl, Q3k k m t ⟨apA m t d, apH m t⟩ (Qxv m t d) 43 k [] (-21) (by decide) (by decide) (by omega) (by decide), Option.bind_some]
   simp only [List.nil_append]
   rw [show flt (apA m t d) m.Least m.Most 43 (-21) = trn m (apA m t d) from rfl]
   by_cases c : (trn m (apA m t d)).length = 0
   ·rw [if_pos (by omega)]
    simp only [if_pos c]
    rfl
   ·rw [if_neg (by omega)]
    simp only [if_neg c]
    rfl
def Qp6 (m : Qc) : Bool := Qww m.Refraction && Qww m.Drift
theorem Qxx (k : Nat) (m : Qc) : Qce k m = some (Qp6 m) := by
 unfold Qce Qp6
 rw [Qut, Qut]
 cases Qww m.Refraction <;> rfl
theorem Qxy {m : Qc} (h : Qp6 m = true) : m.Refraction.length <= 43 /\ m.Drift.length <= 43 := by
 unfold Qp6 Qww at h
 rw [Bool.and_eq_true, decide_eq_true_iff, decide_eq_true_iff] at h
 omega
theorem Qwx (k : Nat) (m : Qc) (h1 : m.Refraction.length <= 43) (h2 : m.Drift.length <= 43) : Qcf k m = some m := by
 unfold Qcf
 rw [Qp7 k _ (by omega), Qp7 k _ (by omega)]; rfl
theorem Qxz (a least most : Int) : ∀ (d : Nat) (x : Int), (flt a least most d x).length <= d
 | 0, x => Nat.le_refl _
 | d + 1, x => by
   simp only [flt]
   have := Qxz a least most d (x + 1)
   split
   ·simp only [List.length_cons]; omega
   ·omega
theorem Qni (m : Qc) (a : Int) : (trn m a).length <= 43 := Qxz _ _ _ _ _
end Go.Proofs.Ytjomicmhnbmhoaa.Vg

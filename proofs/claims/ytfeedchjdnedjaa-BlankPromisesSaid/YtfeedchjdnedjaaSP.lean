import Derived.Test.YtfeedchjdnedjaaS1
import Derived.Test.YtfeedchjdnedjaaWb
import Derived.Test.YtfeedchjdnedjaaS3
import Derived.Test.YtfeedchjdnedjaaT2
section
set_option linter.unusedVariables false
set_option linter.unusedSimpArgs false
namespace Go.Proofs.Ytfeedchjdnedjaa.Vg
open Go Go.Proofs.Ytfeedchjdnedjaa.Ev Go.Proofs.Ytfeedchjdnedjaa.Vv
theorem Qo3 {n : Int} (h1 : -9223372036854775808 <= n) (h2 : n <= 9223372036854775807) : w64 n = n := by
 unfold w64 IntKind.wrap
 simp [IntKind.signed, IntKind.bits]
 omega
theorem Qu7 {i : Nat} (h : i < 1000000000000) : w64 ((i : Int) + 1) = ((i + 1 : Nat) : Int) := by
 rw [Qo3 (by omega) (by omega)]; omega
def sumB (b : Bool) : Sum Unit Unit := match b with | true => .inr () | false => .inl ()
def inR (a b n : Int) : Bool := decide (a <= n /\ n <= b)
theorem Qsh {a b n : Int} : inR a b n = true ↔ a <= n /\ n <= b := by unfold inR; exact decide_eq_true_iff
theorem Qz1 {a b n : Int} : inR a b n = false ↔ ¬(a <= n /\ n <= b) := by unfold inR; exact decide_eq_false_iff_not
theorem isw (k : Nat) (a b c : Int) : W9 k a b c = some (inR b c a) := by
 unfold W9 inR
 by_cases h1 : b <= a
 ·rw [if_pos h1]; congr 1; by_cases h2 : a <= c
  ·rw [decide_eq_true h2, decide_eq_true ⟨h1, h2⟩]
  ·rw [decide_eq_false h2, decide_eq_false (fun h => h2 h.2)]
 ·rw [if_neg h1, decide_eq_false (fun h => h1 h.1)]
theorem wib (k : Nat) (a b c : Int) : Xw k a b c = some (inR b c a) := by
 unfold Xw inR
 by_cases h1 : b <= a
 ·rw [if_pos h1]; congr 1; by_cases h2 : a <= c
  ·rw [decide_eq_true h2, decide_eq_true ⟨h1, h2⟩]
  ·rw [decide_eq_false h2, decide_eq_false (fun h => h2 h.2)]
 ·rw [if_neg h1, decide_eq_false (fun h => h1 h.1)]
def letB (n : Int) : Bool := decide (97 <= n /\ n <= 122) || decide (65 <= n /\ n <= 90)
def namB (n : Int) : Bool := letB n || decide (48 <= n /\ n <= 57) || decide (n = 45)
theorem Qm4 (k : Nat) (n : Int) : Qaa k n = some (letB n) := by
 unfold Qaa letB
 by_cases h1 : 97 <= n <;> by_cases h2 : n <= 122 <;> by_cases h3 : 65 <= n <;> simp [h1, h2, h3]
theorem Qkb (k : Nat) (n : Int) : Xx k n = some (letB n) := by
 unfold Xx letB
 by_cases h1 : 97 <= n <;> by_cases h2 : n <= 122 <;> by_cases h3 : 65 <= n <;> simp [h1, h2, h3]
theorem Qtn (k : Nat) (n : Int) : Yd k n = some (decide (48 <= n /\ n <= 57)) := by
 unfold Yd
 by_cases h1 : 48 <= n <;> simp [h1]
theorem Qq7 (k : Nat) (n : Int) : Qam k n = some (!namB n) := by
 unfold Qam namB
 rw [Qm4, Option.bind_some]
 cases letB n
 ·by_cases h1 : 48 <= n <;> by_cases h2 : n <= 57 <;> simp [h1, h2]
 ·rfl
def bt8 (s : ByteArray) (i : Nat) : Int := bat s (i : Int)
theorem Qlf {s : ByteArray} {i : Nat} (h : i < s.size) : bt8 s i = ((s.get! i).toNat : Int) := by
 unfold bt8 bat
 rw [show ((i : Int)).toNat = i from rfl, getElem?_pos s i h]
 dsimp only
 rw [show s.get! i = s[i] from by cases s; exact getElem!_pos _ i h]
theorem Qq8 {s : ByteArray} {i : Nat} (h : i < s.size) (hb : bt8 s i < 128) : Go.Utf8.decode s i = ((bt8 s i).toNat, 1) := by
 rw [Qlf h] at hb ⊢
 unfold Go.Utf8.decode
 dsimp only
 rw [if_pos (by rw [Nat.add_zero]; omega)]
 simp
theorem decode_high {s : ByteArray} {i : Nat} (h : i < s.size) (hb : 128 <= bt8 s i) : 128 <= (Go.Utf8.decode s i).1 := by
 rw [Qlf h] at hb
 have he : 128 <= Go.Utf8.runeError := by decide
 unfold Go.Utf8.decode
 dsimp only
 rw [if_neg (by rw [Nat.add_zero]; omega)]
 split
 ·split
  ·dsimp only; omega
  ·exact he
 ·split
  ·split
   ·rename_i hh; simp only [Bool.and_eq_true, decide_eq_true_eq] at hh; dsimp only; omega
   ·exact he
  ·split
   ·split
    ·rename_i hh; simp only [Bool.and_eq_true, decide_eq_true_eq] at hh; dsimp only; omega
    ·exact he
   ·exact he
theorem Qpy {n : Int} (h : 128 <= n) : namB n = false := by
 unfold namB letB
 simp
 omega
def allN (s : ByteArray) : Nat -> Nat -> Bool
 | 0, _ => true
 | d + 1, i => namB (bt8 s i) && allN s d (i + 1)
theorem Qxs (k : Nat) (s : ByteArray) : ∀ (d fuel i : Nat), s.size = i + d -> d < fuel ->
 ∃ j : Nat, Qn k s true fuel (i : Int) = some (match allN s d i with | true => .inr () | false => .inl (j : Int)) := by
 intro d
 induction d with
 | zero =>
   intro fuel i h hf
   obtain ⟨g, rfl⟩ : ∃ g, fuel = g + 1 := ⟨fuel - 1, by omega⟩
   rw [Qn.eq_2, if_neg (by omega)]
   exact ⟨0, rfl⟩
 | succ d ih =>
   intro fuel i h hf
   obtain ⟨g, rfl⟩ : ∃ g, fuel = g + 1 := ⟨fuel - 1, by omega⟩
   obtain ⟨j, hj⟩ := ih g (i + 1) (by omega) (by omega)
   rw [Qn.eq_2, if_pos (by omega), if_pos (by omega), Qq7, Option.bind_some]
   rw [show ((i : Int)).toNat = i from rfl]
   unfold allN
   by_cases hb : bt8 s i < 128
   ·rw [Qq8 (by omega) hb]
    have h0 : 0 <= bt8 s i := by rw [Qlf (by omega)]; omega
    dsimp only
    rw [show (((bt8 s i).toNat : Nat) : Int) = bt8 s i by omega]
    cases hn : namB (bt8 s i) with
    | true =>
      rw [if_neg (by decide), show (i : Int) + ((1 : Nat) : Int) = ((i + 1 : Nat) : Int) by omega, hj]
      exact ⟨j, rfl⟩
    | false => exact ⟨i, by rw [if_pos (by decide)]; rfl⟩
   ·have := decode_high (s := s) (i := i) (by omega) (by omega)
    rw [Qpy (n := ((Go.Utf8.decode s i).1 : Int)) (by omega), Qpy (n := bt8 s i) (by omega)]
    exact ⟨i, by rw [if_pos (by decide)]; rfl⟩
theorem Qy8 (k : Nat) (s : ByteArray) (hl : s.size < 100000000) : ∀ (d fuel i : Nat), s.size = i + d -> d < fuel ->
 Q8 k s fuel (i : Int) = some (sumB (allN s d i)) := by
 intro d
 induction d with
 | zero =>
   intro fuel i h hf
   obtain ⟨g, rfl⟩ : ∃ g, fuel = g + 1 := ⟨fuel - 1, by omega⟩
   rw [Q8.eq_2, if_neg (by omega)]; rfl
 | succ d ih =>
   intro fuel i h hf
   obtain ⟨g, rfl⟩ : ∃ g, fuel = g + 1 := ⟨fuel - 1, by omega⟩
   rw [Q8.eq_2, if_pos (by omega), if_pos (by omega), Qkb, Option.bind_some, Qtn, Option.bind_some, Qu7 (by omega), ih g (i + 1) (by omega) (by omega)]
   change (if letB (bt8 s i) = true then _ else (if decide (48 <= bt8 s i /\ bt8 s i <= 57) = true then _ else (if bt8 s i = 45 then _ else _))) = some (sumB (namB (bt8 s i) && allN s d (i + 1)))
   unfold namB
   by_cases c1 : letB (bt8 s i) = true
   ·rw [if_pos c1, c1]; rfl
   ·rw [if_neg c1, eq_false_of_ne_true c1]
    by_cases c2 : decide (48 <= bt8 s i /\ bt8 s i <= 57) = true
    ·rw [if_pos c2, c2]; rfl
    ·rw [if_neg c2, eq_false_of_ne_true c2]
     by_cases c3 : bt8 s i = 45
     ·rw [if_pos c3, decide_eq_true c3]; rfl
     ·rw [if_neg c3, decide_eq_false c3]; rfl
def nameB (s : ByteArray) : Bool := match inR 1 12 (s.size : Int) with
 | true => letB (bt8 s 0) && allN s s.size 0
 | false => false
theorem Qse (k : Nat) (hk : 100 < k) (hk2 : k <= 100000000000000000000) (s : ByteArray) : Ym k s = some (nameB s) := by
 unfold Ym nameB
 rw [isw k, Option.bind_some]
 cases h : inR 1 12 (s.size : Int) with
 | false => rfl
 | true =>
   have h := Qsh.1 h
   have h0 : bt8 s 0 = ((s.get! 0).toNat : Int) := Qlf (by omega)
   have hlt : (s.get! 0).toNat < 256 := (s.get! 0).toNat_lt
   rw [if_pos rfl, if_pos (by omega), Qm4, Option.bind_some]
   rw [show IntKind.i32.wrap (bat s 0) = bt8 s 0 by
    show IntKind.i32.wrap (bt8 s 0) = bt8 s 0
    rw [h0]
    unfold IntKind.wrap
    simp [IntKind.signed, IntKind.bits]
    omega]
   cases letB (bt8 s 0) with
   | false => rfl
   | true =>
     rw [if_pos rfl]
     unfold Z7 Xb Xa
     obtain ⟨j, hj⟩ := Qxs k s s.size k 0 (by omega) (by omega)
     rw [show Qn k s true k 0 = _ from hj]
     cases allN s s.size 0 with
     | true => rfl
     | false =>
       simp only [Option.bind_some]
       rw [decide_eq_true (show (0 : Int) <= (j : Int) by omega)]; rfl
theorem Qhz (k : Nat) (hk : 100 < k) (s : ByteArray) : Xk k s = some (nameB s) := by
 unfold Xk nameB
 cases h : inR 1 12 (s.size : Int) with
 | false =>
   have h := Qz1.1 h
   by_cases h0 : (s.size : Int) = 0
   ·rw [if_pos h0]
   ·rw [if_neg h0, if_pos (by omega)]
 | true =>
   have h := Qsh.1 h
   rw [if_neg (by omega), if_neg (by omega), if_pos (by omega), Qkb, Option.bind_some]
   change (if letB (bt8 s 0) = true then _ else _) = _
   cases letB (bt8 s 0) with
   | false => rfl
   | true =>
     rw [if_pos rfl, show Q8 k s k 0 = _ from Qy8 k s (by omega) s.size k 0 (by omega) (by omega)]
     cases allN s s.size 0 <;> rfl
end Go.Proofs.Ytfeedchjdnedjaa.Vg
end

section
set_option linter.unusedVariables false
set_option linter.unusedSimpArgs false
namespace Go.Proofs.Ytfeedchjdnedjaa.Vg
open Go Go.Proofs.Ytfeedchjdnedjaa.Ev Go.Proofs.Ytfeedchjdnedjaa.Vv
theorem Ws {i : Nat} (h : i < 9223372036854775807) : w64 ((i : Int) + 1) = ((i + 1 : Nat) : Int) := by
 rw [Qo3 (by omega) (by omega)]; omega
theorem Qo4 {α : Type} {y : List α} {i : Nat} (h : i < y.length) (d : α) : y.drop i = y.getD i d :: y.drop (i + 1) := by
 rw [List.drop_eq_getElem_cons h, List.getD_eq_getElem?_getD, List.getElem?_eq_getElem h]; rfl
theorem Qd5 {V : Type} (k n : ByteArray) (v : V) : ∀ l : List (ByteArray × V), mhas (mset l k v) n = (decide (n = k) || mhas l n)
 | [] => by simp [mset, mhas]
 | e :: l => by
   simp only [mset]
   by_cases h : k = e.1
   ·rw [decide_eq_true h]
    simp only [mhas]
    subst h
    by_cases h2 : n = e.1
    ·simp [h2]
    ·simp [h2]
   ·rw [decide_eq_false h]
    simp only [mhas]
    rw [Qd5 k n v l]
    cases decide (n = e.1) <;> cases decide (n = k) <;> cases mhas l n <;> rfl
theorem Qf4 {V : Type} [Inhabited V] (k n : ByteArray) (v : V) : ∀ l : List (ByteArray × V), mget (mset l k v) n = match decide (n = k) with | true => v | false => mget l n
 | [] => by simp only [mset, mget]; cases decide (n = k) <;> rfl
 | e :: l => by
   simp only [mset]
   by_cases h : k = e.1
   ·rw [decide_eq_true h]
    simp only [mget]
    subst h
    cases decide (n = e.1) <;> rfl
   ·rw [decide_eq_false h]
    simp only [mget]
    rw [Qf4 k n v l]
    by_cases h2 : n = e.1
    ·rw [decide_eq_true h2, decide_eq_false (show ¬ n = k by rw [h2]; exact fun h3 => h h3.symm)]
    ·rw [decide_eq_false h2]
theorem Qsc (k : Nat) (b : Bool) (e : Int) : Xl k b e = some (match b with | true => 0 | false => e) := by
 unfold Xl
 cases b <;> rfl
theorem Qus (k : Nat) (a b c : Int) : Xu k a b c = some (inR b c a, 2) := by
 unfold Xu Zh
 rw [isw]; rfl
theorem Qys (k : Nat) (a b c d e : Bool) : Qg k ((a, 4), (b, 5), (c, 2), (d, 2), (e, 2)) = some (match a with | false => 4 | true => match b with | false => 5 | true => match c && d && e with | false => 2 | true => 0) := by
 unfold Qg
 simp only [Qsc, Option.bind_some]
 cases a <;> cases b <;> cases c <;> cases d <;> cases e <;> rfl
def Wl (l : List Qd) (i : Nat) (n : ByteArray) : Bool := (l.take i).any fun g => decide (n = g.Name)
def okB (b : Qd) : Bool := inR 1 1000 b.Diameter && inR 1 500 b.Thick && inR 0 1000 b.Count
def batE (l : List Qd) (i : Nat) : Int := match nameB (l.getD i default).Name with
 | false => 4
 | true => match !(Wl l i (l.getD i default).Name) with
   | false => 5
   | true => match okB (l.getD i default) with
     | false => 2
     | true => 0
def chkB (l : List Qd) : Nat -> Nat -> Int
 | 0, _ => 0
 | d + 1, i => match decide (batE l i = 0) with | true => chkB l d (i + 1) | false => batE l i
def errS {A : Type} (e : Int) (a : A) : Sum (Int × A) A := match decide (e = 0) with | true => .inr a | false => .inl (e, a)
def errI (e : Int) : Sum Int Unit := match decide (e = 0) with | true => .inr () | false => .inl e
theorem Qe9 (l : List Qd) (i : Nat) (hi : i < l.length) (n : ByteArray) : Wl l (i + 1) n = (decide (n = (l.getD i default).Name) || Wl l i n) := by
 unfold Wl
 rw [List.take_add_one, List.getElem?_eq_getElem hi, List.any_append]
 rw [List.getD_eq_getElem?_getD, List.getElem?_eq_getElem hi]
 simp [Bool.or_comm]
theorem Qsd (k : Nat) (hk : 1000 < k) (hk2 : k <= 100000000000000000000) (l : List Qd) (hl : l.length <= 43) (r1 : Bool × Int) (r2 : Int) : ∀ (d fuel i : Nat) (y : List (ByteArray × Bool)), l.length = i + d -> d < fuel -> (∀ n, mhas y n = Wl l i n) -> (∀ n, mhas y n = true -> mget y n = true) ->
 ∃ z, Qu k l r1 r2 fuel y (i : Int) = some (errS (chkB l d i) z) := by
 intro d
 induction d with
 | zero =>
   intro fuel i y h hf _ _
   obtain ⟨g, rfl⟩ : ∃ g, fuel = g + 1 := ⟨fuel - 1, by omega⟩
   refine ⟨y, ?_⟩
   rw [Qu.eq_2, if_neg (by omega)]; rfl
 | succ d ih =>
   intro fuel i y h hf hy hy2
   obtain ⟨g, rfl⟩ : ∃ g, fuel = g + 1 := ⟨fuel - 1, by omega⟩
   have hi : i < l.length := by omega
   obtain ⟨z, hz⟩ := ih g (i + 1) (mset y (l.getD i default).Name true) (by omega) (by omega) (fun n => by rw [Qd5, Qe9 l i hi, hy]) (fun n hn => by
    rw [Qd5] at hn
    rw [Qf4]
    cases hd : decide (n = (l.getD i default).Name) with
    | true => rfl
    | false => rw [hd, Bool.false_or] at hn; exact hy2 n hn)
   have key : ∀ b : Bool, ((Ym k (l.getD i default).Name).bind fun r1 => (Zh k r1 4).bind fun r2 => (Zh k b 5).bind fun r3 => (Xu k (l.getD i default).Diameter 1 1000).bind fun r4 => (Xu k (l.getD i default).Thick 1 500).bind fun r5 => (Xu k (l.getD i default).Count 0 1000).bind fun r6 => (Qg k (r2, r3, r4, r5, r6)).bind fun r => if r = 0 then some (errS (chkB l d (i + 1)) z) else some (.inl (r, mset y (l.getD i default).Name true))) = (match nameB (l.getD i default).Name with | false => some (.inl (4, mset y (l.getD i default).Name true)) | true => match b with | false => some (.inl (5, mset y (l.getD i default).Name true)) | true => match okB (l.getD i default) with | false => some (.inl (2, mset y (l.getD i default).Name true)) | true => some (errS (chkB l d (i + 1)) z)) := by
    intro b
    unfold Zh
    simp only [Qse k (show 100 < k by omega) hk2, Qus, Qys, Option.bind_some]
    unfold okB
    cases nameB (l.getD i default).Name with
    | false => rfl
    | true =>
      cases b with
      | false => rfl
      | true => cases (inR 1 1000 (l.getD i default).Diameter && inR 1 500 (l.getD i default).Thick && inR 0 1000 (l.getD i default).Count) <;> rfl
   rw [Qu.eq_2, if_pos (by omega), if_pos (by omega), Int.toNat_natCast, Ws (by omega), hz, key, key, hy]
   have hg := hy2 (l.getD i default).Name
   rw [hy] at hg
   rcases Bool.eq_false_or_eq_true (Wl l i (l.getD i default).Name) with hs | hs
   ·rcases Bool.eq_false_or_eq_true (nameB (l.getD i default).Name) with hn | hn
    ·have hb : batE l i = 5 := by unfold batE; simp only [hn, hs, Bool.not_true]
     simp only [chkB, hb, hs, hn, hg hs, if_true, Bool.not_true]
     exact ⟨_, rfl⟩
    ·have hb : batE l i = 4 := by unfold batE; simp only [hn]
     simp only [chkB, hb, hs, hn, if_true]
     exact ⟨_, rfl⟩
   ·rcases Bool.eq_false_or_eq_true (nameB (l.getD i default).Name) with hn | hn
    ·rcases Bool.eq_false_or_eq_true (okB (l.getD i default)) with ho | ho
     ·have hb : batE l i = 0 := by unfold batE; simp only [hn, hs, ho, Bool.not_false]
      simp only [chkB, hb, hs, hn, ho, Bool.not_false, Bool.false_eq_true, if_false]
      exact ⟨z, rfl⟩
     ·have hb : batE l i = 2 := by unfold batE; simp only [hn, hs, ho, Bool.not_false]
      simp only [chkB, hb, hs, hn, ho, Bool.not_false, Bool.false_eq_true, if_false]
      exact ⟨_, rfl⟩
    ·have hb : batE l i = 4 := by unfold batE; simp only [hn]
     simp only [chkB, hb, hs, hn, Bool.not_false, Bool.false_eq_true, if_false]
     exact ⟨_, rfl⟩
def batS (l : List Qd) : Int := match decide (l.length <= 40) with | false => 8 | true => chkB l l.length 0
theorem Qjh (k : Nat) (hk : 1000 < k) (hk2 : k <= 100000000000000000000) (l : List Qd) (hl : l.length <= 43) : Y4 k l = some (batS l) := by
 unfold Y4 Zh batS
 rw [show decide ((l.length : Int) <= 40) = decide (l.length <= 40) by congr 1; simp only [eq_iff_iff]; omega, Option.bind_some, Qsc, Option.bind_some]
 cases decide (l.length <= 40) with
 | false => rfl
 | true =>
   obtain ⟨z, hz⟩ := Qsd k hk hk2 l hl (true, 8) 0 l.length k 0 [] (by omega) (by omega) (fun n => by simp [mhas, Wl]) (fun n h => by cases h)
   dsimp only
   rw [if_pos rfl, show Qu k l (true, 8) 0 k [] 0 = _ from hz, Option.bind_some]
   unfold errS
   cases h1 : decide (chkB l l.length 0 = 0) with
   | true => rw [of_decide_eq_true h1]
   | false => dsimp only; rw [if_neg (of_decide_eq_false h1)]
theorem Qwy (k : Nat) (l : List Qd) (hl : l.length <= 43) (n : ByteArray) : ∀ (d fuel i : Nat), l.length = i + d -> d < fuel -> Wl l i n = false ->
 (∃ j : Nat, Q7 k l n fuel (i : Int) = some (.inl (j : Int)) /\ i <= j /\ j < l.length /\ Wl l j n = false /\ (l.getD j default).Name = n) \/ (Q7 k l n fuel (i : Int) = some (.inr ()) /\ Wl l l.length n = false) := by
 intro d
 induction d with
 | zero =>
   intro fuel i h hf hs
   obtain ⟨g, rfl⟩ : ∃ g, fuel = g + 1 := ⟨fuel - 1, by omega⟩
   right
   obtain rfl : i = l.length := by omega
   refine ⟨?_, hs⟩
   rw [Q7.eq_2, if_neg (by omega)]
 | succ d ih =>
   intro fuel i h hf hs
   obtain ⟨g, rfl⟩ : ∃ g, fuel = g + 1 := ⟨fuel - 1, by omega⟩
   have hi : i < l.length := by omega
   rw [Q7.eq_2, if_pos (by omega), if_pos (by omega), Int.toNat_natCast, Ws (by omega)]
   by_cases c : (l.getD i default).Name = n
   ·rw [if_pos c]
    exact .inl ⟨i, rfl, Nat.le_refl _, hi, hs, c⟩
   ·rw [if_neg c]
    have hs' : Wl l (i + 1) n = false := by rw [Qe9 l i hi, hs, decide_eq_false (fun h => c h.symm)]; rfl
    rcases ih g (i + 1) (by omega) (by omega) hs' with ⟨j, e1, e2, e3, e4, e5⟩ | e
    ·exact .inl ⟨j, e1, by omega, e3, e4, e5⟩
    ·exact .inr e
theorem Qmc (k : Nat) (hk : 100 < k) (l : List Qd) (hl : l.length <= 43) (n : ByteArray) : (∃ j : Nat, Z9 k l n = some (j : Int) /\ j < l.length /\ Wl l j n = false /\ (l.getD j default).Name = n) \/ (Z9 k l n = some (-1) /\ Wl l l.length n = false) := by
 unfold Z9
 rcases Qwy k l hl n l.length k 0 (by omega) (by omega) (by simp [Wl]) with ⟨j, e1, e2, e3, e4, e5⟩ | ⟨e1, e2⟩
 ·exact .inl ⟨j, by rw [show Q7 k l n k 0 = _ from e1]; rfl, e3, e4, e5⟩
 ·exact .inr ⟨by rw [show Q7 k l n k 0 = _ from e1]; rfl, e2⟩
theorem Qdp (l : List Qd) (n : ByteArray) {i j : Nat} (h : i <= j) (hs : Wl l i n = true) : Wl l j n = true := by
 unfold Wl at hs ⊢
 rw [List.any_eq_true] at hs ⊢
 obtain ⟨x, hx, he⟩ := hs
 exact ⟨x, (List.take_sublist_take_left h).subset hx, he⟩
theorem Qhy (l : List Qd) (n : ByteArray) {i : Nat} (hi : i < l.length) (h : (l.getD i default).Name = n) : Wl l (i + 1) n = true := by
 rw [Qe9 l i hi, decide_eq_true h.symm]; rfl
theorem Qwz (k : Nat) (hk : 100 < k) (l : List Qd) (hl : l.length <= 43) (i : Nat) (hi : i < l.length) : ∃ j : Int, Z9 k l (l.getD i default).Name = some j /\ (j < (i : Int) ↔ Wl l i (l.getD i default).Name = true) := by
 rcases Qmc k hk l hl (l.getD i default).Name with ⟨j, e1, e3, e4, e5⟩ | ⟨e1, e2⟩
 ·refine ⟨(j : Int), e1, ?_⟩
  constructor
  ·intro h
   exact Qdp l _ (show j + 1 <= i by omega) (Qhy l _ e3 e5)
  ·intro h
   rcases Nat.lt_or_ge j i with c | c
   ·omega
   ·rw [Qdp l _ c h] at e4; cases e4
 ·have := Qdp l _ (show i + 1 <= l.length by omega) (Qhy l (l.getD i default).Name hi rfl)
  rw [this] at e2; cases e2
theorem Qsf (k : Nat) (hk : 1000 < k) (l : List Qd) (hl : l.length <= 43) : ∀ (d fuel i : Nat), l.length = i + d -> d < fuel -> Q5 k l fuel (i : Int) = some (errI (chkB l d i)) := by
 intro d
 induction d with
 | zero =>
   intro fuel i h hf
   obtain ⟨g, rfl⟩ : ∃ g, fuel = g + 1 := ⟨fuel - 1, by omega⟩
   rw [Q5.eq_2, if_neg (by omega)]; rfl
 | succ d ih =>
   intro fuel i h hf
   obtain ⟨g, rfl⟩ : ∃ g, fuel = g + 1 := ⟨fuel - 1, by omega⟩
   have hi : i < l.length := by omega
   obtain ⟨j, hj, hji⟩ := Qwz k (by omega) l hl i hi
   rw [Q5.eq_2, if_pos (by omega), if_pos (by omega), Int.toNat_natCast, Ws (by omega), Qhz k (by omega), Option.bind_some, hj, Option.bind_some, wib, Option.bind_some, wib, Option.bind_some, wib, Option.bind_some, ih g (i + 1) (by omega) (by omega)]
   rcases Bool.eq_false_or_eq_true (nameB (l.getD i default).Name) with hn | hn
   ·rcases Bool.eq_false_or_eq_true (Wl l i (l.getD i default).Name) with hs | hs
    ·have hb : batE l i = 5 := by unfold batE; simp only [hn, hs, Bool.not_true]
     simp only [chkB, hb, hn, if_true]
     rw [if_pos (hji.2 hs)]; rfl
    ·have hj2 : ¬(j < (i : Int)) := fun h => by rw [hji.1 h] at hs; cases hs
     rcases Bool.eq_false_or_eq_true (okB (l.getD i default)) with ho | ho
     ·have hb : batE l i = 0 := by unfold batE; simp only [hn, hs, ho, Bool.not_false]
      unfold okB at ho
      rw [Bool.and_eq_true, Bool.and_eq_true] at ho
      simp only [chkB, hb, hn, ho.1.1, ho.1.2, ho.2, if_true]
      rw [if_neg hj2]; rfl
     ·have hb : batE l i = 2 := by unfold batE; simp only [hn, hs, ho, Bool.not_false]
      unfold okB at ho
      simp only [chkB, hb, hn, if_true]
      rw [if_neg hj2]
      cases h1 : inR 1 1000 (l.getD i default).Diameter with
      | false => rfl
      | true =>
        cases h2 : inR 1 500 (l.getD i default).Thick with
        | false => rfl
        | true =>
          rw [h1, h2] at ho
          cases h3 : inR 0 1000 (l.getD i default).Count with
          | false => rfl
          | true => rw [h3] at ho; cases ho
   ·have hb : batE l i = 4 := by unfold batE; simp only [hn]
    simp only [chkB, hb, hn, Bool.false_eq_true, if_false]; rfl
theorem Qji (k : Nat) (hk : 1000 < k) (l : List Qd) (hl : l.length <= 43) : Xp k l = some (batS l) := by
 unfold Xp batS
 by_cases c : l.length <= 40
 ·rw [if_neg (by omega), decide_eq_true c, show Q5 k l k 0 = _ from Qsf k hk l hl l.length k 0 (by omega) (by omega), Option.bind_some]
  unfold errI
  cases h1 : decide (chkB l l.length 0 = 0) with
  | true => dsimp only; rw [of_decide_eq_true h1]
  | false => rfl
 ·rw [if_pos (by omega), decide_eq_false c]
structure Qmd (l : List Qd) (j : Nat) : Prop where
 name : nameB (l.getD j default).Name = true
 uniq : Wl l j (l.getD j default).Name = false
 dia : 1 <= (l.getD j default).Diameter /\ (l.getD j default).Diameter <= 1000
 thick : 1 <= (l.getD j default).Thick /\ (l.getD j default).Thick <= 500
 count : 0 <= (l.getD j default).Count /\ (l.getD j default).Count <= 1000
theorem Qsg {l : List Qd} {j : Nat} (h : batE l j = 0) : Qmd l j := by
 unfold batE at h
 cases h1 : nameB (l.getD j default).Name with
 | false => rw [h1] at h; simp at h
 | true =>
   rw [h1] at h
   cases h2 : Wl l j (l.getD j default).Name with
   | true => rw [h2] at h; simp at h
   | false =>
     rw [h2] at h
     cases h3 : okB (l.getD j default) with
     | false => rw [h3] at h; simp at h
     | true =>
       unfold okB at h3
       rw [Bool.and_eq_true, Bool.and_eq_true] at h3
       exact ⟨h1, h2, Qsh.1 h3.1.1, Qsh.1 h3.1.2, Qsh.1 h3.2⟩
theorem Qme (l : List Qd) : ∀ (d i : Nat), chkB l d i = 0 -> ∀ j, i <= j -> j < i + d -> Qmd l j
 | 0, i, _, j, h1, h2 => by omega
 | d + 1, i, h, j, h1, h2 => by
   simp only [chkB] at h
   cases hd : decide (batE l i = 0) with
   | false => rw [hd] at h; exact absurd h (of_decide_eq_false hd)
   | true =>
     rw [hd] at h
     rcases Nat.eq_or_lt_of_le h1 with rfl | h3
     ·exact Qsg (of_decide_eq_true hd)
     ·exact Qme l d (i + 1) h j (by omega) (by omega)
theorem Qmf {l : List Qd} (h : batS l = 0) : l.length <= 40 /\ ∀ j, j < l.length -> Qmd l j := by
 unfold batS at h
 cases hd : decide (l.length <= 40) with
 | false => rw [hd] at h; simp at h
 | true => rw [hd] at h; exact ⟨of_decide_eq_true hd, fun j hj => Qme l l.length 0 h j (by omega) (by omega)⟩
end Go.Proofs.Ytfeedchjdnedjaa.Vg
end

section
set_option linter.unusedVariables false
set_option linter.unusedSimpArgs false
namespace Go.Proofs.Ytfeedchjdnedjaa.Vg
open Go Go.Proofs.Ytfeedchjdnedjaa.Ev Go.Proofs.Ytfeedchjdnedjaa.Vv
theorem Qy5 (k : Nat) (a b c d : Bool) : Qi k ((a, 4), (b, 5), (c, 6), (d, 20)) = some (match a with | false => 4 | true => match b with | false => 5 | true => match c with | false => 6 | true => match d with | false => 20 | true => 0) := by
 unfold Qi
 simp only [Qsc, Option.bind_some]
 cases a <;> cases b <;> cases c <;> cases d <;> rfl
def Qld (l : List Qb) (i : Nat) (n : ByteArray) : Bool := (l.take i).any fun g => decide (n = g.Mirror)
theorem Qq6 (l : List Qb) (i : Nat) (hi : i < l.length) (n : ByteArray) : Qld l (i + 1) n = (decide (n = (l.getD i default).Mirror) || Qld l i n) := by
 unfold Qld
 rw [List.take_add_one, List.getElem?_eq_getElem hi, List.any_append]
 rw [List.getD_eq_getElem?_getD, List.getElem?_eq_getElem hi]
 simp [Bool.or_comm]
def cntP : List Qb -> ByteArray -> Int
 | [], _ => 0
 | p :: ps, n => (if p.Batch = n then 1 else 0) + cntP ps n
theorem Qpt (n : ByteArray) : ∀ a b : List Qb, cntP (a ++ b) n = cntP a n + cntP b n
 | [], b => by simp [cntP]
 | p :: a, b => by simp only [List.cons_append, cntP]; rw [Qpt n a b]; omega
theorem Qpu (n : ByteArray) : ∀ a : List Qb, 0 <= cntP a n /\ cntP a n <= (a.length : Int)
 | [] => by simp [cntP]
 | p :: a => by
   have := Qpu n a
   simp only [cntP, List.length_cons]
   split <;> omega
theorem Qxp (ps : List Qb) (n : ByteArray) (i : Nat) : 0 <= cntP (ps.take i) n /\ cntP (ps.take i) n <= (ps.length : Int) := by
 have h := Qpu n (ps.take i)
 rw [List.length_take] at h
 omega
theorem Qtf (ps : List Qb) (n : ByteArray) {i : Nat} (hi : i < ps.length) : cntP (ps.take (i + 1)) n = cntP (ps.take i) n + (if (ps.getD i default).Batch = n then 1 else 0) := by
 rw [List.take_add_one, List.getElem?_eq_getElem hi, Qpt, List.getD_eq_getElem?_getD, List.getElem?_eq_getElem hi]
 simp only [Option.toList, cntP, Option.getD_some]; omega
def prE (l : List Qd) (m0 : List (ByteArray × Int)) (ps : List Qb) (i : Nat) : Int := match nameB (ps.getD i default).Mirror with
 | false => 4
 | true => match !(Qld ps i (ps.getD i default).Mirror) with
   | false => 5
   | true => match Wl l l.length (ps.getD i default).Batch with
     | false => 6
     | true => match decide (0 < mget m0 (ps.getD i default).Batch - cntP (ps.take i) (ps.getD i default).Batch) with
       | false => 20
       | true => 0
def chkP (l : List Qd) (m0 : List (ByteArray × Int)) (ps : List Qb) : Nat -> Nat -> Int
 | 0, _ => 0
 | d + 1, i => match decide (prE l m0 ps i = 0) with | true => chkP l m0 ps d (i + 1) | false => prE l m0 ps i
theorem Qew (k : Nat) (l : List Qd) (ps : List Qb) (hl : l.length <= 43) : ∀ (d fuel i : Nat) (y : List (ByteArray × Int)), l.length = i + d -> d < fuel -> (∀ n, mhas y n = Wl l i n) ->
 (∀ j, j < i -> (∀ j', j' < l.length -> Wl l j' (l.getD j' default).Name = false) -> mget y (l.getD j default).Name = (l.getD j default).Count) ->
 ∃ z, Q9 k l ps fuel y (i : Int) = some z /\ (∀ n, mhas z n = Wl l l.length n) /\ ((∀ j', j' < l.length -> Wl l j' (l.getD j' default).Name = false) -> ∀ j, j < l.length -> mget z (l.getD j default).Name = (l.getD j default).Count) := by
 intro d
 induction d with
 | zero =>
   intro fuel i y h hf hy hg
   obtain ⟨g, rfl⟩ : ∃ g, fuel = g + 1 := ⟨fuel - 1, by omega⟩
   obtain rfl : i = l.length := by omega
   exact ⟨y, by rw [Q9.eq_2, if_neg (by omega)], hy, fun h j hj => hg j hj h⟩
 | succ d ih =>
   intro fuel i y h hf hy hg
   obtain ⟨g, rfl⟩ : ∃ g, fuel = g + 1 := ⟨fuel - 1, by omega⟩
   have hi : i < l.length := by omega
   rw [Q9.eq_2, if_pos (by omega), if_pos (by omega), Int.toNat_natCast, Ws (by omega)]
   refine ih g (i + 1) _ (by omega) (by omega) (fun n => by rw [Qd5, Qe9 l i hi, hy]) (fun j hj hu => ?_)
   rw [Qf4]
   by_cases e : (l.getD j default).Name = (l.getD i default).Name
   ·rw [decide_eq_true e]
    by_cases ej : j = i
    ·rw [ej]
    ·have h1 := Qdp l (l.getD i default).Name (show j + 1 <= i by omega) (Qhy l _ (show j < l.length by omega) e)
     rw [hu i hi] at h1; cases h1
   ·rw [decide_eq_false e]
    by_cases ej : j = i
    ·rw [ej] at e; exact absurd rfl e
    ·exact hg j (by omega) hu
theorem Qc2 (k : Nat) (hk : 100 < k) (l : List Qd) (ps : List Qb) (hl : l.length <= 43) : ∃ z, Q9 k l ps k [] 0 = some z /\ (∀ n, mhas z n = Wl l l.length n) /\ ((∀ j', j' < l.length -> Wl l j' (l.getD j' default).Name = false) -> ∀ j, j < l.length -> mget z (l.getD j default).Name = (l.getD j default).Count) := by
 obtain ⟨z, h1, h2, h3⟩ := Qew k l ps hl l.length k 0 [] (by omega) (by omega) (fun n => by simp [mhas, Wl]) (fun j hj => by omega)
 exact ⟨z, h1, h2, h3⟩
theorem Qg6 (k : Nat) (hk : 1000 < k) (hk2 : k <= 100000000000000000000) (l : List Qd) (ps : List Qb) (hp : ps.length <= 203) (m0 : List (ByteArray × Int)) (hm0 : ∀ n, Wl l l.length n = true -> 0 <= mget m0 n /\ mget m0 n <= 1000) : ∀ (d fuel i : Nat) (y1 : List (ByteArray × Int)) (y2 : List (ByteArray × Bool)), ps.length = i + d -> d < fuel -> (∀ n, mhas y1 n = Wl l l.length n) -> (∀ n, Wl l l.length n = true -> mget y1 n = mget m0 n - cntP (ps.take i) n) -> (∀ n, mhas y2 n = Qld ps i n) -> (∀ n, mhas y2 n = true -> mget y2 n = true) ->
 (chkP l m0 ps d i ≠ 0 /\ Qm k l ps fuel y1 y2 (i : Int) = some (.inl (chkP l m0 ps d i))) \/ (chkP l m0 ps d i = 0 /\ ∃ z, Qm k l ps fuel y1 y2 (i : Int) = some (.inr z) /\ (∀ n, mhas z n = Wl l l.length n) /\ ∀ n, Wl l l.length n = true -> mget z n = mget m0 n - cntP ps n) := by
 intro d
 induction d with
 | zero =>
   intro fuel i y1 y2 h hf h1 h2 h3 h4
   obtain ⟨g, rfl⟩ : ∃ g, fuel = g + 1 := ⟨fuel - 1, by omega⟩
   right
   refine ⟨rfl, y1, ?_, h1, fun n hn => by rw [h2 n hn, List.take_of_length_le (by omega)]⟩
   rw [Qm.eq_2, if_neg (by omega)]
 | succ d ih =>
   intro fuel i y1 y2 h hf h1 h2 h3 h4
   obtain ⟨g, rfl⟩ : ∃ g, fuel = g + 1 := ⟨fuel - 1, by omega⟩
   have hi : i < ps.length := by omega
   rw [Qm.eq_2, if_pos (by omega), if_pos (by omega)]
   unfold Zh
   simp only [Int.toNat_natCast, Qse k (show 100 < k by omega) hk2, Option.bind_some, Qy5, Ws (show i < 9223372036854775807 by omega)]
   have hB := h1 (ps.getD i default).Batch
   have hM := h3 (ps.getD i default).Mirror
   have hT := h4 (ps.getD i default).Mirror
   have hC := h2 (ps.getD i default).Batch
   have hci := Qxp ps (ps.getD i default).Batch i
   simp only [chkP]
   rcases Bool.eq_false_or_eq_true (nameB (ps.getD i default).Mirror) with hn | hn
   ·rcases Bool.eq_false_or_eq_true (Qld ps i (ps.getD i default).Mirror) with hm | hm
    ·have he : prE l m0 ps i = 5 := by unfold prE; simp only [hn, hm, Bool.not_true]
     rw [hm] at hM
     left
     refine ⟨by rw [he]; show (5 : Int) ≠ 0; decide, ?_⟩
     rcases Bool.eq_false_or_eq_true (Wl l l.length (ps.getD i default).Batch) with hb | hb
     ·rw [hb] at hB; simp only [hB, hM, hT hM, hn, he, if_true, Bool.not_true]; rfl
     ·rw [hb] at hB; simp only [hB, hM, hT hM, hn, he, if_true, Bool.not_true, Bool.false_eq_true, if_false]; rfl
    ·rw [hm] at hM
     rcases Bool.eq_false_or_eq_true (Wl l l.length (ps.getD i default).Batch) with hb | hb
     ·have hC := hC hb
      have hz := hm0 _ hb
      rw [hb] at hB
      by_cases hd : 0 < mget m0 (ps.getD i default).Batch - cntP (ps.take i) (ps.getD i default).Batch
      ·have he : prE l m0 ps i = 0 := by unfold prE; simp only [hn, hm, hb, decide_eq_true hd, Bool.not_false]
       rw [<- hC] at hd
       simp only [hB, hM, hn, he, decide_eq_true hd, if_true, Bool.not_false, Bool.false_eq_true, if_false, decide_true]
       refine ih g (i + 1) _ _ (by omega) (by omega) (fun n => ?_) (fun n hs => ?_) (fun n => ?_) (fun n hs => ?_)
       ·rw [Qd5, h1]
        by_cases e : n = (ps.getD i default).Batch
        ·rw [e, hb]; simp
        ·rw [decide_eq_false e, Bool.false_or]
       ·rw [Qf4, Qtf ps n hi]
        by_cases e : n = (ps.getD i default).Batch
        ·rw [decide_eq_true e, if_pos e.symm]
         dsimp only
         rw [Qo3 (by omega) (by omega), hC, e]; omega
        ·rw [decide_eq_false e, if_neg (fun h => e h.symm)]
         dsimp only
         rw [h2 n hs]; omega
       ·rw [Qd5, Qq6 ps i hi, h3]
       ·rw [Qd5] at hs
        rw [Qf4]
        cases hd : decide (n = (ps.getD i default).Mirror) with
        | true => rfl
        | false => rw [hd, Bool.false_or] at hs; exact h4 n hs
      ·have he : prE l m0 ps i = 20 := by unfold prE; simp only [hn, hm, hb, decide_eq_false hd, Bool.not_false]
       rw [<- hC] at hd
       left
       refine ⟨by rw [he]; show (20 : Int) ≠ 0; decide, ?_⟩
       simp only [hB, hM, hn, he, decide_eq_false hd, if_true, Bool.not_false, Bool.false_eq_true, if_false]; rfl
     ·have he : prE l m0 ps i = 6 := by unfold prE; simp only [hn, hm, hb, Bool.not_false]
      rw [hb] at hB
      left
      refine ⟨by rw [he]; show (6 : Int) ≠ 0; decide, ?_⟩
      simp only [hB, hM, hn, he, if_true, Bool.not_false, Bool.false_eq_true, if_false]; rfl
   ·have he : prE l m0 ps i = 4 := by unfold prE; simp only [hn]
    left
    refine ⟨by rw [he]; show (4 : Int) ≠ 0; decide, ?_⟩
    rcases Bool.eq_false_or_eq_true (mhas y1 (ps.getD i default).Batch) with hb | hb
    ·rcases Bool.eq_false_or_eq_true (mhas y2 (ps.getD i default).Mirror) with hm | hm
     ·simp only [hb, hm, hn, he, if_true]; rfl
     ·simp only [hb, hm, hn, he, if_true, Bool.false_eq_true, if_false]; rfl
    ·rcases Bool.eq_false_or_eq_true (mhas y2 (ps.getD i default).Mirror) with hm | hm
     ·simp only [hb, hm, hn, he, if_true, Bool.false_eq_true, if_false]; rfl
     ·simp only [hb, hm, hn, he, Bool.false_eq_true, if_false]; rfl
end Go.Proofs.Ytfeedchjdnedjaa.Vg
end

section
set_option linter.unusedVariables false
set_option linter.unusedSimpArgs false
namespace Go.Proofs.Ytfeedchjdnedjaa.Vg
open Go Go.Proofs.Ytfeedchjdnedjaa.Ev Go.Proofs.Ytfeedchjdnedjaa.Vv
theorem Qrh (k : Nat) (l : List Qd) (ps : List Qb) (hl : l.length <= 1000) : ∀ (d fuel i : Nat), l.length = i + d -> d < fuel -> ∃ b, Zr k l ps fuel (i : Int) = some (sumB b) := by
 intro d
 induction d with
 | zero =>
   intro fuel i h hf
   obtain ⟨g, rfl⟩ : ∃ g, fuel = g + 1 := ⟨fuel - 1, by omega⟩
   exact ⟨true, by rw [Zr.eq_2, if_neg (by omega)]; rfl⟩
 | succ d ih =>
   intro fuel i h hf
   obtain ⟨g, rfl⟩ : ∃ g, fuel = g + 1 := ⟨fuel - 1, by omega⟩
   rw [Zr.eq_2, if_pos (by omega), if_pos (by omega), Int.toNat_natCast, Ws (by omega)]
   by_cases cName : 30 < (((l.getD i default).Name).size : Int)
   ·rw [if_pos cName]; exact ⟨false, rfl⟩
   rw [if_neg cName]
   exact ih g (i + 1) (by omega) (by omega)
theorem Qri (k : Nat) (l : List Qd) (ps : List Qb) (hl : ps.length <= 1000) : ∀ (d fuel i : Nat), ps.length = i + d -> d < fuel -> ∃ b, Zt k ps fuel (i : Int) = some (sumB b) := by
 intro d
 induction d with
 | zero =>
   intro fuel i h hf
   obtain ⟨g, rfl⟩ : ∃ g, fuel = g + 1 := ⟨fuel - 1, by omega⟩
   exact ⟨true, by rw [Zt.eq_2, if_neg (by omega)]; rfl⟩
 | succ d ih =>
   intro fuel i h hf
   obtain ⟨g, rfl⟩ : ∃ g, fuel = g + 1 := ⟨fuel - 1, by omega⟩
   rw [Zt.eq_2, if_pos (by omega), if_pos (by omega), Int.toNat_natCast, Ws (by omega)]
   by_cases cMirror : 30 < (((ps.getD i default).Mirror).size : Int)
   ·rw [if_pos cMirror]; exact ⟨false, rfl⟩
   rw [if_neg cMirror]
   by_cases cBatch : 30 < (((ps.getD i default).Batch).size : Int)
   ·rw [if_pos cBatch]; exact ⟨false, rfl⟩
   rw [if_neg cBatch]
   exact ih g (i + 1) (by omega) (by omega)
theorem Qrj (k : Nat) (l : List Qd) (ps : List Qb) (hl : l.length <= 1000) : ∀ (d fuel i : Nat), l.length = i + d -> d < fuel -> ∃ b, Zu k l ps fuel (i : Int) = some (sumB b) := by
 intro d
 induction d with
 | zero =>
   intro fuel i h hf
   obtain ⟨g, rfl⟩ : ∃ g, fuel = g + 1 := ⟨fuel - 1, by omega⟩
   exact ⟨true, by rw [Zu.eq_2, if_neg (by omega)]; rfl⟩
 | succ d ih =>
   intro fuel i h hf
   obtain ⟨g, rfl⟩ : ∃ g, fuel = g + 1 := ⟨fuel - 1, by omega⟩
   rw [Zu.eq_2, if_pos (by omega), if_pos (by omega), Int.toNat_natCast, Ws (by omega)]
   by_cases cName : 30 < (((l.getD i default).Name).size : Int)
   ·rw [if_pos cName]; exact ⟨false, rfl⟩
   rw [if_neg cName]
   exact ih g (i + 1) (by omega) (by omega)
theorem Qrk (k : Nat) (l : List Qd) (ps : List Qb) (hl : ps.length <= 1000) : ∀ (d fuel i : Nat), ps.length = i + d -> d < fuel -> ∃ b, Zv k ps fuel (i : Int) = some (sumB b) := by
 intro d
 induction d with
 | zero =>
   intro fuel i h hf
   obtain ⟨g, rfl⟩ : ∃ g, fuel = g + 1 := ⟨fuel - 1, by omega⟩
   exact ⟨true, by rw [Zv.eq_2, if_neg (by omega)]; rfl⟩
 | succ d ih =>
   intro fuel i h hf
   obtain ⟨g, rfl⟩ : ∃ g, fuel = g + 1 := ⟨fuel - 1, by omega⟩
   rw [Zv.eq_2, if_pos (by omega), if_pos (by omega), Int.toNat_natCast, Ws (by omega)]
   by_cases cMirror : 30 < (((ps.getD i default).Mirror).size : Int)
   ·rw [if_pos cMirror]; exact ⟨false, rfl⟩
   rw [if_neg cMirror]
   by_cases cBatch : 30 < (((ps.getD i default).Batch).size : Int)
   ·rw [if_pos cBatch]; exact ⟨false, rfl⟩
   rw [if_neg cBatch]
   exact ih g (i + 1) (by omega) (by omega)
theorem Qrl (k : Nat) (l : List Qd) (ps : List Qb) (hl : l.length <= 1000) : ∀ (d fuel i : Nat), l.length = i + d -> d < fuel -> ∃ b, Zw k l ps fuel (i : Int) = some (sumB b) := by
 intro d
 induction d with
 | zero =>
   intro fuel i h hf
   obtain ⟨g, rfl⟩ : ∃ g, fuel = g + 1 := ⟨fuel - 1, by omega⟩
   exact ⟨true, by rw [Zw.eq_2, if_neg (by omega)]; rfl⟩
 | succ d ih =>
   intro fuel i h hf
   obtain ⟨g, rfl⟩ : ∃ g, fuel = g + 1 := ⟨fuel - 1, by omega⟩
   rw [Zw.eq_2, if_pos (by omega), if_pos (by omega), Int.toNat_natCast, Ws (by omega)]
   by_cases cName : 30 < (((l.getD i default).Name).size : Int)
   ·rw [if_pos cName]; exact ⟨false, rfl⟩
   rw [if_neg cName]
   exact ih g (i + 1) (by omega) (by omega)
theorem Qrm (k : Nat) (l : List Qd) (ps : List Qb) (hl : ps.length <= 1000) : ∀ (d fuel i : Nat), ps.length = i + d -> d < fuel -> ∃ b, Zx k ps fuel (i : Int) = some (sumB b) := by
 intro d
 induction d with
 | zero =>
   intro fuel i h hf
   obtain ⟨g, rfl⟩ : ∃ g, fuel = g + 1 := ⟨fuel - 1, by omega⟩
   exact ⟨true, by rw [Zx.eq_2, if_neg (by omega)]; rfl⟩
 | succ d ih =>
   intro fuel i h hf
   obtain ⟨g, rfl⟩ : ∃ g, fuel = g + 1 := ⟨fuel - 1, by omega⟩
   rw [Zx.eq_2, if_pos (by omega), if_pos (by omega), Int.toNat_natCast, Ws (by omega)]
   by_cases cMirror : 30 < (((ps.getD i default).Mirror).size : Int)
   ·rw [if_pos cMirror]; exact ⟨false, rfl⟩
   rw [if_neg cMirror]
   by_cases cBatch : 30 < (((ps.getD i default).Batch).size : Int)
   ·rw [if_pos cBatch]; exact ⟨false, rfl⟩
   rw [if_neg cBatch]
   exact ih g (i + 1) (by omega) (by omega)
theorem Qrn (k : Nat) (l : List Qd) (ps : List Qb) (hl : l.length <= 1000) : ∀ (d fuel i : Nat), l.length = i + d -> d < fuel -> ∃ b, Zy k l ps fuel (i : Int) = some (sumB b) := by
 intro d
 induction d with
 | zero =>
   intro fuel i h hf
   obtain ⟨g, rfl⟩ : ∃ g, fuel = g + 1 := ⟨fuel - 1, by omega⟩
   exact ⟨true, by rw [Zy.eq_2, if_neg (by omega)]; rfl⟩
 | succ d ih =>
   intro fuel i h hf
   obtain ⟨g, rfl⟩ : ∃ g, fuel = g + 1 := ⟨fuel - 1, by omega⟩
   rw [Zy.eq_2, if_pos (by omega), if_pos (by omega), Int.toNat_natCast, Ws (by omega)]
   by_cases cName : 30 < (((l.getD i default).Name).size : Int)
   ·rw [if_pos cName]; exact ⟨false, rfl⟩
   rw [if_neg cName]
   exact ih g (i + 1) (by omega) (by omega)
theorem Qro (k : Nat) (l : List Qd) (ps : List Qb) (hl : ps.length <= 1000) : ∀ (d fuel i : Nat), ps.length = i + d -> d < fuel -> ∃ b, Zz k ps fuel (i : Int) = some (sumB b) := by
 intro d
 induction d with
 | zero =>
   intro fuel i h hf
   obtain ⟨g, rfl⟩ : ∃ g, fuel = g + 1 := ⟨fuel - 1, by omega⟩
   exact ⟨true, by rw [Zz.eq_2, if_neg (by omega)]; rfl⟩
 | succ d ih =>
   intro fuel i h hf
   obtain ⟨g, rfl⟩ : ∃ g, fuel = g + 1 := ⟨fuel - 1, by omega⟩
   rw [Zz.eq_2, if_pos (by omega), if_pos (by omega), Int.toNat_natCast, Ws (by omega)]
   by_cases cMirror : 30 < (((ps.getD i default).Mirror).size : Int)
   ·rw [if_pos cMirror]; exact ⟨false, rfl⟩
   rw [if_neg cMirror]
   by_cases cBatch : 30 < (((ps.getD i default).Batch).size : Int)
   ·rw [if_pos cBatch]; exact ⟨false, rfl⟩
   rw [if_neg cBatch]
   exact ih g (i + 1) (by omega) (by omega)
theorem short_any (k : Nat) (hk : 2000 < k) (l : List Qd) (ps : List Qb) : ∃ b, Yj k l ps = some b /\ (b = true -> l.length <= 43 /\ ps.length <= 203) := by
 unfold Yj
 have fin : ∀ {A B : Option (Sum Unit Unit)}, (l.length <= 43 /\ ps.length <= 203) -> (∃ b, A = some (sumB b)) -> (∃ b, B = some (sumB b)) -> ∃ b, (A.bind fun r => match r with | .inl _ => some false | .inr _ => B.bind fun r => match r with | .inl _ => some false | .inr _ => some true) = some b /\ (b = true -> l.length <= 43 /\ ps.length <= 203) := by
  rintro A B hb ⟨a, rfl⟩ ⟨b, rfl⟩
  cases a with
  | false => exact ⟨false, rfl, fun h => by cases h⟩
  | true => cases b with
    | false => exact ⟨false, rfl, fun h => by cases h⟩
    | true => exact ⟨true, rfl, fun _ => hb⟩
 by_cases c1 : 6 < (l.length : Int)
 ·rw [if_pos c1]
  by_cases c2 : (l.length : Int) <= 40
  ·rw [if_pos c2]; exact ⟨_, rfl, fun h => by cases h⟩
  rw [if_neg c2]
  by_cases c3 : 43 < (l.length : Int)
  ·rw [if_pos c3]; exact ⟨_, rfl, fun h => by cases h⟩
  rw [if_neg c3]
  by_cases c4 : 10 < (ps.length : Int)
  ·rw [if_pos c4]
   by_cases c5 : (ps.length : Int) <= 200
   ·rw [if_pos c5]; exact ⟨_, rfl, fun h => by cases h⟩
   rw [if_neg c5]
   by_cases c6 : 203 < (ps.length : Int)
   ·rw [if_pos c6]; exact ⟨_, rfl, fun h => by cases h⟩
   rw [if_neg c6]
   exact fin ⟨by omega, by omega⟩ (Qrh k l ps (by omega) l.length k 0 (by omega) (by omega)) (Qri k l ps (by omega) ps.length k 0 (by omega) (by omega))
  ·rw [if_neg c4]
   by_cases c6 : 203 < (ps.length : Int)
   ·rw [if_pos c6]; exact ⟨_, rfl, fun h => by cases h⟩
   rw [if_neg c6]
   exact fin ⟨by omega, by omega⟩ (Qrj k l ps (by omega) l.length k 0 (by omega) (by omega)) (Qrk k l ps (by omega) ps.length k 0 (by omega) (by omega))
 ·rw [if_neg c1]
  by_cases c3 : 43 < (l.length : Int)
  ·rw [if_pos c3]; exact ⟨_, rfl, fun h => by cases h⟩
  rw [if_neg c3]
  by_cases c4 : 10 < (ps.length : Int)
  ·rw [if_pos c4]
   by_cases c5 : (ps.length : Int) <= 200
   ·rw [if_pos c5]; exact ⟨_, rfl, fun h => by cases h⟩
   rw [if_neg c5]
   by_cases c6 : 203 < (ps.length : Int)
   ·rw [if_pos c6]; exact ⟨_, rfl, fun h => by cases h⟩
   rw [if_neg c6]
   exact fin ⟨by omega, by omega⟩ (Qrl k l ps (by omega) l.length k 0 (by omega) (by omega)) (Qrm k l ps (by omega) ps.length k 0 (by omega) (by omega))
  ·rw [if_neg c4]
   by_cases c6 : 203 < (ps.length : Int)
   ·rw [if_pos c6]; exact ⟨_, rfl, fun h => by cases h⟩
   rw [if_neg c6]
   exact fin ⟨by omega, by omega⟩ (Qrn k l ps (by omega) l.length k 0 (by omega) (by omega)) (Qro k l ps (by omega) ps.length k 0 (by omega) (by omega))
structure Base (l : List Qd) (m0 : List (ByteArray × Int)) : Prop where
 has : ∀ n, mhas m0 n = Wl l l.length n
 val : ∀ j, j < l.length -> mget m0 (l.getD j default).Name = (l.getD j default).Count
theorem Qqb {l : List Qd} {n : ByteArray} (h : Wl l l.length n = true) : ∃ j, j < l.length /\ (l.getD j default).Name = n := by
 unfold Wl at h
 rw [List.take_length, List.any_eq_true] at h
 obtain ⟨x, hx, he⟩ := h
 obtain ⟨j, hj, rfl⟩ := List.mem_iff_getElem.1 hx
 exact ⟨j, hj, by rw [List.getD_eq_getElem?_getD, List.getElem?_eq_getElem hj]; exact (of_decide_eq_true he).symm⟩
theorem Qrp {l : List Qd} {j : Nat} (hj : j < l.length) : Wl l l.length (l.getD j default).Name = true := Qdp l _ (show j + 1 <= l.length by omega) (Qhy l _ hj rfl)
theorem Qx5 {l : List Qd} {m0 : List (ByteArray × Int)} (hb : Base l m0) (hg : ∀ j, j < l.length -> Qmd l j) : ∀ n, Wl l l.length n = true -> 0 <= mget m0 n /\ mget m0 n <= 1000 := by
 intro n h
 obtain ⟨j, hj, rfl⟩ := Qqb h
 rw [hb.val j hj]; exact (hg j hj).count
theorem Qkf {l : List Qd} {m0 m1 : List (ByteArray × Int)} (h0 : Base l m0) (h1 : Base l m1) (ps : List Qb) : ∀ d i : Nat, chkP l m0 ps d i = chkP l m1 ps d i
 | 0, _ => rfl
 | d + 1, i => by
   have he : prE l m0 ps i = prE l m1 ps i := by
    unfold prE
    cases hs : Wl l l.length (ps.getD i default).Batch with
    | false => rfl
    | true =>
      obtain ⟨j, hj, hn⟩ := Qqb hs
      have : mget m0 (ps.getD i default).Batch = mget m1 (ps.getD i default).Batch := by rw [<- hn, h0.val j hj, h1.val j hj]
      rw [this]
   simp only [chkP]
   rw [he, Qkf h0 h1 ps d (i + 1)]
theorem Qzq (k : Nat) (l : List Qd) (j : Nat) (hj : j < l.length) (qs : List Qb) (hq : qs.length <= 203) : ∀ (d fuel i : Nat) (x : Int), qs.length = i + d -> d < fuel -> -100000 + (d : Int) <= x -> x <= 100000 -> Zi k l qs (j : Int) fuel x (i : Int) = some (x - cntP (qs.drop i) (l.getD j default).Name) := by
 intro d
 induction d with
 | zero =>
   intro fuel i x h hf h1 h2
   obtain ⟨g, rfl⟩ : ∃ g, fuel = g + 1 := ⟨fuel - 1, by omega⟩
   rw [Zi.eq_2, if_neg (by omega), List.drop_eq_nil_of_le (by omega)]; simp only [cntP, Int.sub_zero]
 | succ d ih =>
   intro fuel i x h hf h1 h2
   obtain ⟨g, rfl⟩ : ∃ g, fuel = g + 1 := ⟨fuel - 1, by omega⟩
   rw [Zi.eq_2, if_pos (by omega), if_pos (by omega), if_pos (by omega), Int.toNat_natCast, Int.toNat_natCast, Ws (by omega), Qo4 (y := qs) (i := i) (by omega) default]
   simp only [cntP]
   by_cases c : (qs.getD i default).Batch = (l.getD j default).Name
   ·rw [if_pos c, if_pos c, Qo3 (by omega) (by omega), ih g (i + 1) _ (by omega) (by omega) (by omega) (by omega)]; congr 1; omega
   ·rw [if_neg c, if_neg c, ih g (i + 1) _ (by omega) (by omega) (by omega) (by omega)]; congr 1; omega
theorem Qzr (k : Nat) (hk : 1000 < k) (l : List Qd) (j : Nat) (hj : j < l.length) (hc : 0 <= (l.getD j default).Count /\ (l.getD j default).Count <= 1000) (qs : List Qb) (hq : qs.length <= 203) : Y6 k l qs (j : Int) = some ((l.getD j default).Count - cntP qs (l.getD j default).Name) := by
 have h := Qzq k l j hj qs hq qs.length k 0 (l.getD j default).Count (by omega) (by omega) (by omega) (by omega)
 rw [List.drop_zero] at h
 unfold Y6
 rw [if_pos (by omega), Int.toNat_natCast, show Zi k l qs (j : Int) k _ 0 = _ from h]; rfl
theorem Qz2 (k : Nat) (l : List Qd) (ps : List Qb) (hp : ps.length <= 203) (i : Nat) (hi : i < ps.length) : ∀ (d fuel x : Nat), i = x + d -> d < fuel -> Qw k l ps (i : Int) fuel (x : Int) = some (sumB (!(((ps.take i).drop x).any fun g => decide ((ps.getD i default).Mirror = g.Mirror)))) := by
 intro d
 induction d with
 | zero =>
   intro fuel x h hf
   obtain ⟨g, rfl⟩ : ∃ g, fuel = g + 1 := ⟨fuel - 1, by omega⟩
   rw [Qw.eq_2, if_neg (by omega), List.drop_eq_nil_of_le (by rw [List.length_take]; omega)]; rfl
 | succ d ih =>
   intro fuel x h hf
   obtain ⟨g, rfl⟩ : ∃ g, fuel = g + 1 := ⟨fuel - 1, by omega⟩
   have ht : (ps.take i).getD x default = ps.getD x default := by
    rw [List.getD_eq_getElem?_getD, List.getD_eq_getElem?_getD, List.getElem?_take, if_pos (by omega)]
   rw [Qw.eq_2, if_pos (by omega), if_pos (by omega), if_pos (by omega), Int.toNat_natCast, Int.toNat_natCast, Ws (by omega), Qo4 (y := ps.take i) (i := x) (by rw [List.length_take]; omega) default, List.any_cons, ht, ih g (x + 1) (by omega) (by omega)]
   by_cases c : (ps.getD x default).Mirror = (ps.getD i default).Mirror
   ·rw [if_pos c, decide_eq_true c.symm]; rfl
   ·rw [if_neg c, decide_eq_false (fun h => c h.symm), Bool.false_or]
theorem Qzs (k : Nat) (hk : 1000 < k) (l : List Qd) (hl : l.length <= 43) (hg : ∀ j, j < l.length -> Qmd l j) (m0 : List (ByteArray × Int)) (hb : Base l m0) (ps : List Qb) (hp : ps.length <= 203) : ∀ (d fuel i : Nat), ps.length = i + d -> d < fuel -> Qx k l ps fuel (i : Int) = some (errI (chkP l m0 ps d i)) := by
 intro d
 induction d with
 | zero =>
   intro fuel i h hf
   obtain ⟨g, rfl⟩ : ∃ g, fuel = g + 1 := ⟨fuel - 1, by omega⟩
   rw [Qx.eq_2, if_neg (by omega)]; rfl
 | succ d ih =>
   intro fuel i h hf
   obtain ⟨g, rfl⟩ : ∃ g, fuel = g + 1 := ⟨fuel - 1, by omega⟩
   have hi : i < ps.length := by omega
   have hm := Qz2 k l ps hp i hi i k 0 (by omega) (by omega)
   rw [List.drop_zero] at hm
   rw [Qx.eq_2, if_pos (by omega), if_pos (by omega), Int.toNat_natCast, Ws (by omega), Qhz k (by omega), Option.bind_some, show Qw k l ps (i : Int) k 0 = _ from hm, Option.bind_some, ih g (i + 1) (by omega) (by omega)]
   have hsm : ((ps.take i).any fun g => decide ((ps.getD i default).Mirror = g.Mirror)) = Qld ps i (ps.getD i default).Mirror := rfl
   rw [hsm]
   rcases Bool.eq_false_or_eq_true (nameB (ps.getD i default).Mirror) with hn | hn
   ·rcases Bool.eq_false_or_eq_true (Qld ps i (ps.getD i default).Mirror) with hs | hs
    ·have he : prE l m0 ps i = 5 := by unfold prE; simp only [hn, hs, Bool.not_true]
     simp only [chkP, he, hn, hs, if_true]; rfl
    ·rcases Qmc k (by omega) l hl (ps.getD i default).Batch with ⟨j, e1, e3, e4, e5⟩ | ⟨e1, e2⟩
     ·have hse : Wl l l.length (ps.getD i default).Batch = true := by rw [<- e5]; exact Qrp e3
      have hlf := Qzr k hk l j e3 (hg j e3).count (ps.take i) (by rw [List.length_take]; omega)
      have hv : mget m0 (ps.getD i default).Batch = (l.getD j default).Count := by rw [<- e5]; exact hb.val j e3
      have hsl : sl ps 0 i = ps.take i := by unfold sl; rw [List.drop_zero, Nat.sub_zero]
      rw [e5] at hlf
      by_cases hd : 0 < mget m0 (ps.getD i default).Batch - cntP (ps.take i) (ps.getD i default).Batch
      ·have he : prE l m0 ps i = 0 := by unfold prE; simp only [hn, hs, hse, decide_eq_true hd, Bool.not_false]
       rw [hv] at hd
       simp only [chkP, he, hn, hs, e1, if_true, Bool.not_false, sumB, Option.bind_some, hsl, hlf]
       rw [if_neg (by omega), if_pos (by omega), if_neg (by omega)]; rfl
      ·have he : prE l m0 ps i = 20 := by unfold prE; simp only [hn, hs, hse, decide_eq_false hd, Bool.not_false]
       rw [hv] at hd
       simp only [chkP, he, hn, hs, e1, if_true, Bool.not_false, sumB, Option.bind_some, hsl, hlf]
       rw [if_neg (by omega), if_pos (by omega), if_pos (by omega)]; rfl
     ·have he : prE l m0 ps i = 6 := by unfold prE; simp only [hn, hs, e2, Bool.not_false]
      simp only [chkP, he, hn, hs, e1, if_true, Bool.not_false, sumB, Option.bind_some]
      rw [if_pos (by omega)]; rfl
   ·have he : prE l m0 ps i = 4 := by unfold prE; simp only [hn]
    simp only [chkP, he, hn, Bool.false_eq_true, if_false]; rfl
def Qmv (l : List Qd) (m0 : List (ByteArray × Int)) (ps : List Qb) : Int := if batS l = 0 then (if 200 < ps.length then 8 else chkP l m0 ps ps.length 0) else batS l
theorem Qq3 {l : List Qd} {m0 : List (ByteArray × Int)} {ps : List Qb} (h : Qmv l m0 ps = 0) : batS l = 0 /\ ps.length <= 200 /\ chkP l m0 ps ps.length 0 = 0 := by
 unfold Qmv at h
 split at h
 ·split at h
  ·omega
  ·exact ⟨‹_›, by omega, h⟩
 ·exact absurd h ‹_›
theorem Qpk (k : Nat) (hk : 1000 < k) (l : List Qd) (hl : l.length <= 43) (m0 : List (ByteArray × Int)) (hb : (∀ j, j < l.length -> Qmd l j) -> Base l m0) (ps : List Qb) (hp : ps.length <= 203) : Z8 k l ps = some (Qmv l m0 ps) := by
 unfold Z8 Qmv
 rw [Qji k hk l hl, Option.bind_some]
 by_cases h0 : batS l = 0
 ·rw [if_pos h0, if_pos h0]
  by_cases c : 200 < ps.length
  ·rw [if_pos (by omega), if_pos c]
  ·have hg := (Qmf h0).2
   rw [if_neg (by omega), if_neg c, show Qx k l ps k 0 = _ from Qzs k hk l hl hg m0 (hb hg) ps hp ps.length k 0 (by omega) (by omega), Option.bind_some]
   unfold errI
   cases hd : decide (chkP l m0 ps ps.length 0 = 0) with
   | true => dsimp only; rw [of_decide_eq_true hd]
   | false => rfl
 ·rw [if_neg h0, if_neg h0]
theorem Qv7 (k : Nat) (hk : 1000 < k) (hk2 : k <= 100000000000000000000) (l : List Qd) (hl : l.length <= 43) (m0 : List (ByteArray × Int)) (hb : (∀ j, j < l.length -> Qmd l j) -> Base l m0) (ps : List Qb) (hp : ps.length <= 203) : Jv k l ps = some (Qmv l m0 ps) := by
 unfold Jv Qmv
 rw [Qjh k hk hk2 l hl, Option.bind_some]
 by_cases h0 : batS l = 0
 ·rw [if_pos h0, if_pos h0]
  by_cases c : 200 < ps.length
  ·rw [if_pos (by omega), if_pos c]
  ·have hg := (Qmf h0).2
   obtain ⟨m1, e1, e2, e3⟩ := Qc2 k (by omega) l ps hl
   have hb1 : Base l m1 := ⟨e2, e3 (fun j hj => (hg j hj).uniq)⟩
   rw [if_neg (by omega), if_neg c, e1, Option.bind_some, Qkf (hb hg) hb1]
   rcases Qg6 k hk hk2 l ps hp m1 (Qx5 hb1 hg) ps.length k 0 m1 [] (by omega) (by omega) e2 (fun n _ => by simp [cntP]) (fun n => by simp [mhas, Qld]) (fun n h => by cases h) with ⟨h1, h2⟩ | ⟨h1, z, h2, _⟩
   ·rw [show Qm k l ps k m1 [] 0 = _ from h2]; rfl
   ·rw [show Qm k l ps k m1 [] 0 = _ from h2, h1]; rfl
 ·rw [if_neg h0, if_neg h0]
end Go.Proofs.Ytfeedchjdnedjaa.Vg
end

section
set_option linter.unusedVariables false
set_option linter.unusedSimpArgs false
namespace Go.Proofs.Ytfeedchjdnedjaa.Vg
open Go Go.Proofs.Ytfeedchjdnedjaa.Ev Go.Proofs.Ytfeedchjdnedjaa.Vv
theorem Qsy {i : Nat} (h : i < 1000000000000) : w64 ((i : Int) + 1) = ((i + 1 : Nat) : Int) := by
 unfold w64 IntKind.wrap
 simp [IntKind.signed, IntKind.bits]
 omega
def segs (s : ByteArray) : Nat -> Nat -> Nat -> List ByteArray
 | 0, b, _ => [s.extract b s.size]
 | d + 1, b, i => if bt8 s i = 32 then s.extract b i :: segs s d (i + 1) (i + 1) else segs s d b (i + 1)
theorem Qz0 (k : Nat) (s : ByteArray) (hs : s.size <= 1000) : ∀ (d fuel b i : Nat) (y : List ByteArray), s.size = i + d -> d + 1 < fuel -> b <= i -> y.length + d <= 1000 ->
 Zf k s 32 fuel y (b : Int) (i : Int) = some (y ++ segs s d b i) := by
 intro d
 induction d with
 | zero =>
   intro fuel b i y h hf hb hy
   obtain ⟨g, rfl⟩ : ∃ g, fuel = g + 1 + 1 := ⟨fuel - 2, by omega⟩
   rw [Zf.eq_2, if_pos (by omega), if_pos (by omega), if_pos (by omega), if_pos (by show y.length + 1 <= 1000000000; omega), Qsy (by omega), Zf.eq_2, if_neg (by omega), Int.toNat_natCast, Int.toNat_natCast]
   show some (y ++ [s.extract b i]) = some (y ++ [s.extract b s.size])
   rw [show i = s.size by omega]
 | succ d ih =>
   intro fuel b i y h hf hb hy
   obtain ⟨g, rfl⟩ : ∃ g, fuel = g + 1 := ⟨fuel - 1, by omega⟩
   rw [Zf.eq_2, if_pos (by omega), if_neg (by omega), if_pos (by omega), show bat s (i : Int) = bt8 s i from rfl, Qsy (by omega), Int.toNat_natCast, Int.toNat_natCast]
   simp only [segs]
   by_cases c : bt8 s i = 32
   ·rw [if_pos c, if_pos c, if_pos (by omega), if_pos (by show y.length + 1 <= 1000000000; omega), ih g (i + 1) (i + 1) (y ++ [s.extract b i]) (by omega) (by omega) (by omega) (by rw [List.length_append]; show y.length + 1 + d <= 1000; omega), List.append_assoc]; rfl
   ·rw [if_neg c, if_neg c, ih g b (i + 1) y (by omega) (by omega) (by omega) (by omega)]
theorem Qxk (k : Nat) (hk : 2000 < k) (s : ByteArray) (hs : s.size <= 900) : Qac k s 32 = some (segs s s.size 0 0) := by
 unfold Qac
 rw [show Zf k s 32 k [] 0 0 = _ from Qz0 k s (by omega) s.size k 0 0 [] (by omega) (by omega) (by omega) (by show 0 + s.size <= 1000; omega)]; rfl
theorem Qgf (s : ByteArray) : ∀ (d b i : Nat), s.size = i + d -> (∀ x, i <= x -> x < s.size -> bt8 s x ≠ 32) -> segs s d b i = [s.extract b s.size]
 | 0, b, i, h, hn => rfl
 | d + 1, b, i, h, hn => by
   simp only [segs]
   rw [if_neg (hn i (by omega) (by omega))]
   exact Qgf s d b (i + 1) (by omega) (fun x h1 h2 => hn x (by omega) h2)
theorem Qgg (s : ByteArray) : ∀ (d b i p : Nat), s.size = i + d -> i <= p -> p < s.size -> bt8 s p = 32 -> (∀ x, i <= x -> x < p -> bt8 s x ≠ 32) -> segs s d b i = s.extract b p :: segs s (s.size - (p + 1)) (p + 1) (p + 1)
 | 0, b, i, p, h, h1, h2, _, _ => by omega
 | d + 1, b, i, p, h, h1, h2, h3, hn => by
   simp only [segs]
   by_cases c : i = p
   ·subst c
    rw [if_pos h3, show s.size - (i + 1) = d by omega]
   ·rw [if_neg (hn i (by omega) (by omega))]
    exact Qgg s d b (i + 1) p (by omega) (by omega) h2 h3 (fun x a1 a2 => hn x (by omega) a2)
theorem Qpi (s : ByteArray) : ∀ (d b i : Nat), 1 <= (segs s d b i).length
 | 0, b, i => Nat.le_refl _
 | d + 1, b, i => by
   simp only [segs]
   split
   ·simp
   ·exact Qpi s d b (i + 1)
theorem Qdj (s : ByteArray) (x : Nat) : bt8 s x = 32 ↔ s.data.toList[x]? = some 32 := by
 by_cases h : x < s.size
 ·rw [Go.Lib.data_getElem? s x h]
  unfold bt8 bat
  rw [show ((x : Int)).toNat = x from rfl, getElem?_pos s x h]
  dsimp only
  constructor
  ·intro e
   congr 1
   exact UInt8.toNat_inj.1 (by show s[x].toNat = 32; omega)
  ·intro e
   injection e with e
   rw [e]; rfl
 ·have h2 : s.data.toList[x]? = none := List.getElem?_eq_none_iff.2 (by rw [<- Go.Lib.size_eq]; omega)
  rw [h2]
  unfold bt8 bat
  rw [show ((x : Int)).toNat = x from rfl, getElem?_neg s x h]
  constructor
  ·intro e; exact absurd e (by decide)
  ·intro e; cases e
def pv (s : ByteArray) : Qb × Int := match segs s s.size 0 0 with
 | [a, b] => (⟨a, b⟩, 0)
 | _ => (⟨ByteArray.empty, ByteArray.empty⟩, 7)
theorem Qsz (k : Nat) (hk : 2000 < k) (s : ByteArray) (hs : s.size <= 900) : Xq k s = some (pv s) := by
 unfold Xq pv
 rw [Qxk k hk s hs, Option.bind_some]
 match segs s s.size 0 0 with
 | [] => rfl
 | [a] => rfl
 | [a, b] => rw [if_pos (by simp), if_pos (by simp), if_pos (by simp)]; rfl
 | a :: b :: c :: l => rw [if_neg (by simp only [List.length_cons]; omega)]
theorem Qmu (s : ByteArray) (a : Nat) : (s.extract a s.size).data.toList = s.data.toList.drop a := by
 rw [Go.Lib.extract_eq]
 show (s.data.toList.drop a).take (s.size - a) = _
 exact List.take_of_length_le (by rw [List.length_drop, <- Go.Lib.size_eq]; exact Nat.le_refl _)
theorem clone_any (k : Nat) (s : ByteArray) (h : s.size <= 281474976710656) : Qan k s = some s := by
 unfold Qan Ju
 rw [if_pos h]; rfl
theorem ext_size (s : ByteArray) (a b : Nat) : (s.extract a b).size <= s.size := by
 rw [ByteArray.size_extract]; omega
theorem Qs0 (k : Nat) (s : ByteArray) (hs : s.size <= 900) : J6 k s = some (pv s) := by
 have hcut : Qb9 k s (⟨#[32]⟩ : ByteArray) = some (⟨(Go.Lib.cut s.data.toList (⟨#[32]⟩ : ByteArray).data.toList).1.toArray⟩, ⟨(Go.Lib.cut s.data.toList (⟨#[32]⟩ : ByteArray).data.toList).2.1.toArray⟩, (Go.Lib.cut s.data.toList (⟨#[32]⟩ : ByteArray).data.toList).2.2) := by
  unfold Qb9 J8
  rw [if_pos (by omega)]; rfl
 unfold J6
 rw [hcut, Option.bind_some]
 dsimp only
 rcases Go.Lib.indexB_cases s ⟨#[32]⟩ with hix | ⟨i, hix, hroom⟩
 ·have hb : Go.Lib.indexByte s.data.toList 32 = -1 := (Go.Lib.index_one s.data.toList 32).symm.trans hix
  obtain ⟨e1, e2, e3⟩ := Go.Lib.cutB_miss s ⟨#[32]⟩ hix
  rw [e3, if_neg (by decide)]
  unfold pv
  rw [Qgf s s.size 0 0 (by omega) (fun x _ _ e => Go.Lib.indexByte_none hb x ((Qdj s x).1 e))]
 ·have hb : Go.Lib.indexByte s.data.toList 32 = i := (Go.Lib.index_one s.data.toList 32).symm.trans hix
  obtain ⟨e1, e2, e3⟩ := Go.Lib.cutB_hit s ⟨#[32]⟩ i hix
  obtain ⟨g1, g2⟩ := Go.Lib.indexByte_some hb
  have hone : (⟨#[32]⟩ : ByteArray).size = 1 := rfl
  rw [hone] at e2 hroom
  have hseg := Qgg s s.size 0 0 i (by omega) (by omega) (by omega) ((Qdj s i).2 g1) (fun x _ h e => g2 x h ((Qdj s x).1 e))
  rw [e3, if_pos rfl, e1, e2]
  have hcon : Qad k (s.extract (i + 1) s.size) (⟨#[32]⟩ : ByteArray) = some (decide (0 <= Go.Lib.indexByte (s.data.toList.drop (i + 1)) 32)) := by
   unfold Qad
   rw [<- Qmu]; rfl
  rw [hcon, Option.bind_some]
  unfold pv
  rw [hseg]
  have hge := Go.Lib.indexByte_ge (s.data.toList.drop (i + 1)) 32
  by_cases c : 0 <= Go.Lib.indexByte (s.data.toList.drop (i + 1)) 32
  ·rw [decide_eq_true c, if_pos rfl]
   obtain ⟨f1, f2⟩ := Go.Lib.indexByte_some (l := s.data.toList.drop (i + 1)) (c := 32) (o := (Go.Lib.indexByte (s.data.toList.drop (i + 1)) 32).toNat) (by omega)
   generalize (Go.Lib.indexByte (s.data.toList.drop (i + 1)) 32).toNat = o at f1 f2
   rw [List.getElem?_drop] at f1
   have hlt : i + 1 + o < s.size := by
    have := (List.getElem?_eq_some_iff.1 f1).1
    rw [<- Go.Lib.size_eq] at this; exact this
   have hseg2 := Qgg s (s.size - (i + 1)) (i + 1) (i + 1) (i + 1 + o) (by omega) (by omega) hlt ((Qdj s _).2 f1) (fun x h1 h2 e => by
    have := f2 (x - (i + 1)) (by omega)
    rw [List.getElem?_drop, show i + 1 + (x - (i + 1)) = x by omega] at this
    exact this ((Qdj s x).1 e))
   rw [hseg2]
   have hl := Qpi s (s.size - (i + 1 + o + 1)) (i + 1 + o + 1) (i + 1 + o + 1)
   match segs s (s.size - (i + 1 + o + 1)) (i + 1 + o + 1) (i + 1 + o + 1), hl with
   | [], hl => exact absurd hl (by simp)
   | a :: l, _ => rfl
  ·rw [decide_eq_false c, if_neg (by decide)]
   have hseg2 := Qgf s (s.size - (i + 1)) (i + 1) (i + 1) (by omega) (fun x h1 h2 e => by
    have := Go.Lib.indexByte_none (show Go.Lib.indexByte (s.data.toList.drop (i + 1)) 32 = -1 by omega) (x - (i + 1))
    rw [List.getElem?_drop, show i + 1 + (x - (i + 1)) = x by omega] at this
    exact this ((Qdj s x).1 e))
   have z1 := ext_size s 0 i
   have z2 := ext_size s (i + 1) s.size
   rw [hseg2, clone_any k _ (by omega), Option.bind_some, clone_any k _ (by omega), Option.bind_some]
def txt (p : Qb) : ByteArray := p.Mirror ++ (⟨#[32]⟩ : ByteArray) ++ p.Batch
theorem Qk9 (p : Qb) : (txt p).data.toList = p.Mirror.data.toList ++ 32 :: p.Batch.data.toList := by
 unfold txt
 simp [ByteArray.data_append]
theorem Qq2 (k : Nat) (p : Qb) (h1 : p.Mirror.size <= 30) (h2 : p.Batch.size <= 30) : Xm k p = some (txt p) := by
 unfold Xm
 have hone : (⟨#[32]⟩ : ByteArray).size = 1 := rfl
 rw [if_pos (by omega), if_pos (by rw [ByteArray.size_append]; omega)]; rfl
theorem Qu1 (k : Nat) (p : Qb) (h1 : p.Mirror.size <= 30) (h2 : p.Batch.size <= 30) : Yl k p = some (txt p) := by
 have hj : Go.Lib.join ([p.Mirror, p.Batch].map (·.data.toList)) (⟨#[32]⟩ : ByteArray).data.toList = p.Mirror.data.toList ++ 32 :: p.Batch.data.toList := by
  unfold Go.Lib.join
  simp [List.intercalate]
 have hs1 := Go.Lib.size_eq p.Mirror
 have hs2 := Go.Lib.size_eq p.Batch
 unfold Yl Qeb Qct
 rw [if_pos ⟨by simp, by rw [hj, List.length_append, List.length_cons]; omega⟩]
 show some (Qxl [p.Mirror, p.Batch] (⟨#[32]⟩ : ByteArray)) = some (txt p)
 unfold Qxl
 rw [hj, <- Qk9, Go.Lib.mk_data]
theorem Qpj {s : ByteArray} : ∀ (d i x : Nat), allN s d i = true -> i <= x -> x < i + d -> namB (bt8 s x) = true
 | 0, i, x, _, h1, h2 => by omega
 | d + 1, i, x, h, h1, h2 => by
   simp only [allN, Bool.and_eq_true] at h
   by_cases c : x = i
   ·rw [c]; exact h.1
   ·exact Qpj d (i + 1) x h.2 (by omega) (by omega)
theorem Qs1 {s : ByteArray} (h : nameB s = true) (x : Nat) (hx : x < s.size) : s.data.toList[x]? ≠ some 32 := by
 intro e
 unfold nameB at h
 split at h
 ·rw [Bool.and_eq_true] at h
  have := Qpj s.size 0 x h.2 (by omega) (by omega)
  rw [(Qdj s x).2 e] at this
  exact absurd this (by decide)
 ·cases h
theorem back (p : Qb) (h1 : nameB p.Mirror = true) (h2 : nameB p.Batch = true) : pv (txt p) = (p, 0) := by
 have hl := Qk9 p
 have hs1 := Go.Lib.size_eq p.Mirror
 have hs2 := Go.Lib.size_eq p.Batch
 have hs : (txt p).size = p.Mirror.size + 1 + p.Batch.size := by
  rw [Go.Lib.size_eq, hl, List.length_append, List.length_cons]; omega
 have hm : bt8 (txt p) p.Mirror.size = 32 := (Qdj _ _).2 (by rw [hl, List.getElem?_append_right (by omega), show p.Mirror.size - p.Mirror.data.toList.length = 0 by omega]; rfl)
 have b1 : ∀ x, 0 <= x -> x < p.Mirror.size -> bt8 (txt p) x ≠ 32 := fun x _ hx e => by
  have := (Qdj _ _).1 e
  rw [hl, List.getElem?_append_left (by omega)] at this
  exact Qs1 h1 x hx this
 have b2 : ∀ x, p.Mirror.size + 1 <= x -> x < (txt p).size -> bt8 (txt p) x ≠ 32 := fun x h3 hx e => by
  have := (Qdj _ _).1 e
  rw [hl, List.getElem?_append_right (by omega), show x - p.Mirror.data.toList.length = (x - p.Mirror.size - 1) + 1 by omega, List.getElem?_cons_succ] at this
  exact Qs1 h2 _ (by omega) this
 have x1 : (txt p).extract 0 p.Mirror.size = p.Mirror := by
  rw [Go.Lib.extract_eq, hl, List.drop_zero, Nat.sub_zero, hs1, List.take_left', Go.Lib.mk_data]
  rfl
 have x2 : (txt p).extract (p.Mirror.size + 1) (txt p).size = p.Batch := by
  have : ((txt p).extract (p.Mirror.size + 1) (txt p).size).data.toList = p.Batch.data.toList := by
   rw [Qmu, hl, show p.Mirror.data.toList ++ 32 :: p.Batch.data.toList = (p.Mirror.data.toList ++ [32]) ++ p.Batch.data.toList by simp, List.drop_left' (by rw [List.length_append]; show p.Mirror.data.toList.length + 1 = _; omega)]
  rw [<- Go.Lib.mk_data ((txt p).extract (p.Mirror.size + 1) (txt p).size), this, Go.Lib.mk_data]
 unfold pv
 rw [Qgg (txt p) (txt p).size 0 0 p.Mirror.size (by omega) (by omega) (by omega) hm b1, Qgf (txt p) _ _ _ (by omega) b2, x1, x2]
theorem Qy1 (k : Nat) (x : Qeh) (ys : List Qb) (e1 e2 : Int) (hl : ys.length < 1000) : ∀ (d fuel i : Nat), ys.length = i + d -> d < fuel ->
 Qy k x (ys, e1) (ys, e2) fuel (i : Int) = some (.inr ()) := by
 intro d
 induction d with
 | zero =>
   intro fuel i h1 hf
   obtain ⟨g, rfl⟩ : ∃ g, fuel = g + 1 := ⟨fuel - 1, by omega⟩
   rw [Qy.eq_2]; dsimp only
   rw [if_neg (by omega)]
 | succ d ih =>
   intro fuel i h1 hf
   obtain ⟨g, rfl⟩ : ∃ g, fuel = g + 1 := ⟨fuel - 1, by omega⟩
   rw [Qy.eq_2]; dsimp only
   rw [if_pos (by omega), if_pos (by omega), if_pos (by omega), if_pos (by simp), Qsy (by omega)]
   exact ih g (i + 1) (by omega) (by omega)
theorem Qu2 (k : Nat) (hk : 1000 < k) (hk2 : k <= 100000000000000000000) (l : List Qd) (hl : l.length <= 43) (ps : List Qb) (hp : ps.length <= 203) (p : Qb) :
 ∃ ys e, Qae k l ps p = some (ys, e) /\ X0 k l ps p = some (ys, e) /\ ys.length <= 300 := by
 obtain ⟨m0, _, e2, e3⟩ := Qc2 k (by omega) l ps hl
 have hbase : (∀ j, j < l.length -> Qmd l j) -> Base l m0 := fun hg => ⟨e2, e3 (fun j hj => (hg j hj).uniq)⟩
 unfold Qae X0 Zk
 rw [Qv7 k hk hk2 l hl m0 hbase ps hp, Option.bind_some, Qpk k hk l hl m0 hbase ps hp, Option.bind_some]
 by_cases c : Qmv l m0 ps = 0
 ·have h200 := (Qq3 c).2.1
  have hq : (ps ++ [p]).length <= 203 := by rw [List.length_append]; show ps.length + 1 <= 203; omega
  rw [if_pos c, if_pos c, if_pos (by show 0 + ps.length <= 1000000000; omega), Option.bind_some, List.nil_append, if_pos (by show ps.length + 1 <= 1000000000; omega), if_pos (by omega), if_pos (by show ps.length + 1 <= 1000000000; omega), Qv7 k hk hk2 l hl m0 hbase (ps ++ [p]) hq, Option.bind_some, Qpk k hk l hl m0 hbase (ps ++ [p]) hq, Option.bind_some]
  by_cases c2 : Qmv l m0 (ps ++ [p]) = 0
  ·rw [if_pos c2]; exact ⟨_, _, rfl, rfl, by omega⟩
  ·rw [if_neg c2]; exact ⟨_, _, rfl, rfl, by show 0 <= 300; omega⟩
 ·rw [if_neg c, if_neg c]; exact ⟨_, _, rfl, rfl, by show 0 <= 300; omega⟩
theorem Qu3 (k : Nat) (hk : k = 100000000000000000000) (l : List Qd) (ps : List Qb) (x : Qeh) : Ji k l ps x = some true := by
 unfold Ji
 obtain ⟨b, hb, hb2⟩ := short_any k (by omega) l ps
 rw [show Qs2 k = some true from rfl, Option.bind_some, if_pos rfl, hb, Option.bind_some]
 cases b with
 | false => rfl
 | true =>
   obtain ⟨hl, hp⟩ := hb2 rfl
   have hst : Yk k l = some l := by unfold Yk; rw [if_pos (by simp; omega)]; rfl
   have hpr : Jt k ps = some ps := by unfold Jt; rw [if_pos (by simp; omega)]; rfl
   rw [if_pos rfl]
   by_cases c1 : 30 < (x.Promise.Mirror.size : Int)
   ·rw [if_pos c1]
   rw [if_neg c1]
   by_cases c2 : 30 < (x.Promise.Batch.size : Int)
   ·rw [if_pos c2]
   rw [if_neg c2]
   by_cases c3 : 100 < (x.Text.size : Int)
   ·rw [if_pos c3]
   obtain ⟨ys, e, a1, a2, a3⟩ := Qu2 k (by omega) (by omega) l hl ps hp x.Promise
   have hsz : (txt x.Promise).size <= 61 := by
    rw [Go.Lib.size_eq, Qk9, List.length_append, List.length_cons, <- Go.Lib.size_eq, <- Go.Lib.size_eq]; omega
   rw [if_neg c3, hst, Option.bind_some, hpr, Option.bind_some, a1, Option.bind_some, a2, Option.bind_some, if_pos rfl, if_pos rfl, show Qy k x (ys, e) (ys, e) k 0 = _ from Qy1 k x ys e e (by omega) ys.length k 0 (by omega) (by omega), Option.bind_some]
   dsimp only
   rw [Qs0 k x.Text (by omega), Option.bind_some, Qsz k (by omega) x.Text (by omega), Option.bind_some, Qu1 k x.Promise (by omega) (by omega), Option.bind_some, if_pos rfl, if_pos (by simp), Qq2 k x.Promise (by omega) (by omega), Option.bind_some, if_pos rfl, Qs0 k _ (by omega), Option.bind_some, Qhz k (by omega), Option.bind_some]
   cases n1 : nameB x.Promise.Mirror with
   | false => rfl
   | true =>
     rw [if_pos rfl, Qhz k (by omega), Option.bind_some]
     cases n2 : nameB x.Promise.Batch with
     | false => rfl
     | true =>
       rw [if_pos rfl, back x.Promise n1 n2, if_pos rfl]
       simp
theorem Qxm (l : List Qd) (ps : List Qb) (x : Qeh) : VC Try.prog 3 [VV.tr (l.flatMap Qc) l.length, VV.tr (ps.flatMap Qa) ps.length, VV.ag (Qgh x)] (vb true) := Qbr _ _ _ _ _ (Qu3 100000000000000000000 rfl l ps x)
end Go.Proofs.Ytfeedchjdnedjaa.Vg
end

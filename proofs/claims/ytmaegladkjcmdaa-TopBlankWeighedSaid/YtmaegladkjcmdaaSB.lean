import Derived.Test.YtmaegladkjcmdaaSA
set_option linter.unusedVariables false
set_option linter.unusedSimpArgs false
namespace Go.Proofs.Ytmaegladkjcmdaa.Vg
open Go Go.Proofs.Ytmaegladkjcmdaa.Ev Go.Proofs.Ytmaegladkjcmdaa.Vv
theorem Qfi {i : Nat} (h : i < 9223372036854775807) : w64 ((i : Int) + 1) = ((i + 1 : Nat) : Int) := by
 rw [Jv (by omega) (by omega)]; omega
theorem Qc0 {V : Type} (k n : ByteArray) (v : V) : ∀ l : List (ByteArray × V), mhas (mset l k v) n = (decide (n = k) || mhas l n)
 | [] => by simp [mset, mhas]
 | e :: l => by
   simp only [mset]
   by_cases h : k = e.1
   ·rw [decide_eq_true h]
    simp only [mhas]
    subst h
    by_cases h2 : n = e.1
    ·simp [h2]
    ·simp [h2]
   ·rw [decide_eq_false h]
    simp only [mhas]
    rw [Qc0 k n v l]
    cases decide (n = e.1) <;> cases decide (n = k) <;> cases mhas l n <;> rfl
theorem Qeg {V : Type} [Inhabited V] (k n : ByteArray) (v : V) : ∀ l : List (ByteArray × V), mget (mset l k v) n = match decide (n = k) with | true => v | false => mget l n
 | [] => by simp only [mset, mget]; cases decide (n = k) <;> rfl
 | e :: l => by
   simp only [mset]
   by_cases h : k = e.1
   ·rw [decide_eq_true h]
    simp only [mget]
    subst h
    cases decide (n = e.1) <;> rfl
   ·rw [decide_eq_false h]
    simp only [mget]
    rw [Qeg k n v l]
    by_cases h2 : n = e.1
    ·rw [decide_eq_true h2, decide_eq_false (show ¬ n = k by rw [h2]; exact fun h3 => h h3.symm)]
    ·rw [decide_eq_false h2]
theorem Qud (k : Nat) (b : Bool) (e : Int) : Zj k b e = some (match b with | true => 0 | false => e) := by
 unfold Zj
 cases b <;> rfl
theorem Qw3 (k : Nat) (a b c : Int) : Zl k a b c = some (inR b c a, 2) := by
 unfold Zl Qy
 rw [isw]; rfl
theorem Q18 (k : Nat) (a b c d e : Bool) : Qs k ((a, 4), (b, 5), (c, 2), (d, 2), (e, 2)) = some (match a with | false => 4 | true => match b with | false => 5 | true => match c && d && e with | false => 2 | true => 0) := by
 unfold Qs
 simp only [Qud, Option.bind_some]
 cases a <;> cases b <;> cases c <;> cases d <;> cases e <;> rfl
def Yx (l : List Qj) (i : Nat) (n : ByteArray) : Bool := (l.take i).any fun g => decide (n = g.Name)
def okB (b : Qj) : Bool := inR 1 1000 b.Diameter && inR 1 500 b.Thick && inR 0 1000 b.Count
def batE (l : List Qj) (i : Nat) : Int := match nameB (l.getD i default).Name with
 | false => 4
 | true => match !(Yx l i (l.getD i default).Name) with
   | false => 5
   | true => match okB (l.getD i default) with
     | false => 2
     | true => 0
def chkB (l : List Qj) : Nat -> Nat -> Int
 | 0, _ => 0
 | d + 1, i => match decide (batE l i = 0) with | true => chkB l d (i + 1) | false => batE l i
def errS {A : Type} (e : Int) (a : A) : Sum (Int × A) A := match decide (e = 0) with | true => .inr a | false => .inl (e, a)
theorem Qg3 (l : List Qj) (i : Nat) (hi : i < l.length) (n : ByteArray) : Yx l (i + 1) n = (decide (n = (l.getD i default).Name) || Yx l i n) := by
 unfold Yx
 rw [List.take_add_one, List.getElem?_eq_getElem hi, List.any_append]
 rw [List.getD_eq_getElem?_getD, List.getElem?_eq_getElem hi]
 simp [Bool.or_comm]
theorem Qvp (k : Nat) (hk : 1000 < k) (hk2 : k <= 100000000000000000000) (l : List Qj) (hl : l.length <= 43) (r1 : Bool × Int) (r2 : Int) : ∀ (d fuel i : Nat) (y : List (ByteArray × Bool)), l.length = i + d -> d < fuel -> (∀ n, mhas y n = Yx l i n) -> (∀ n, mhas y n = true -> mget y n = true) ->
 ∃ z, Zw k l r1 r2 fuel y (i : Int) = some (errS (chkB l d i) z) := by
 intro d
 induction d with
 | zero =>
   intro fuel i y h hf _ _
   obtain ⟨g, rfl⟩ : ∃ g, fuel = g + 1 := ⟨fuel - 1, by omega⟩
   refine ⟨y, ?_⟩
   rw [Zw.eq_2, if_neg (by omega)]; rfl
 | succ d ih =>
   intro fuel i y h hf hy hy2
   obtain ⟨g, rfl⟩ : ∃ g, fuel = g + 1 := ⟨fuel - 1, by omega⟩
   have hi : i < l.length := by omega
   obtain ⟨z, hz⟩ := ih g (i + 1) (mset y (l.getD i default).Name true) (by omega) (by omega) (fun n => by rw [Qc0, Qg3 l i hi, hy]) (fun n hn => by
    rw [Qc0] at hn
    rw [Qeg]
    cases hd : decide (n = (l.getD i default).Name) with
    | true => rfl
    | false => rw [hd, Bool.false_or] at hn; exact hy2 n hn)
   have key : ∀ b : Bool, ((Yn k (l.getD i default).Name).bind fun r1 => (Qy k r1 4).bind fun r2 => (Qy k b 5).bind fun r3 => (Zl k (l.getD i default).Diameter 1 1000).bind fun r4 => (Zl k (l.getD i default).Thick 1 500).bind fun r5 => (Zl k (l.getD i default).Count 0 1000).bind fun r6 => (Qs k (r2, r3, r4, r5, r6)).bind fun r => if r = 0 then some (errS (chkB l d (i + 1)) z) else some (.inl (r, mset y (l.getD i default).Name true))) = (match nameB (l.getD i default).Name with | false => some (.inl (4, mset y (l.getD i default).Name true)) | true => match b with | false => some (.inl (5, mset y (l.getD i default).Name true)) | true => match okB (l.getD i default) with | false => some (.inl (2, mset y (l.getD i default).Name true)) | true => some (errS (chkB l d (i + 1)) z)) := by
    intro b
    unfold Qy
    simp only [Qng k (show 100 < k by omega) hk2, Qw3, Q18, Option.bind_some]
    unfold okB
    cases nameB (l.getD i default).Name with
    | false => rfl
    | true =>
      cases b with
      | false => rfl
      | true => cases (inR 1 1000 (l.getD i default).Diameter && inR 1 500 (l.getD i default).Thick && inR 0 1000 (l.getD i default).Count) <;> rfl
   rw [Zw.eq_2, if_pos (by omega), if_pos (by omega), Int.toNat_natCast, Qfi (by omega), hz, key, key, hy]
   have hg := hy2 (l.getD i default).Name
   rw [hy] at hg
   rcases Bool.eq_false_or_eq_true (Yx l i (l.getD i default).Name) with hs | hs
   ·rcases Bool.eq_false_or_eq_true (nameB (l.getD i default).Name) with hn | hn
    ·have hb : batE l i = 5 := by unfold batE; simp only [hn, hs, Bool.not_true]
     simp only [chkB, hb, hs, hn, hg hs, if_true, Bool.not_true]
     exact ⟨_, rfl⟩
    ·have hb : batE l i = 4 := by unfold batE; simp only [hn]
     simp only [chkB, hb, hs, hn, if_true]
     exact ⟨_, rfl⟩
   ·rcases Bool.eq_false_or_eq_true (nameB (l.getD i default).Name) with hn | hn
    ·rcases Bool.eq_false_or_eq_true (okB (l.getD i default)) with ho | ho
     ·have hb : batE l i = 0 := by unfold batE; simp only [hn, hs, ho, Bool.not_false]
      simp only [chkB, hb, hs, hn, ho, Bool.not_false, Bool.false_eq_true, if_false]
      exact ⟨z, rfl⟩
     ·have hb : batE l i = 2 := by unfold batE; simp only [hn, hs, ho, Bool.not_false]
      simp only [chkB, hb, hs, hn, ho, Bool.not_false, Bool.false_eq_true, if_false]
      exact ⟨_, rfl⟩
    ·have hb : batE l i = 4 := by unfold batE; simp only [hn]
     simp only [chkB, hb, hs, hn, Bool.not_false, Bool.false_eq_true, if_false]
     exact ⟨_, rfl⟩
def batS (l : List Qj) : Int := match decide (l.length <= 40) with | false => 8 | true => chkB l l.length 0
theorem Qgm (k : Nat) (hk : 1000 < k) (hk2 : k <= 100000000000000000000) (l : List Qj) (hl : l.length <= 43) : Y4 k l = some (batS l) := by
 unfold Y4 Qy batS
 rw [show decide ((l.length : Int) <= 40) = decide (l.length <= 40) by congr 1; simp only [eq_iff_iff]; omega, Option.bind_some, Qud, Option.bind_some]
 cases decide (l.length <= 40) with
 | false => rfl
 | true =>
   obtain ⟨z, hz⟩ := Qvp k hk hk2 l hl (true, 8) 0 l.length k 0 [] (by omega) (by omega) (fun n => by simp [mhas, Yx]) (fun n h => by cases h)
   dsimp only
   rw [if_pos rfl, show Zw k l (true, 8) 0 k [] 0 = _ from hz, Option.bind_some]
   unfold errS
   cases h1 : decide (chkB l l.length 0 = 0) with
   | true => rw [of_decide_eq_true h1]
   | false => dsimp only; rw [if_neg (of_decide_eq_false h1)]
theorem Qfo (l : List Qj) (n : ByteArray) {i j : Nat} (h : i <= j) (hs : Yx l i n = true) : Yx l j n = true := by
 unfold Yx at hs ⊢
 rw [List.any_eq_true] at hs ⊢
 obtain ⟨x, hx, he⟩ := hs
 exact ⟨x, (List.take_sublist_take_left h).subset hx, he⟩
theorem Qig (l : List Qj) (n : ByteArray) {i : Nat} (hi : i < l.length) (h : (l.getD i default).Name = n) : Yx l (i + 1) n = true := by
 rw [Qg3 l i hi, decide_eq_true h.symm]; rfl
structure Qoa (l : List Qj) (j : Nat) : Prop where
 name : nameB (l.getD j default).Name = true
 uniq : Yx l j (l.getD j default).Name = false
 dia : 1 <= (l.getD j default).Diameter /\ (l.getD j default).Diameter <= 1000
 thick : 1 <= (l.getD j default).Thick /\ (l.getD j default).Thick <= 500
 count : 0 <= (l.getD j default).Count /\ (l.getD j default).Count <= 1000
theorem Qvq {l : List Qj} {j : Nat} (h : batE l j = 0) : Qoa l j := by
 unfold batE at h
 cases h1 : nameB (l.getD j default).Name with
 | false => rw [h1] at h; simp at h
 | true =>
   rw [h1] at h
   cases h2 : Yx l j (l.getD j default).Name with
   | true => rw [h2] at h; simp at h
   | false =>
     rw [h2] at h
     cases h3 : okB (l.getD j default) with
     | false => rw [h3] at h; simp at h
     | true =>
       unfold okB at h3
       rw [Bool.and_eq_true, Bool.and_eq_true] at h3
       exact ⟨h1, h2, Qi9.1 h3.1.1, Qi9.1 h3.1.2, Qi9.1 h3.2⟩
theorem Qpn (l : List Qj) : ∀ (d i : Nat), chkB l d i = 0 -> ∀ j, i <= j -> j < i + d -> Qoa l j
 | 0, i, _, j, h1, h2 => by omega
 | d + 1, i, h, j, h1, h2 => by
   simp only [chkB] at h
   cases hd : decide (batE l i = 0) with
   | false => rw [hd] at h; exact absurd h (of_decide_eq_false hd)
   | true =>
     rw [hd] at h
     rcases Nat.eq_or_lt_of_le h1 with rfl | h3
     ·exact Qvq (of_decide_eq_true hd)
     ·exact Qpn l d (i + 1) h j (by omega) (by omega)
theorem Qh7 {l : List Qj} (h : batS l = 0) : l.length <= 40 /\ ∀ j, j < l.length -> Qoa l j := by
 unfold batS at h
 cases hd : decide (l.length <= 40) with
 | false => rw [hd] at h; simp at h
 | true => rw [hd] at h; exact ⟨of_decide_eq_true hd, fun j hj => Qpn l l.length 0 h j (by omega) (by omega)⟩
end Go.Proofs.Ytmaegladkjcmdaa.Vg

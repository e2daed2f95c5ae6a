import Derived.Test.YtjomicmhnbmhoaaPD
import Derived.Test.YtjomicmhnbmhoaaB6
set_option linter.unusedVariables false
set_option linter.unusedSimpArgs false
namespace Go.Proofs.Ytjomicmhnbmhoaa.Vg
open Go Go.Proofs.Ytjomicmhnbmhoaa.Ev Go.Proofs.Ytjomicmhnbmhoaa.Vv
def absI (n : Int) : Int := if n < 0 then -n else n
def cst (a b : Int) : Int := if 648000 < absI (b - a) then absI (b - a) + 10000000000 else absI (b - a)
def small (a : Int) : Prop := -1000000000000 <= a /\ a <= 1000000000000
theorem Qtm {a b : Int} {A : Int} (ha : -A <= a /\ a <= A) (hb : -A <= b /\ b <= A) : 0 <= absI (b - a) /\ absI (b - a) <= 2 * A := by unfold absI; split <;> omega
theorem Qpt (k : Nat) {a b : Int} (ha : small a) (hb : small b) : Qea k a b = some (absI (b - a), decide (648000 < absI (b - a))) := by
 unfold Qea
 unfold small at ha hb
 have e : maxI (w64 (b - a)) (w64 (a - b)) = absI (b - a) := by
  rw [Ji (n := b - a) (by omega) (by omega), Ji (n := a - b) (by omega) (by omega)]
  unfold maxI absI
  split <;> split <;> omega
 rw [e]
theorem Q3l (k : Nat) {a b : Int} (ha : small a) (hb : small b) : Qdj k a b = some (absI (b - a), decide (648000 < absI (b - a))) := by
 unfold Qdj Qfi
 unfold small at ha hb
 rw [Ji (n := b - a) (by omega) (by omega)]
 unfold absI
 by_cases h : b - a < 0
 ·rw [if_pos h, if_pos h, Ji (by omega) (by omega), Option.bind_some, show 0 - (b - a) = -(b - a) by omega]
 ·rw [if_neg h, if_neg h, Option.bind_some]
theorem Qjb (k : Nat) {a b : Int} (ha : small a) (hb : small b) : Yh k a b = some (cst a b) := by
 unfold Yh cst
 have h := Qtm ha hb
 rw [Qpt k ha hb, Option.bind_some]
 by_cases c : 648000 < absI (b - a)
 ·rw [if_pos (by simpa using c), if_pos c, Ji (by omega) (by omega)]
 ·rw [if_neg (by simpa using c), if_neg c]
theorem Qqv (k : Nat) {a b : Int} (ha : small a) (hb : small b) : Qac k a b = some (cst a b) := by
 unfold Qac cst
 have h := Qtm ha hb
 rw [Q3l k ha hb, Option.bind_some]
 by_cases c : 648000 < absI (b - a)
 ·rw [if_pos (by simpa using c), if_pos c, Ji (by omega) (by omega)]
 ·rw [if_neg (by simpa using c), if_neg c]
def near (a : Int) : Prop := -25920000 <= a /\ a <= 25920000
theorem near.small {a : Int} (h : near a) : small a := by unfold near at h; unfold Vg.small; omega
theorem Ql3 {a b : Int} (ha : near a) (hb : near b) : 0 <= cst a b /\ cst a b <= 11000000000 := by
 have h := Qtm (A := 25920000) ha hb
 unfold cst; split <;> omega
def pos (m : Qc) (t : Qa) (d x : Int) : Int := apA m t d + x * 1296000
theorem Qtn (a least most : Int) : ∀ (n : Nat) (x y : Int), y ∈ flt a least most n x -> least <= a + y * 1296000 /\ a + y * 1296000 <= most
 | 0, x, y, h => by cases h
 | n + 1, x, y, h => by
   simp only [flt] at h
   cases c : inR least most (a + x * 1296000) with
   | true =>
     rw [c] at h
     rcases List.mem_cons.1 h with rfl | h
     ·exact Qkn.1 c
     ·exact Qtn a least most n (x + 1) y h
   | false => rw [c] at h; exact Qtn a least most n (x + 1) y h
theorem Q5g {m : Qc} (hm : Mnt m) {t : Qa} {d x : Int} (h : x ∈ trn m (apA m t d)) : m.Least <= pos m t d x /\ pos m t d x <= m.Most := Qtn _ _ _ _ _ _ h
theorem Qmm {m : Qc} (hm : Mnt m) {t : Qa} {d x : Int} (h : x ∈ trn m (apA m t d)) : near (pos m t d x) := by
 have := Q5g hm h
 have h1 := hm.lo
 have h2 := hm.hi
 unfold near; omega
def chL (m : Qc) (d : Int) : List Qa -> List Int -> Option (List Int)
 | [], _ => some []
 | _ :: _, [] => none
 | t :: l, x :: xs => if x ∈ trn m (apA m t d) then (chL m d l xs).map (pos m t d x :: ·) else none
theorem Qwy (k : Nat) (xs : List Int) (v : Int) (hl : xs.length < 1000000000) : ∀ (d fuel i : Nat), xs.length = i + d -> d < fuel ->
 (v ∈ xs.drop i -> ∃ j : Nat, Zh k xs v fuel (i : Int) = some (.inl (j : Int)) /\ j < xs.length /\ xs.getD j 0 = v) /\ (¬v ∈ xs.drop i -> Zh k xs v fuel (i : Int) = some (.inr ())) := by
 intro d
 induction d with
 | zero =>
   intro fuel i h hf
   obtain ⟨g, rfl⟩ : ∃ g, fuel = g + 1 := ⟨fuel - 1, by omega⟩
   rw [Zh.eq_2, if_neg (by omega), List.drop_eq_nil_of_le (by omega)]
   exact ⟨fun h => absurd h (by simp), fun _ => rfl⟩
 | succ d ih =>
   intro fuel i h hf
   obtain ⟨g, rfl⟩ : ∃ g, fuel = g + 1 := ⟨fuel - 1, by omega⟩
   obtain ⟨h1, h2⟩ := ih g (i + 1) (by omega) (by omega)
   rw [Zh.eq_2, if_pos (by omega), if_pos (by omega), Js (by omega), Xt (y := xs) (i := i) (by omega) 0]
   simp only [Int.toNat_natCast]
   by_cases c : v = xs.getD i 0
   ·rw [if_pos c]
    exact ⟨fun _ => ⟨i, rfl, by omega, c.symm⟩, fun hn => absurd (by rw [c]; exact List.mem_cons_self) hn⟩
   ·rw [if_neg c]
    exact ⟨fun hm => h1 ((List.mem_cons.1 hm).resolve_left c), fun hn => h2 (fun hm => hn (List.mem_cons_of_mem _ hm))⟩
theorem set_mid {α : Type} (p : List α) (d : Nat) (z v : α) : (p ++ List.replicate (d + 1) z).set p.length v = (p ++ [v]) ++ List.replicate d z := by
 rw [List.replicate_succ, List.set_append_right _ _ (Nat.le_refl _), Nat.sub_self]
 simp
theorem Q1f {α : Type} {p : List α} {d i : Nat} {z v : α} (h : p.length = i) : (p ++ List.replicate (d + 1) z).set i v = (p ++ [v]) ++ List.replicate d z := by subst h; exact set_mid p d z v
theorem Qgd {ps : List Int} (hp : ∀ p ∈ ps, near p) {i : Nat} (h : i < ps.length) : near (ps.getD i 0) := hp _ (by rw [List.getD_eq_getElem?_getD, List.getElem?_eq_getElem h]; exact List.getElem_mem _)
theorem Q1g (k : Nat) (hk : 100 < k) {m : Qc} {l : List Qa} {p : At2} (h : Tr m l p) (xs : List Int) (hx : xs.length = l.length) (b : Int) : ∀ (d fuel i : Nat) (y : List Int), l.length = i + d -> d < fuel -> y.length = i ->
 Xu k ⟨b, l.map (stp m p.e0)⟩ xs fuel (y ++ List.replicate d 0) (i : Int) = some (match chL m p.e0 (l.drop i) (xs.drop i) with | some ps => .inr (y ++ ps) | none => .inl ()) := by
 have hlen := h.len
 intro d
 induction d with
 | zero =>
   intro fuel i y hi hf hy
   obtain ⟨g, rfl⟩ : ∃ g, fuel = g + 1 := ⟨fuel - 1, by omega⟩
   rw [Xu.eq_2, if_neg (by omega), List.drop_eq_nil_of_le (by omega)]
   simp [chL]
 | succ d ih =>
   intro fuel i y hi hf hy
   obtain ⟨g, rfl⟩ : ∃ g, fuel = g + 1 := ⟨fuel - 1, by omega⟩
   have hs : (l.map (stp m p.e0)).getD i default = stp m p.e0 (l.getD i default) := by
    rw [List.getD_eq_getElem?_getD, List.getElem?_map, List.getD_eq_getElem?_getD, List.getElem?_eq_getElem (by omega)]; rfl
   rw [Xu.eq_2, if_pos (by omega), if_pos (by omega), if_pos (by simp; omega), Js (by omega), Xt (y := l) (i := i) (by omega) default, Xt (y := xs) (i := i) (by omega) 0]
   simp only [Int.toNat_natCast, hs]
   show ((Qbb k (trn m (apA m (l.getD i default) p.e0)) (xs.getD i 0)).bind _) = _
   unfold Qbb
   have hlt := Qni m (apA m (l.getD i default) p.e0)
   obtain ⟨g1, g2⟩ := Qwy k (trn m (apA m (l.getD i default) p.e0)) (xs.getD i 0) (by omega) (trn m (apA m (l.getD i default) p.e0)).length k 0 (by omega) (by omega)
   rw [List.drop_zero] at g1 g2
   simp only [chL]
   by_cases c : xs.getD i 0 ∈ trn m (apA m (l.getD i default) p.e0)
   ·obtain ⟨j, e1, e2, e3⟩ := g1 c
    have hp : (posL m (l.getD i default) p.e0).getD j 0 = pos m (l.getD i default) p.e0 (xs.getD i 0) := by
     unfold posL
     rw [List.getD_eq_getElem?_getD, List.getElem?_map, List.getElem?_eq_getElem e2]
     rw [List.getD_eq_getElem?_getD, List.getElem?_eq_getElem e2] at e3
     show apA m _ _ + _ * 1296000 = _
     rw [show (trn m (apA m (l.getD i default) p.e0))[j] = xs.getD i 0 from e3]; rfl
    have hpl : (posL m (l.getD i default) p.e0).length = (trn m (apA m (l.getD i default) p.e0)).length := by unfold posL; rw [List.length_map]
    rw [show Zh k (trn m (apA m (l.getD i default) p.e0)) (xs.getD i 0) k 0 = _ from e1, Option.bind_some]
    dsimp only
    rw [Option.bind_some, if_neg (by omega), if_pos (by show 0 <= (j : Int) /\ (j : Int) < ((posL m (l.getD i default) p.e0).length : Int); omega), if_pos (by simp; omega), Q1f hy, ih g (i + 1) _ (by omega) (by omega) (by simp; omega), if_pos c, show (stp m p.e0 (l.getD i default)).positions.getD ((j : Int)).toNat 0 = _ from hp]
    cases chL m p.e0 (l.drop (i + 1)) (xs.drop (i + 1)) with
    | none => rfl
    | some ps => simp
   ·rw [show Zh k (trn m (apA m (l.getD i default) p.e0)) (xs.getD i 0) k 0 = _ from g2 c, Option.bind_some]
    dsimp only
    rw [Option.bind_some, if_pos (by decide), if_neg c]
theorem Qwz (k : Nat) (hk : 100 < k) {m : Qc} {l : List Qa} {p : At2} (h : Tr m l p) (xs : List Int) (b : Int) (hxl : xs.length < 9223372036854775807) : Qcw k ⟨b, l.map (stp m p.e0)⟩ xs = some (if xs.length = l.length then (match chL m p.e0 l xs with | some ps => (ps, (0 : Int)) | none => ([], 6)) else ([], 10)) := by
 unfold Qcw
 have hlen := h.len
 by_cases c : xs.length = l.length
 ·rw [if_pos (by simp [c]), if_pos (by omega), if_pos c]
  have := Q1g k hk h xs c b l.length k 0 [] (by omega) (by omega) rfl
  rw [List.nil_append, List.drop_zero, List.drop_zero] at this
  rw [show ((xs.length : Int)).toNat = l.length by omega, show Xu k ⟨b, l.map (stp m p.e0)⟩ xs k (List.replicate l.length 0) 0 = _ from this, Option.bind_some]
  cases chL m p.e0 l xs <;> rfl
 ·rw [if_neg (by simp; omega), if_neg c]
theorem Quu {m : Qc} (hm : Mnt m) {d : Int} : ∀ {l : List Qa} {xs ps : List Int}, chL m d l xs = some ps -> (∀ p ∈ ps, near p) /\ ps.length = l.length
 | [], xs, ps, h => by simp only [chL, Option.some.injEq] at h; subst h; exact ⟨fun p hp => absurd hp (by simp), rfl⟩
 | t :: l, [], ps, h => by cases h
 | t :: l, x :: xs, ps, h => by
   simp only [chL] at h
   split at h
   ·rename_i c
    cases hc : chL m d l xs with
    | none => rw [hc] at h; cases h
    | some qs =>
      rw [hc] at h
      simp only [Option.map_some, Option.some.injEq] at h
      subst h
      obtain ⟨g1, g2⟩ := Quu hm hc
      refine ⟨fun p hp => ?_, by simp [g2]⟩
      rcases List.mem_cons.1 hp with rfl | hp
      ·exact Qmm hm c
      ·exact g1 p hp
   ·cases h
def sumC : Int -> List Int -> Int
 | _, [] => 0
 | f, p :: ps => cst f p + sumC p ps
theorem Q1h (k : Nat) (ps : List Int) (e : Int) (hp : ∀ p ∈ ps, near p) (hl : ps.length <= 20) : ∀ (d fuel i : Nat) (x f : Int), ps.length = i + d -> d < fuel -> near f -> 0 <= x -> x <= 11000000000 * i ->
 X5 k (ps, e) fuel x f (i : Int) = some (x + sumC f (ps.drop i)) := by
 intro d
 induction d with
 | zero =>
   intro fuel i x f h hf hn h1 h2
   obtain ⟨g, rfl⟩ : ∃ g, fuel = g + 1 := ⟨fuel - 1, by omega⟩
   rw [X5.eq_2, if_neg (show ¬(i : Int) < (ps.length : Int) by omega), List.drop_eq_nil_of_le (by omega)]
   simp [sumC]
 | succ d ih =>
   intro fuel i x f h hf hn h1 h2
   obtain ⟨g, rfl⟩ : ∃ g, fuel = g + 1 := ⟨fuel - 1, by omega⟩
   have hq : near (ps.getD i 0) := hp _ (by rw [List.getD_eq_getElem?_getD, List.getElem?_eq_getElem (by omega)]; exact List.getElem_mem _)
   have hc := Ql3 hn hq
   rw [X5.eq_2, if_pos (show (i : Int) < (ps.length : Int) by omega), if_pos (show 0 <= (i : Int) /\ (i : Int) < (ps.length : Int) by omega), Js (by omega)]
   simp only [Int.toNat_natCast]
   rw [Qjb k hn.small hq.small, Option.bind_some, Ji (by omega) (by omega), ih g (i + 1) _ _ (by omega) (by omega) hq (by omega) (by omega), Xt (y := ps) (i := i) (by omega) 0]
   simp only [sumC]
   congr 1; omega
def chE (m : Qc) (l : List Qa) (p : At2) (xs : List Int) : Int × Int := if xs.length = l.length then (match chL m p.e0 l xs with | some ps => (sumC p.e1 ps, 0) | none => (0, 6)) else (0, 10)
theorem Qio {m : Qc} {l : List Qa} {p : At2} (h : Tr m l p) : near p.e1 := by
 have h1 := h.mnt.lo
 have h2 := h.mnt.hi
 have h3 := h.beg
 unfold near; omega
theorem Qr7 (k : Nat) (hk : 100 < k) (hk2 : k <= 100000000000000000000) (m : Qc) (h1 : m.Refraction.length < k) (h2 : m.Drift.length < k) (l : List Qa) (p : At2) (xs : List Int) (hxl : xs.length < 9223372036854775807) :
 Qb1 k m l p xs = some (if (trE m l p).2 = 0 then chE m l p xs else (0, (trE m l p).2)) := by
 unfold Qb1
 rw [Qnj k hk hk2 m h1 h2, Option.bind_some]
 by_cases c : (trE m l p).2 = 0
 ·have hT := Tr.of c
  have hlen := hT.len
  simp only [if_pos c]
  rw [Qwz k hk hT xs p.e1 hxl, Option.bind_some]
  unfold chE
  by_cases c1 : xs.length = l.length
  ·simp only [if_pos c1]
   cases hc : chL m p.e0 l xs with
   | none => rfl
   | some ps =>
     obtain ⟨g1, g2⟩ := Quu hT.mnt hc
     dsimp only
     rw [if_pos rfl, show X5 k (ps, 0) k 0 p.e1 0 = _ from Q1h k ps 0 g1 (by omega) ps.length k 0 0 p.e1 (by omega) (by omega) (Qio hT) (by decide) (by decide), Option.bind_some, List.drop_zero, Int.zero_add]
  ·simp only [if_neg c1]
   rfl
 ·simp only [if_neg c]
theorem Q79 (k : Nat) (xs : List Int) (v : Int) (hl : xs.length < 1000000000) : ∀ (d fuel i : Nat), xs.length = i + d -> d < fuel ->
 Ja k xs v fuel (i : Int) = some (if v ∈ xs.drop i then .inl () else .inr ()) := by
 intro d
 induction d with
 | zero =>
   intro fuel i h hf
   obtain ⟨g, rfl⟩ : ∃ g, fuel = g + 1 := ⟨fuel - 1, by omega⟩
   rw [Ja.eq_2, if_neg (by omega), List.drop_eq_nil_of_le (by omega)]
   simp
 | succ d ih =>
   intro fuel i h hf
   obtain ⟨g, rfl⟩ : ∃ g, fuel = g + 1 := ⟨fuel - 1, by omega⟩
   rw [Ja.eq_2, if_pos (by omega), if_pos (by omega), Js (by omega), ih g (i + 1) (by omega) (by omega), Xt (y := xs) (i := i) (by omega) 0]
   simp only [Int.toNat_natCast, List.mem_cons]
   by_cases c : xs.getD i 0 = v
   ·rw [if_pos c, if_pos (.inl c.symm)]
   ·rw [if_neg c]
    by_cases c2 : v ∈ xs.drop (i + 1)
    ·rw [if_pos c2, if_pos (.inr c2)]
    ·rw [if_neg c2, if_neg (fun h => h.elim (fun e => c e.symm) c2)]
theorem Q3m (k : Nat) (xs : List Int) (v : Int) (hl : xs.length < 1000000000) (hk : xs.length < k) : Qeb k xs v = some (decide (v ∈ xs)) := by
 unfold Qeb
 rw [show Ja k xs v k 0 = _ from Q79 k xs v hl xs.length k 0 (by omega) hk, List.drop_zero, Option.bind_some]
 by_cases c : v ∈ xs
 ·rw [if_pos c, decide_eq_true c]
 ·rw [if_neg c, decide_eq_false c]
theorem Q5h (m : Qc) (a x : Int) (h : x ∈ trn m a) : -30 <= x /\ x <= 30 := by
 have key : ∀ (n : Nat) (z : Int), x ∈ flt a m.Least m.Most n z -> z <= x /\ x < z + n := by
  intro n
  induction n with
  | zero => intro z h; cases h
  | succ n ih =>
    intro z h
    simp only [flt] at h
    split at h
    ·rcases List.mem_cons.1 h with rfl | h
     ·omega
     ·have := ih (z + 1) h; omega
    ·have := ih (z + 1) h; omega
 have := key 43 (-21) h
 omega
theorem Qkp (k : Nat) (hk : 100 < k) {m : Qc} {t : Qa} {d x : Int} (hm : Mnt m) (ht : Tgt t) (hd : 0 <= d /\ d <= 100000) (hx : x ∈ trn m (apA m t d)) : J7 k m t d x = some (pos m t d x) := by
 unfold J7
 have h1 := Q5h _ _ _ hx
 have h2 := Qxv m t d
 rw [Qnu k hk hm ht hd, Option.bind_some, Ji (n := x * 1296000) (by omega) (by omega), Ji (by dsimp only; omega) (by dsimp only; omega)]
 rfl
theorem Qx0 (k : Nat) (hk : 100 < k) {m : Qc} {l : List Qa} {p : At2} (h : Tr m l p) (xs : List Int) (hx : xs.length = l.length) : ∀ (d fuel i : Nat) (x f : Int), l.length = i + d -> d < fuel -> near f -> 0 <= x -> x <= 11000000000 * i ->
 Zl k m l p xs fuel x f (i : Int) = some (match chL m p.e0 (l.drop i) (xs.drop i) with | some ps => .inr (x + sumC f ps) | none => .inl ()) := by
 have hlen := h.len
 intro d
 induction d with
 | zero =>
   intro fuel i x f hi hf hn h1 h2
   obtain ⟨g, rfl⟩ : ∃ g, fuel = g + 1 := ⟨fuel - 1, by omega⟩
   rw [Zl.eq_2, if_neg (by omega), List.drop_eq_nil_of_le (by omega)]
   simp [chL, sumC]
 | succ d ih =>
   intro fuel i x f hi hf hn h1 h2
   obtain ⟨g, rfl⟩ : ∃ g, fuel = g + 1 := ⟨fuel - 1, by omega⟩
   obtain ⟨ht, hs⟩ := h.tgt i (by omega)
   have hlt := Qni m (apA m (l.getD i default) p.e0)
   rw [Zl.eq_2, if_pos (by omega), if_pos (by omega), Js (by omega), Xt (y := l) (i := i) (by omega) default, Xt (y := xs) (i := i) (by omega) 0]
   simp only [Int.toNat_natCast]
   rw [Qko k hk h.mnt ht h.day, Option.bind_some, if_pos hs, if_pos (by omega), Q3m k _ _ (by dsimp only; omega) (by dsimp only; omega), Option.bind_some]
   simp only [chL]
   by_cases c : xs.getD i 0 ∈ trn m (apA m (l.getD i default) p.e0)
   ·have hq := Qmm h.mnt c
    have hc := Ql3 hn hq
    rw [if_pos (by simpa using c), Qkp k hk h.mnt ht h.day c, Option.bind_some, Qqv k hn.small hq.small, Option.bind_some, Ji (by omega) (by omega), ih g (i + 1) _ _ (by omega) (by omega) hq (by omega) (by omega), if_pos c]
    cases chL m p.e0 (l.drop (i + 1)) (xs.drop (i + 1)) with
    | none => rfl
    | some ps =>
      simp only [Option.map_some, sumC]
      congr 2; omega
   ·rw [if_neg (by simpa using c), if_neg c]
theorem Qw0 (k : Nat) (hk : 100 < k) {m : Qc} {l : List Qa} {p : At2} (h : Tr m l p) (xs : List Int) : Wh k m l p xs = some (chE m l p xs) := by
 unfold Wh chE
 have hlen := h.len
 by_cases c : xs.length = l.length
 ·rw [if_pos (by simp [c]), if_pos c, show Zl k m l p xs k 0 p.e1 0 = _ from Qx0 k hk h xs c l.length k 0 0 p.e1 (by omega) (by omega) (Qio h) (by decide) (by decide), List.drop_zero, List.drop_zero, Option.bind_some]
  cases chL m p.e0 l xs with
  | none => rfl
  | some ps =>
    show some ((0 : Int) + sumC p.e1 ps, (0 : Int)) = some (sumC p.e1 ps, 0)
    rw [Int.zero_add]
 ·rw [if_neg (by omega), if_neg c]
end Go.Proofs.Ytjomicmhnbmhoaa.Vg

import Derived.Test.YtenebnfhhhcfaaaG7
section
set_option linter.unusedVariables false
set_option linter.unusedSimpArgs false
namespace Go.Proofs.Ytenebnfhhhcfaaa.Vg
open Go Go.Proofs.Ytenebnfhhhcfaaa.Ev Go.Proofs.Ytenebnfhhhcfaaa.Vv
theorem Jc {n : Int} (h1 : -9223372036854775808 <= n) (h2 : n <= 9223372036854775807) : w64 n = n := by
 unfold w64 IntKind.wrap
 simp [IntKind.signed, IntKind.bits]
 omega
theorem Qc9 {i : Nat} (h : i < 1000000000000) : w64 ((i : Int) + 1) = ((i + 1 : Nat) : Int) := by
 rw [Jc (by omega) (by omega)]; omega
theorem Qfi {α : Type} {y : List α} {i : Nat} (h : i < y.length) (d : α) : y.drop i = y.getD i d :: y.drop (i + 1) := by
 rw [List.drop_eq_getElem_cons h, List.getD_eq_getElem?_getD, List.getElem?_eq_getElem h]; rfl
theorem Qcn (x y : Int) : maxI x y = if y > x then y else x := rfl
theorem Qco (x y : Int) : minI x y = if y < x then y else x := rfl
def sumB (b : Bool) : Sum Unit Unit := match b with | true => .inr () | false => .inl ()
def inR (a b n : Int) : Bool := decide (a <= n /\ n <= b)
theorem Qf2 {a b n : Int} : inR a b n = true ↔ a <= n /\ n <= b := by unfold inR; exact decide_eq_true_iff
theorem Qru {a b n : Int} : inR a b n = false ↔ ¬(a <= n /\ n <= b) := by unfold inR; exact decide_eq_false_iff_not
theorem Qiy (k : Nat) (n a b : Int) : Z8 k n a b = some (inR a b n) := by
 unfold Z8
 by_cases h : a <= n
 ·rw [if_pos h]; unfold inR; congr 1; exact decide_eq_decide.2 (by omega)
 ·rw [if_neg h, Qru.2 (by omega)]
theorem Qda (k : Nat) (n a b : Int) : Z8 k n a b = some (inR a b n) := by
 unfold Z8
 by_cases h : a <= n
 ·rw [if_pos h]; unfold inR; congr 1; exact decide_eq_decide.2 (by omega)
 ·rw [if_neg h, Qru.2 (by omega)]
def phB (L : List Int) : Bool := L.all (inR (-1) 999)
theorem cf_l (k : Nat) (x : Qb) (hl : x.Phases.length < 1000000000000) : ∀ (d fuel i : Nat), x.Phases.length = i + d -> d < fuel ->
 Qw k x fuel (i : Int) = some (sumB ((x.Phases.drop i).all (inR (-1) 999))) := by
 intro d
 induction d with
 | zero =>
   intro fuel i h hf
   obtain ⟨g, rfl⟩ : ∃ g, fuel = g + 1 := ⟨fuel - 1, by omega⟩
   rw [Qw.eq_2, if_neg (by omega), List.drop_eq_nil_of_le (by omega)]; rfl
 | succ d ih =>
   intro fuel i h hf
   obtain ⟨g, rfl⟩ : ∃ g, fuel = g + 1 := ⟨fuel - 1, by omega⟩
   rw [Qw.eq_2, if_pos (by omega), if_pos (by omega), Int.toNat_natCast, Qiy, Option.bind_some, Qfi (y := x.Phases) (i := i) (by omega) 0, List.all_cons, Qc9 (by omega), ih g (i + 1) (by omega) (by omega)]
   cases inR (-1) 999 (x.Phases.getD i 0) with
   | false => rfl
   | true => rfl
theorem cr_l (k : Nat) (x : Qb) (hl : x.Phases.length < 1000000000000) : ∀ (d fuel i : Nat), x.Phases.length = i + d -> d < fuel ->
 Qk k x fuel (i : Int) = some (sumB ((x.Phases.drop i).all (inR (-1) 999))) := by
 intro d
 induction d with
 | zero =>
   intro fuel i h hf
   obtain ⟨g, rfl⟩ : ∃ g, fuel = g + 1 := ⟨fuel - 1, by omega⟩
   rw [Qk.eq_2, if_neg (by omega), List.drop_eq_nil_of_le (by omega)]; rfl
 | succ d ih =>
   intro fuel i h hf
   obtain ⟨g, rfl⟩ : ∃ g, fuel = g + 1 := ⟨fuel - 1, by omega⟩
   rw [Qk.eq_2, if_pos (by omega), if_pos (by omega), Int.toNat_natCast, Qda, Option.bind_some, Qfi (y := x.Phases) (i := i) (by omega) 0, List.all_cons, Qc9 (by omega), ih g (i + 1) (by omega) (by omega)]
   cases inR (-1) 999 (x.Phases.getD i 0) with
   | false => rfl
   | true => rfl
def chF (x : Qb) : Int :=
 if inR 1 12 x.Width = true then (if (x.Phases.length : Int) % x.Width = 0 /\ inR 1 12 ((x.Phases.length : Int) / x.Width) = true then (if phB x.Phases = true then 0 else 2) else 10) else 2
theorem Qss {n w : Int} (h0 : 0 <= n) (h1 : 1 <= w) : 0 <= n / w /\ n / w <= n := ⟨Int.ediv_nonneg h0 (by omega), Int.ediv_le_self _ h0⟩
theorem Qsm (k : Nat) (x : Qb) (hl : x.Phases.length < 1000000000000) (hk : x.Phases.length < k) : Z7 k x = some (chF x) := by
 unfold Z7 chF
 rw [Qiy, Option.bind_some]
 cases c : inR 1 12 x.Width with
 | false => rfl
 | true =>
   have hw := Qf2.1 c
   have hd := Qss (n := (x.Phases.length : Int)) (w := x.Width) (by omega) hw.1
   rw [if_pos rfl, if_pos rfl, if_pos (by omega), Int.tmod_eq_emod_of_nonneg (by omega), Int.tdiv_eq_ediv_of_nonneg (by omega)]
   by_cases h1 : (x.Phases.length : Int) % x.Width = 0
   ·rw [if_pos h1, Jc (by omega) (by omega), Qiy, Option.bind_some]
    cases c2 : inR 1 12 ((x.Phases.length : Int) / x.Width) with
    | false => rw [if_neg (by decide), if_neg (fun h => by cases h.2)]
    | true =>
      have hloop : Qw k x k 0 = _ := cf_l k x hl x.Phases.length k 0 (by omega) hk
      rw [List.drop_zero] at hloop
      rw [if_pos rfl, if_pos ⟨h1, rfl⟩, hloop, Option.bind_some]
      unfold phB
      cases x.Phases.all (inR (-1) 999) with
      | false => rfl
      | true => rfl
   ·rw [if_neg h1, if_neg (fun h => h1 h.1)]
theorem Quo (k : Nat) (x : Qb) (hl : x.Phases.length < 1000000000000) (hk : x.Phases.length < k) : Zn k x = some (chF x) := by
 unfold Zn chF
 rw [Qda, Option.bind_some]
 cases c : inR 1 12 x.Width with
 | false => rfl
 | true =>
   have hw := Qf2.1 c
   have hd := Qss (n := (x.Phases.length : Int)) (w := x.Width) (by omega) hw.1
   rw [if_pos rfl, if_pos rfl]
   by_cases h0 : (x.Phases.length : Int) = 0
   ·rw [if_pos h0, if_neg (fun h => by have h2 := Qf2.1 h.2; rw [h0, Int.zero_ediv] at h2; omega)]
   rw [if_neg h0, if_pos (by omega), Int.tmod_eq_emod_of_nonneg (by omega), Int.tdiv_eq_ediv_of_nonneg (by omega)]
   by_cases h1 : (x.Phases.length : Int) % x.Width = 0
   ·have h3 : x.Width <= (x.Phases.length : Int) := Int.le_of_dvd (by omega) (Int.dvd_of_emod_eq_zero h1)
    have h4 : 1 <= (x.Phases.length : Int) / x.Width := (Int.le_ediv_iff_mul_le (by omega)).2 (by omega)
    rw [if_pos h1, Jc (by omega) (by omega)]
    by_cases h5 : 12 < (x.Phases.length : Int) / x.Width
    ·rw [if_pos h5, if_neg (fun h => by have := Qf2.1 h.2; omega)]
    ·have hloop : Qk k x k 0 = _ := cr_l k x hl x.Phases.length k 0 (by omega) hk
     rw [List.drop_zero] at hloop
     rw [if_neg h5, if_pos ⟨h1, Qf2.2 (by omega)⟩, hloop, Option.bind_some]
     unfold phB
     cases x.Phases.all (inR (-1) 999) with
     | false => rfl
     | true => rfl
   ·rw [if_neg h1, if_neg (fun h => h1 h.1)]
structure OkF (w : Int) (L : List Int) : Prop where
 w1 : 1 <= w
 w2 : w <= 12
 ln : L.length < 1000
 ph : phB L = true
theorem OkF.of {x : Qb} (h : chF x = 0) : OkF x.Width x.Phases := by
 unfold chF at h
 split at h
 ·rename_i c
  have hw := Qf2.1 c
  split at h
  ·rename_i c2
   have hq := Qf2.1 c2.2
   split at h
   ·rename_i c3
    have := Int.lt_ediv_add_one_mul_self (x.Phases.length : Int) (show 0 < x.Width by omega)
    have h2 : ((x.Phases.length : Int) / x.Width + 1) * x.Width <= 13 * x.Width := Int.mul_le_mul_of_nonneg_right (by omega) (by omega)
    exact ⟨hw.1, hw.2, by omega, c3⟩
   ·cases h
  ·cases h
 ·cases h
theorem OkF.get {w : Int} {L : List Int} (h : OkF w L) (c : Int) (h0 : 0 <= c) (h1 : c < (L.length : Int)) : -1 <= L.getD c.toNat 0 /\ L.getD c.toNat 0 <= 999 := by
 have hi : c.toNat < L.length := by omega
 have := List.all_eq_true.1 h.ph (L.getD c.toNat 0) (by
  rw [List.getD_eq_getElem?_getD, List.getElem?_eq_getElem hi]; exact List.getElem_mem hi)
 exact Qf2.1 this
def thB (L : List Int) (c : Int) : Bool := decide (0 <= c /\ c < (L.length : Int) /\ 0 <= L.getD c.toNat 0)
theorem th_t {L : List Int} {c : Int} : thB L c = true ↔ 0 <= c /\ c < (L.length : Int) /\ 0 <= L.getD c.toNat 0 := by unfold thB; exact decide_eq_true_iff
theorem th_f {L : List Int} {c : Int} : thB L c = false ↔ ¬(0 <= c /\ c < (L.length : Int) /\ 0 <= L.getD c.toNat 0) := by unfold thB; exact decide_eq_false_iff_not
theorem Qf1 (k : Nat) {w : Int} {L : List Int} (h : OkF w L) (c : Int) : Za k ⟨w, L⟩ c = some (thB L c) := by
 have hl := h.ln
 unfold Za
 dsimp only
 rw [Qiy, Option.bind_some, Jc (by omega) (by omega)]
 cases c1 : inR 0 ((L.length : Int) - 1) c with
 | false =>
   have := Qru.1 c1
   rw [if_neg (by decide), th_f.2 (by omega)]
 | true =>
   have h1 := Qf2.1 c1
   have h2 := h.get c h1.1 (by omega)
   rw [if_pos rfl, if_pos (by omega)]
   by_cases h3 : L.getD c.toNat 0 = -1
   ·rw [th_f.2 (by omega), decide_eq_true h3]; rfl
   ·rw [th_t.2 (by omega), decide_eq_false h3]; rfl
theorem Qcm (k : Nat) {x : Qb} (h : OkF x.Width x.Phases) (c : Int) : Zq k x c = some (thB x.Phases c) := by
 have hl := h.ln
 unfold Zq
 rw [Qda, Option.bind_some, Jc (by omega) (by omega)]
 cases c1 : inR 0 ((x.Phases.length : Int) - 1) c with
 | false =>
   have := Qru.1 c1
   rw [if_neg (by decide), th_f.2 (by omega)]
 | true =>
   have h1 := Qf2.1 c1
   rw [if_pos rfl, if_pos (by omega)]
   congr 1
   exact decide_eq_decide.2 (by omega)
def nbB (w a b : Int) : Bool := decide ((maxI a b = minI a b + 1 /\ ¬ (maxI a b % w = 0)) \/ maxI a b = minI a b + w)
theorem Qvs {a b : Int} (h0 : 0 <= a) (h1 : a < 1000) (h2 : 0 <= b) (h3 : b < 1000) : 0 <= minI a b /\ minI a b <= maxI a b /\ maxI a b < 1000 := by
 rw [Qcn, Qco]; split <;> split <;> omega
theorem Qu2 (k : Nat) {w : Int} {L : List Int} (h : OkF w L) {a b : Int} (h0 : 0 <= a) (h1 : a < 1000) (h2 : 0 <= b) (h3 : b < 1000) :
 Zk k ⟨w, L⟩ a b = some (thB L a && (thB L b && nbB w a b)) := by
 have hm := Qvs h0 h1 h2 h3
 have hw1 := h.w1
 have hw2 := h.w2
 unfold Zk
 dsimp only
 rw [Qf1 k h, Qf1 k h, Option.bind_some, Option.bind_some, Jc (n := minI a b + 1) (by omega) (by omega), Jc (n := minI a b + w) (by omega) (by omega), Int.tmod_eq_emod_of_nonneg (by omega)]
 cases thB L a with
 | false => split <;> first | rfl | (rw [if_pos (by omega)]; rfl)
 | true =>
   cases thB L b with
   | false => split <;> first | rfl | (rw [if_pos (by omega)]; rfl)
   | true =>
     rw [Bool.true_and, Bool.true_and]
     unfold nbB
     by_cases c1 : maxI a b = minI a b + 1
     ·rw [if_pos c1, if_pos (by omega), if_pos rfl, if_pos rfl]
      by_cases c2 : maxI a b % w = 0
      ·rw [if_pos c2]; congr 1; exact decide_eq_decide.2 ⟨fun g => .inr g, fun g => by rcases g with g | g; exact absurd c2 g.2; exact g⟩
      ·rw [if_neg c2, decide_eq_true (.inl ⟨c1, c2⟩)]
     ·rw [if_neg c1, Option.bind_some, if_pos rfl, Option.bind_some, if_pos rfl]; congr 1; exact decide_eq_decide.2 ⟨fun g => .inr g, fun g => by rcases g with g | g; exact absurd g.1 c1; exact g⟩
theorem Qst (k : Nat) {x : Qb} (h : OkF x.Width x.Phases) {a b : Int} (h0 : 0 <= a) (h1 : a < 1000) (h2 : 0 <= b) (h3 : b < 1000) :
 Zw k x a b = some (nbB x.Width a b) := by
 have hw1 := h.w1
 have hw2 := h.w2
 unfold Zw nbB
 by_cases c : b < a
 ·rw [if_pos c, show maxI a b = a by rw [Qcn, if_neg (by omega)], show minI a b = b by rw [Qco, if_pos c], Jc (n := b + x.Width) (by omega) (by omega), Jc (n := b + 1) (by omega) (by omega), Int.tmod_eq_emod_of_nonneg h0]
  by_cases c1 : a = b + x.Width
  ·rw [if_pos c1, decide_eq_true (.inr c1)]
  ·rw [if_neg c1]
   by_cases c2 : a = b + 1
   ·rw [if_pos c2, if_pos (by omega)]
    by_cases c3 : a % x.Width = 0
    ·rw [decide_eq_true c3, decide_eq_false (by rintro (g | g); exact g.2 c3; exact c1 g)]; rfl
    ·rw [decide_eq_false c3, decide_eq_true (.inl ⟨c2, c3⟩)]; rfl
   ·rw [if_neg c2, decide_eq_false (by rintro (g | g); exact c2 g.1; exact c1 g)]
 ·rw [if_neg c, Jc (n := a + x.Width) (by omega) (by omega), Jc (n := a + 1) (by omega) (by omega), Int.tmod_eq_emod_of_nonneg h2]
  have e1 : maxI a b = b := by rw [Qcn]; split <;> omega
  have e2 : minI a b = a := by rw [Qco, if_neg c]
  rw [e1, e2]
  by_cases c1 : b = a + x.Width
  ·rw [if_pos c1, decide_eq_true (.inr c1)]
  ·rw [if_neg c1]
   by_cases c2 : b = a + 1
   ·rw [if_pos c2, if_pos (by omega)]
    by_cases c3 : b % x.Width = 0
    ·rw [decide_eq_true c3, decide_eq_false (by rintro (g | g); exact g.2 c3; exact c1 g)]; rfl
    ·rw [decide_eq_false c3, decide_eq_true (.inl ⟨c2, c3⟩)]; rfl
   ·rw [if_neg c2, decide_eq_false (by rintro (g | g); exact c2 g.1; exact c1 g)]
theorem Qmh (w a b : Int) : nbB w a b = nbB w b a := by
 unfold nbB
 have e1 : maxI a b = maxI b a := by rw [Qcn, Qcn]; split <;> split <;> omega
 have e2 : minI a b = minI b a := by rw [Qco, Qco]; split <;> split <;> omega
 rw [e1, e2]
theorem Qvt {w a b : Int} (hw : 1 <= w) (h : nbB w a b = true) : a ≠ b := by
 rintro rfl
 unfold nbB at h
 have h := of_decide_eq_true h
 have e1 : maxI a a = a := by rw [Qcn]; split <;> omega
 have e2 : minI a a = a := by rw [Qco]; split <;> omega
 rw [e1, e2] at h; omega
def stp0 (L : List Int) (a b : Int) : Int := (L.getD b.toNat 0 - L.getD a.toNat 0 + 500) % 1000 - 500
def stp (L : List Int) (a b : Int) : Int := if b < a then 0 - stp0 L b a else stp0 L a b
theorem Qiz (L : List Int) (a b : Int) : -500 <= stp0 L a b /\ stp0 L a b <= 499 := by unfold stp0; omega
theorem Qjv (L : List Int) (a b : Int) : -500 <= stp L a b /\ stp L a b <= 500 := by
 unfold stp
 have h1 := Qiz L a b
 have h2 := Qiz L b a
 split <;> omega
theorem Qrv (L : List Int) {a b : Int} (h : a ≠ b) : stp L b a = 0 - stp L a b := by
 unfold stp
 by_cases c : b < a
 ·rw [if_pos c, if_neg (by omega)]; omega
 ·rw [if_neg c, if_pos (by omega)]
theorem Qpx (g : Nat) {w : Int} {L : List Int} (h : OkF w L) {a b : Int} (h0 : 0 <= a) (h1 : a < (L.length : Int)) (h2 : 0 <= b) (h3 : b < (L.length : Int)) (c : ¬ b < a) : Qp (g + 1) ⟨w, L⟩ a b = some (stp0 L a b) := by
 have pa := h.get a h0 h1
 have pb := h.get b h2 h3
 rw [Qp.eq_2]
 unfold Xx
 dsimp only
 rw [if_neg c, if_pos ⟨h2, h3⟩, if_pos ⟨h0, h1⟩, Jc (n := L.getD b.toNat 0 - L.getD a.toNat 0) (by omega) (by omega), Jc (n := L.getD b.toNat 0 - L.getD a.toNat 0 + 1000) (by omega) (by omega), Jc (n := L.getD b.toNat 0 - L.getD a.toNat 0 + 1000 + 500) (by omega) (by omega), Int.tmod_eq_emod_of_nonneg (by omega), Jc (by omega) (by omega)]
 congr 1
 unfold stp0; omega
theorem Qdy (k : Nat) (hk : 2 <= k) {w : Int} {L : List Int} (h : OkF w L) {a b : Int} (h0 : 0 <= a) (h1 : a < (L.length : Int)) (h2 : 0 <= b) (h3 : b < (L.length : Int)) : Qp k ⟨w, L⟩ a b = some (stp L a b) := by
 obtain ⟨g, rfl⟩ : ∃ g, k = g + 1 + 1 := ⟨k - 2, by omega⟩
 unfold stp
 by_cases c : b < a
 ·have hb := Qiz L b a
  rw [Qp.eq_2]
  unfold Xx
  rw [if_pos c, if_pos c, Qpx g h h2 h3 h0 h1 (by omega), Option.bind_some, Jc (by omega) (by omega)]
 ·rw [if_neg c, Qpx (g + 1) h h0 h1 h2 h3 c]
theorem Qtv (k : Nat) {y : Int} (h1 : -1000000 <= y) (h2 : y <= 1000000) : Jq k y 1000 = some (y % 1000) := by
 unfold Jq
 rw [if_pos (by decide)]
 by_cases c : 0 <= y
 ·rw [Int.tmod_eq_emod_of_nonneg c, if_neg (by omega)]
 ·have e : y.tmod 1000 = -((-y) % 1000) := by
   rw [<- Int.tmod_eq_emod_of_nonneg (show 0 <= -y by omega), Int.neg_tmod, Int.neg_neg]
  rw [e]
  by_cases c2 : -((-y) % 1000) < 0
  ·rw [if_pos c2, Jc (by omega) (by omega)]; congr 1; omega
  ·rw [if_neg c2]; congr 1; omega
def stR (w : Int) (L : List Int) (a b : Int) : Int × Int :=
 if thB L a = true then (if thB L b = true then (if nbB w a b = true then (stp L a b, 0) else (0, 14)) else (0, 6)) else (0, 6)
theorem Qsu (g : Nat) {x : Qb} (h : OkF x.Width x.Phases) {a b : Int} (c : ¬ b < a) : Qg (g + 1) x a b = some (stR x.Width x.Phases a b) := by
 have hl := h.ln
 rw [Qg.eq_2]
 unfold Xo stR
 rw [Qcm g h, Option.bind_some, Qcm g h, Option.bind_some]
 cases ca : thB x.Phases a with
 | false => rfl
 | true =>
   have ha := th_t.1 ca
   rw [if_pos rfl, if_pos rfl]
   cases cb : thB x.Phases b with
   | false => rfl
   | true =>
     have hb := th_t.1 cb
     have pa := h.get a ha.1 ha.2.1
     have pb := h.get b hb.1 hb.2.1
     rw [if_pos rfl, if_pos rfl, Qst g h ha.1 (by omega) hb.1 (by omega), Option.bind_some]
     cases nbB x.Width a b with
     | false => rfl
     | true =>
       rw [if_pos rfl, if_pos rfl, if_neg c, if_pos ⟨hb.1, hb.2.1⟩, if_pos ⟨ha.1, ha.2.1⟩, Jc (n := x.Phases.getD b.toNat 0 - x.Phases.getD a.toNat 0) (by omega) (by omega), Jc (n := x.Phases.getD b.toNat 0 - x.Phases.getD a.toNat 0 + 500) (by omega) (by omega), Qtv g (by omega) (by omega), Option.bind_some, Jc (by omega) (by omega)]
       unfold stp
       rw [if_neg c]; rfl
theorem Qov (k : Nat) (hk : 2 <= k) {x : Qb} (h : OkF x.Width x.Phases) (a b : Int) : Qg k x a b = some (stR x.Width x.Phases a b) := by
 have hl := h.ln
 obtain ⟨g, rfl⟩ : ∃ g, k = g + 1 + 1 := ⟨k - 2, by omega⟩
 by_cases c : b < a
 ·rw [Qg.eq_2]
  unfold Xo stR
  rw [Qcm _ h, Option.bind_some, Qcm _ h, Option.bind_some]
  cases ca : thB x.Phases a with
  | false => rfl
  | true =>
    have ha := th_t.1 ca
    rw [if_pos rfl, if_pos rfl]
    cases cb : thB x.Phases b with
    | false => rfl
    | true =>
      have hb := th_t.1 cb
      rw [if_pos rfl, if_pos rfl, Qst _ h ha.1 (by omega) hb.1 (by omega), Option.bind_some]
      cases cn : nbB x.Width a b with
      | false => rfl
      | true =>
        have hs := Qiz x.Phases b a
        have e : stR x.Width x.Phases b a = (stp0 x.Phases b a, 0) := by
         unfold stR stp
         rw [if_pos cb, if_pos ca, Qmh, if_pos cn, if_neg (by omega)]
        rw [if_pos rfl, if_pos rfl, if_pos c, Qsu g h (by omega), e, Option.bind_some, Jc (by show -9223372036854775808 <= 0 - stp0 x.Phases b a; omega) (by show 0 - stp0 x.Phases b a <= 9223372036854775807; omega)]
        unfold stp
        rw [if_pos c]
 ·exact Qsu (g + 1) h c
theorem Qrd {w : Int} {L : List Int} (hw : 1 <= w) (a b : Int) : (stR w L b a).2 = (stR w L a b).2 /\ (stR w L b a).1 = w64 (0 - (stR w L a b).1) := by
 unfold stR
 cases ca : thB L a with
 | false =>
   cases cb : thB L b with
   | false => exact ⟨rfl, rfl⟩
   | true => exact ⟨rfl, rfl⟩
 | true =>
   cases cb : thB L b with
   | false => exact ⟨rfl, rfl⟩
   | true =>
     rw [if_pos rfl, if_pos rfl, if_pos rfl, if_pos rfl, Qmh w b a]
     cases cn : nbB w a b with
     | false => exact ⟨rfl, rfl⟩
     | true =>
       have hs := Qjv L a b
       rw [if_pos rfl, if_pos rfl]
       refine ⟨rfl, ?_⟩
       show stp L b a = w64 (0 - stp L a b)
       rw [Jc (by omega) (by omega), Qrv L (Qvt hw cn)]
theorem new_any (k : Nat) (x : Qb) (hl : x.Phases.length < 1000000000000) (hk : x.Phases.length < k) : Ji k x = some (if chF x = 0 then (⟨x.Width, x.Phases⟩, 0) else (⟨0, []⟩, chF x)) := by
 unfold Ji
 rw [Qsm k x hl hk, Option.bind_some]
 split <;> rfl
theorem Qmi (k : Nat) (x : Qb) (hl : x.Phases.length < 1000000000000) (hk : x.Phases.length < k) (hk2 : 2 <= k) (a b : Int) : J7 k x a b = some (if chF x = 0 then stR x.Width x.Phases a b else (0, chF x)) := by
 unfold J7
 rw [new_any k x hl hk, Option.bind_some]
 by_cases c : chF x = 0
 ·have h := OkF.of c
  have hln := h.ln
  rw [if_pos c, if_pos rfl, if_pos c]
  dsimp only
  rw [Qf1 k h, Option.bind_some, Qf1 k h, Option.bind_some]
  unfold stR
  cases ca : thB x.Phases a with
  | false => rfl
  | true =>
    have ha := th_t.1 ca
    cases cb : thB x.Phases b with
    | false => rfl
    | true =>
      have hb := th_t.1 cb
      rw [if_pos rfl, if_pos rfl, if_pos rfl, if_pos rfl, Qu2 k h ha.1 (by omega) hb.1 (by omega), Option.bind_some, ca, cb, Bool.true_and, Bool.true_and, Qdy k hk2 h ha.1 ha.2.1 hb.1 hb.2.1, Option.bind_some]
      split <;> rfl
 ·rw [if_neg c, if_neg c, if_neg c]
end Go.Proofs.Ytenebnfhhhcfaaa.Vg
end

section
set_option linter.unusedVariables false
set_option linter.unusedSimpArgs false
namespace Go.Proofs.Ytenebnfhhhcfaaa.Vg
open Go Go.Proofs.Ytenebnfhhhcfaaa.Ev Go.Proofs.Ytenebnfhhhcfaaa.Vv
def okS (w : Int) (L : List Int) (c : Int) : Bool := !decide ((c + 1) % w = 0) && (thB L c && (thB L (c + 1) && (thB L (c + 1 + w) && (thB L (c + w) && true))))
def sqS (w : Int) (L : List Int) (c : Int) : Int := stp L c (c + 1) + stp L (c + 1) (c + 1 + w) + stp L (c + 1 + w) (c + w) + stp L (c + w) c
theorem Qnu (k : Nat) {w : Int} {L : List Int} (h : OkF w L) (c : Int) : Xe k c w L = some (!(thB L c)) := by
 unfold Xe
 rw [Qf1 k h, Option.bind_some]
theorem Qvk (k : Nat) {w : Int} {L : List Int} (h : OkF w L) (ys : List Int) (hl : ys.length < 1000) : ∀ (d fuel i : Nat), ys.length = i + d -> d < fuel ->
 ∃ r : Sum Int Unit, Qd k ys (w, L) fuel (i : Int) = some r /\ (match r with | .inl j => 0 <= j /\ (ys.drop i).all (thB L) = false | .inr _ => (ys.drop i).all (thB L) = true) := by
 intro d
 induction d with
 | zero =>
   intro fuel i h1 hf
   obtain ⟨g, rfl⟩ : ∃ g, fuel = g + 1 := ⟨fuel - 1, by omega⟩
   refine ⟨.inr (), ?_, ?_⟩
   ·rw [Qd.eq_2, if_neg (by omega)]
   ·show (ys.drop i).all (thB L) = true
    rw [List.drop_eq_nil_of_le (by omega)]; rfl
 | succ d ih =>
   intro fuel i h1 hf
   obtain ⟨g, rfl⟩ : ∃ g, fuel = g + 1 := ⟨fuel - 1, by omega⟩
   rw [Qd.eq_2, if_pos (by omega), if_pos (by omega), Int.toNat_natCast, Qfi (y := ys) (i := i) (by omega) 0, List.all_cons]
   dsimp only
   rw [Qnu k h, Option.bind_some]
   cases c : thB L (ys.getD i 0) with
   | false => exact ⟨.inl (i : Int), rfl, by omega, rfl⟩
   | true =>
     rw [if_neg (by decide), Qc9 (by omega), Bool.true_and]
     exact ih g (i + 1) (by omega) (by omega)
theorem Qra (k : Nat) {w : Int} {L : List Int} (h : OkF w L) (ys : List Int) (hl : ys.length < 1000) (hk : ys.length < k) : Qj k ys (w, L) = some (!(ys.all (thB L))) := by
 obtain ⟨r, h1, h2⟩ := Qvk k h ys hl ys.length k 0 (by omega) hk
 unfold Qj Qs
 rw [show Qd k ys (w, L) k 0 = some r from h1]
 rw [List.drop_zero] at h2
 cases r with
 | inl j =>
   show some (decide (0 <= j)) = _
   rw [h2.2, decide_eq_true h2.1]; rfl
 | inr j =>
   rw [show ys.all (thB L) = true from h2]; rfl
theorem Qnv (k : Nat) (hk : 10 <= k) {w : Int} {L : List Int} (h : OkF w L) (c : Int) (h0 : 0 <= c) (h1 : c < 1000) : Xu k ⟨w, L⟩ c = some ([c, c + 1, c + 1 + w, c + w], okS w L c) := by
 have hw1 := h.w1
 have hw2 := h.w2
 unfold Xu
 dsimp only
 rw [Jc (n := c + 1) (by omega) (by omega), Jc (n := c + 1 + w) (by omega) (by omega), Jc (n := c + w) (by omega) (by omega), if_pos (by omega), Int.tmod_eq_emod_of_nonneg (by omega), Qra k h [c, c + 1, c + 1 + w, c + w] (by show 4 < 1000; decide) (by show 4 < k; omega), Option.bind_some, Bool.not_not]
 unfold okS
 by_cases c1 : (c + 1) % w = 0
 ·rw [if_pos c1, decide_eq_true c1]; rfl
 ·rw [if_neg c1, decide_eq_false c1]; rfl
theorem Qk6 (c0 c1 c2 c3 : Int) : Qk7 [c0, c1, c2, c3] = [(c0, c1), (c1, c2), (c2, c3), (c3, c0)] := by kernel_rfl
theorem Qrb (k : Nat) (g : Jy) {c0 c1 c2 c3 s0 s1 s2 s3 : Int} (h0 : Qp k g c0 c1 = some s0) (h1 : Qp k g c1 c2 = some s1) (h2 : Qp k g c2 c3 = some s2) (h3 : Qp k g c3 c0 = some s3) :
 X0 k g [c0, c1, c2, c3] = some (w64 (w64 (w64 (w64 (0 + s0) + s1) + s2) + s3)) := by
 unfold X0
 rw [show Yt k [c0, c1, c2, c3] = some [c0, c1, c2, c3] from rfl, Option.bind_some, if_pos (by show 4 <= 1000000000; decide), Qk6]
 rw [Q8.eq_2]; dsimp only; rw [h0, Option.bind_some]
 rw [Q8.eq_2]; dsimp only; rw [h1, Option.bind_some]
 rw [Q8.eq_2]; dsimp only; rw [h2, Option.bind_some]
 rw [Q8.eq_2]; dsimp only; rw [h3, Option.bind_some]
 rw [Q8.eq_1, Option.bind_some]
theorem Qs8 {w : Int} {L : List Int} {c : Int} (h : okS w L c = true) : (c + 1) % w ≠ 0 /\ thB L c = true /\ thB L (c + 1) = true /\ thB L (c + 1 + w) = true /\ thB L (c + w) = true := by
 unfold okS at h
 simp only [Bool.and_eq_true, Bool.not_eq_true', decide_eq_false_iff_not] at h
 exact ⟨h.1, h.2.1, h.2.2.1, h.2.2.2.1, h.2.2.2.2.1⟩
theorem Qsl (w : Int) (L : List Int) (c : Int) : w64 (w64 (w64 (w64 (0 + stp L c (c + 1)) + stp L (c + 1) (c + 1 + w)) + stp L (c + 1 + w) (c + w)) + stp L (c + w) c) = sqS w L c := by
 have h1 := Qjv L c (c + 1)
 have h2 := Qjv L (c + 1) (c + 1 + w)
 have h3 := Qjv L (c + 1 + w) (c + w)
 have h4 := Qjv L (c + w) c
 rw [Jc (n := 0 + stp L c (c + 1)) (by omega) (by omega), Jc (n := 0 + stp L c (c + 1) + stp L (c + 1) (c + 1 + w)) (by omega) (by omega), Jc (n := 0 + stp L c (c + 1) + stp L (c + 1) (c + 1 + w) + stp L (c + 1 + w) (c + w)) (by omega) (by omega), Jc (by omega) (by omega)]
 unfold sqS; omega
theorem sum_any (k : Nat) (hk : 2 <= k) {w : Int} {L : List Int} (h : OkF w L) {c : Int} (ho : okS w L c = true) : X0 k ⟨w, L⟩ [c, c + 1, c + 1 + w, c + w] = some (sqS w L c) := by
 obtain ⟨h0, h1, h2, h3, h4⟩ := Qs8 ho
 have h1 := th_t.1 h1
 have h2 := th_t.1 h2
 have h3 := th_t.1 h3
 have h4 := th_t.1 h4
 rw [Qrb k ⟨w, L⟩ (Qdy k hk h h1.1 h1.2.1 h2.1 h2.2.1) (Qdy k hk h h2.1 h2.2.1 h3.1 h3.2.1) (Qdy k hk h h3.1 h3.2.1 h4.1 h4.2.1) (Qdy k hk h h4.1 h4.2.1 h1.1 h1.2.1), Qsl]
def resD (w : Int) (L : List Int) : Nat -> Nat -> List A37
 | 0, _ => []
 | d + 1, i => (if okS w L i = true /\ sqS w L i ≠ 0 then [⟨i, w64 ((sqS w L i).tdiv 1000)⟩] else []) ++ resD w L d (i + 1)
theorem Qvl (k : Nat) (hk : 10 <= k) (x : Qb) {w : Int} {L : List Int} (e : Int) (h : OkF w L) : ∀ (d fuel i : Nat) (y : List A37), L.length = i + d -> d < fuel -> y.length <= i ->
 Qx k x (⟨w, L⟩, e) fuel y (i : Int) = some (y ++ resD w L d i) := by
 have hl := h.ln
 intro d
 induction d with
 | zero =>
   intro fuel i y h1 hf hy
   obtain ⟨g, rfl⟩ : ∃ g, fuel = g + 1 := ⟨fuel - 1, by omega⟩
   rw [Qx.eq_2]; dsimp only
   rw [if_neg (by omega)]
   show some y = some (y ++ [])
   rw [List.append_nil]
 | succ d ih =>
   intro fuel i y h1 hf hy
   obtain ⟨g, rfl⟩ : ∃ g, fuel = g + 1 := ⟨fuel - 1, by omega⟩
   rw [Qx.eq_2]; dsimp only
   rw [if_pos (by omega), Qnv k hk h (i : Int) (by omega) (by omega), Option.bind_some]
   dsimp only
   rw [Qc9 (by omega), show resD w L (d + 1) i = (if okS w L i = true /\ sqS w L i ≠ 0 then [⟨i, w64 ((sqS w L i).tdiv 1000)⟩] else []) ++ resD w L d (i + 1) from rfl]
   cases c : okS w L i with
   | false => rw [if_neg (by decide), ih g (i + 1) y (by omega) (by omega) (by omega), if_neg (fun q => by cases q.1)]; rfl
   | true =>
     rw [if_pos rfl, sum_any k (by omega) h c, Option.bind_some]
     by_cases c2 : sqS w L i = 0
     ·rw [if_pos c2, ih g (i + 1) y (by omega) (by omega) (by omega), if_neg (fun q => q.2 c2)]; rfl
     ·rw [if_neg c2, if_pos (by show y.length + 1 <= 1000000000; omega), ih g (i + 1) _ (by omega) (by omega) (by rw [List.length_append]; show y.length + 1 <= i + 1; omega), if_pos ⟨rfl, c2⟩, List.append_assoc]
theorem Qjw (k : Nat) (x : Qb) (hl : x.Phases.length < 1000000000000) (hk : x.Phases.length + 10 <= k) : Jr k x = some (if chF x = 0 then (resD x.Width x.Phases x.Phases.length 0, 0) else ([], chF x)) := by
 unfold Jr
 rw [new_any k x hl (by omega), Option.bind_some]
 by_cases c : chF x = 0
 ·have h := OkF.of c
  have hlp : Qx k x (⟨x.Width, x.Phases⟩, 0) k [] 0 = _ := Qvl k (by omega) x 0 h x.Phases.length k 0 [] (by omega) (by omega) (by show 0 <= 0; omega)
  rw [if_pos c, if_pos rfl, if_pos c, hlp]; rfl
 ·rw [if_neg c, if_neg c, if_neg c]
theorem ls_l (k : Nat) {x : Qb} (h : OkF x.Width x.Phases) (ys : List Int) (hl : ys.length < 1000) : ∀ (d fuel i : Nat), ys.length = i + d -> d < fuel ->
 Qr k x ys fuel (i : Int) = some (sumB ((ys.drop i).all (thB x.Phases))) := by
 intro d
 induction d with
 | zero =>
   intro fuel i h1 hf
   obtain ⟨g, rfl⟩ : ∃ g, fuel = g + 1 := ⟨fuel - 1, by omega⟩
   rw [Qr.eq_2, if_neg (by omega), List.drop_eq_nil_of_le (by omega)]; rfl
 | succ d ih =>
   intro fuel i h1 hf
   obtain ⟨g, rfl⟩ : ∃ g, fuel = g + 1 := ⟨fuel - 1, by omega⟩
   rw [Qr.eq_2, if_pos (by omega), if_pos (by omega), Int.toNat_natCast, Qfi (y := ys) (i := i) (by omega) 0, List.all_cons, Qcm k h, Option.bind_some, Qc9 (by omega), ih g (i + 1) (by omega) (by omega)]
   cases thB x.Phases (ys.getD i 0) with
   | false => rfl
   | true => rfl
theorem Qs9 (k fuel : Nat) (x : Qb) {c0 c1 c2 c3 s0 s1 s2 s3 : Int} (h0 : Qg k x c0 c1 = some (s0, 0)) (h1 : Qg k x c1 c2 = some (s1, 0)) (h2 : Qg k x c2 c3 = some (s2, 0)) (h3 : Qg k x c3 c0 = some (s3, 0)) :
 Ql k x [c0, c1, c2, c3] (fuel + 5) 0 0 = some (.inr (w64 (w64 (w64 (w64 (0 + s0) + s1) + s2) + s3))) := by
 rw [Ql.eq_2, if_pos (by show (0 : Int) < 4; decide), if_pos (by show (0 : Int) <= 0 /\ (0 : Int) < 4; decide), if_pos (by show (4 : Int) ≠ 0; decide), if_pos (show 0 <= (w64 ((0 : Int) + 1)).tmod ((([c0, c1, c2, c3] : List Int).length : Nat) : Int) /\ (w64 ((0 : Int) + 1)).tmod ((([c0, c1, c2, c3] : List Int).length : Nat) : Int) < ((([c0, c1, c2, c3] : List Int).length : Nat) : Int) from (of_decide_eq_true (by kernel_rfl) : 0 <= (w64 ((0 : Int) + 1)).tmod 4 /\ (w64 ((0 : Int) + 1)).tmod 4 < 4)), show Qg k x (([c0, c1, c2, c3] : List Int).getD (0 : Int).toNat 0) (([c0, c1, c2, c3] : List Int).getD ((w64 ((0 : Int) + 1)).tmod ((([c0, c1, c2, c3] : List Int).length : Nat) : Int)).toNat 0) = some (s0, 0) from (by rw [show (w64 ((0 : Int) + 1)).tmod ((([c0, c1, c2, c3] : List Int).length : Nat) : Int) = 1 from by kernel_rfl]; exact h0), Option.bind_some]
 dsimp only
 rw [if_pos rfl, show w64 ((0 : Int) + 1) = 1 from by kernel_rfl]
 rw [Ql.eq_2, if_pos (by show (1 : Int) < 4; decide), if_pos (by show (0 : Int) <= 1 /\ (1 : Int) < 4; decide), if_pos (by show (4 : Int) ≠ 0; decide), if_pos (show 0 <= (w64 ((1 : Int) + 1)).tmod ((([c0, c1, c2, c3] : List Int).length : Nat) : Int) /\ (w64 ((1 : Int) + 1)).tmod ((([c0, c1, c2, c3] : List Int).length : Nat) : Int) < ((([c0, c1, c2, c3] : List Int).length : Nat) : Int) from (of_decide_eq_true (by kernel_rfl) : 0 <= (w64 ((1 : Int) + 1)).tmod 4 /\ (w64 ((1 : Int) + 1)).tmod 4 < 4)), show Qg k x (([c0, c1, c2, c3] : List Int).getD (1 : Int).toNat 0) (([c0, c1, c2, c3] : List Int).getD ((w64 ((1 : Int) + 1)).tmod ((([c0, c1, c2, c3] : List Int).length : Nat) : Int)).toNat 0) = some (s1, 0) from (by rw [show (w64 ((1 : Int) + 1)).tmod ((([c0, c1, c2, c3] : List Int).length : Nat) : Int) = 2 from by kernel_rfl]; exact h1), Option.bind_some]
 dsimp only
 rw [if_pos rfl, show w64 ((1 : Int) + 1) = 2 from by kernel_rfl]
 rw [Ql.eq_2, if_pos (by show (2 : Int) < 4; decide), if_pos (by show (0 : Int) <= 2 /\ (2 : Int) < 4; decide), if_pos (by show (4 : Int) ≠ 0; decide), if_pos (show 0 <= (w64 ((2 : Int) + 1)).tmod ((([c0, c1, c2, c3] : List Int).length : Nat) : Int) /\ (w64 ((2 : Int) + 1)).tmod ((([c0, c1, c2, c3] : List Int).length : Nat) : Int) < ((([c0, c1, c2, c3] : List Int).length : Nat) : Int) from (of_decide_eq_true (by kernel_rfl) : 0 <= (w64 ((2 : Int) + 1)).tmod 4 /\ (w64 ((2 : Int) + 1)).tmod 4 < 4)), show Qg k x (([c0, c1, c2, c3] : List Int).getD (2 : Int).toNat 0) (([c0, c1, c2, c3] : List Int).getD ((w64 ((2 : Int) + 1)).tmod ((([c0, c1, c2, c3] : List Int).length : Nat) : Int)).toNat 0) = some (s2, 0) from (by rw [show (w64 ((2 : Int) + 1)).tmod ((([c0, c1, c2, c3] : List Int).length : Nat) : Int) = 3 from by kernel_rfl]; exact h2), Option.bind_some]
 dsimp only
 rw [if_pos rfl, show w64 ((2 : Int) + 1) = 3 from by kernel_rfl]
 rw [Ql.eq_2, if_pos (by show (3 : Int) < 4; decide), if_pos (by show (0 : Int) <= 3 /\ (3 : Int) < 4; decide), if_pos (by show (4 : Int) ≠ 0; decide), if_pos (show 0 <= (w64 ((3 : Int) + 1)).tmod ((([c0, c1, c2, c3] : List Int).length : Nat) : Int) /\ (w64 ((3 : Int) + 1)).tmod ((([c0, c1, c2, c3] : List Int).length : Nat) : Int) < ((([c0, c1, c2, c3] : List Int).length : Nat) : Int) from (of_decide_eq_true (by kernel_rfl) : 0 <= (w64 ((3 : Int) + 1)).tmod 4 /\ (w64 ((3 : Int) + 1)).tmod 4 < 4)), show Qg k x (([c0, c1, c2, c3] : List Int).getD (3 : Int).toNat 0) (([c0, c1, c2, c3] : List Int).getD ((w64 ((3 : Int) + 1)).tmod ((([c0, c1, c2, c3] : List Int).length : Nat) : Int)).toNat 0) = some (s3, 0) from (by rw [show (w64 ((3 : Int) + 1)).tmod ((([c0, c1, c2, c3] : List Int).length : Nat) : Int) = 0 from by kernel_rfl]; exact h3), Option.bind_some]
 dsimp only
 rw [if_pos rfl, show w64 ((3 : Int) + 1) = 4 from by kernel_rfl]
 rw [Ql.eq_2, if_neg (by show ¬ ((4 : Int) < 4); decide)]
theorem Qme {w : Int} {L : List Int} {a b : Int} (ha : thB L a = true) (hb : thB L b = true) (hn : nbB w a b = true) : stR w L a b = (stp L a b, 0) := by
 unfold stR; rw [if_pos ha, if_pos hb, if_pos hn]
theorem Qmf {w c : Int} (h : (c + 1) % w ≠ 0) : nbB w c (c + 1) = true := by
 unfold nbB
 have e1 : maxI c (c + 1) = c + 1 := by rw [Qcn, if_pos (by omega)]
 have e2 : minI c (c + 1) = c := by rw [Qco, if_neg (by omega)]
 rw [e1, e2, decide_eq_true (.inl ⟨rfl, h⟩)]
theorem Qmg {w c : Int} (hw : 1 <= w) : nbB w c (c + w) = true := by
 unfold nbB
 have e1 : maxI c (c + w) = c + w := by rw [Qcn, if_pos (by omega)]
 have e2 : minI c (c + w) = c := by rw [Qco, if_neg (by omega)]
 rw [e1, e2, decide_eq_true (.inr rfl)]
theorem Qk8 (k : Nat) (hk : 10 <= k) {x : Qb} (h : OkF x.Width x.Phases) {c : Int} (hm : (c + 1) % x.Width ≠ 0) :
 Xj k x [c, c + 1, c + 1 + x.Width, c + x.Width] = some (if okS x.Width x.Phases c = true then (sqS x.Width x.Phases c, 0) else (0, 6)) := by
 unfold Xj
 have hloop : Qr k x [c, c + 1, c + 1 + x.Width, c + x.Width] k 0 = _ := ls_l k h [c, c + 1, c + 1 + x.Width, c + x.Width] (by show 4 < 1000; decide) 4 k 0 rfl (by omega)
 rw [Qda, Option.bind_some, if_pos (Qf2.2 (by show (2 : Int) <= 4 /\ (4 : Int) <= 144; decide)), hloop, Option.bind_some, List.drop_zero]
 have e : okS x.Width x.Phases c = ([c, c + 1, c + 1 + x.Width, c + x.Width] : List Int).all (thB x.Phases) := by
  unfold okS; rw [decide_eq_false hm]; rfl
 cases co : okS x.Width x.Phases c with
 | false => rw [<- e, co]; rfl
 | true =>
   obtain ⟨_, h1, h2, h3, h4⟩ := Qs8 co
   have hw := h.w1
   have n1 := Qmf hm
   have n2 : nbB x.Width (c + 1) (c + 1 + x.Width) = true := Qmg hw
   have n3 : nbB x.Width (c + 1 + x.Width) (c + x.Width) = true := by
    rw [Qmh, show c + 1 + x.Width = c + x.Width + 1 by omega]
    exact Qmf (by rw [show c + x.Width + 1 = (c + 1) + x.Width by omega, Int.add_emod_right]; exact hm)
   have n4 : nbB x.Width (c + x.Width) c = true := by rw [Qmh]; exact Qmg hw
   obtain ⟨f, rfl⟩ : ∃ f, k = f + 5 := ⟨k - 5, by omega⟩
   have r : ∀ a b, Qg (f + 5) x a b = some (stR x.Width x.Phases a b) := Qov (f + 5) (by omega) h
   rw [<- e, co, show (sumB true) = .inr () from rfl]
   dsimp only
   rw [Qs9 (f + 5) f x ((r _ _).trans (by rw [Qme h1 h2 n1])) ((r _ _).trans (by rw [Qme h2 h3 n2])) ((r _ _).trans (by rw [Qme h3 h4 n3])) ((r _ _).trans (by rw [Qme h4 h1 n4])), Qsl]; rfl
theorem rr_l (k : Nat) (hk : 10 <= k) {x : Qb} (h : OkF x.Width x.Phases) : ∀ (d fuel i : Nat) (y : List A37), x.Phases.length = i + d -> d < fuel -> y.length <= i ->
 Qh k x fuel y (i : Int) = some (y ++ resD x.Width x.Phases d i) := by
 have hl := h.ln
 have hw1 := h.w1
 have hw2 := h.w2
 intro d
 induction d with
 | zero =>
   intro fuel i y h1 hf hy
   obtain ⟨g, rfl⟩ : ∃ g, fuel = g + 1 := ⟨fuel - 1, by omega⟩
   rw [Qh.eq_2, if_neg (by omega)]
   show some y = some (y ++ [])
   rw [List.append_nil]
 | succ d ih =>
   intro fuel i y h1 hf hy
   obtain ⟨g, rfl⟩ : ∃ g, fuel = g + 1 := ⟨fuel - 1, by omega⟩
   rw [Qh.eq_2, if_pos (by omega), if_pos (by omega), Jc (n := (i : Int) + 1) (by omega) (by omega), Jc (n := (i : Int) + 1 + x.Width) (by omega) (by omega), Jc (n := (i : Int) + x.Width) (by omega) (by omega), Int.tmod_eq_emod_of_nonneg (by omega), show resD x.Width x.Phases (d + 1) i = (if okS x.Width x.Phases i = true /\ sqS x.Width x.Phases i ≠ 0 then [⟨i, w64 ((sqS x.Width x.Phases i).tdiv 1000)⟩] else []) ++ resD x.Width x.Phases d (i + 1) from rfl]
   have ei : ((i : Int) + 1) = ((i + 1 : Nat) : Int) := by omega
   by_cases c0 : ((i : Int) + 1) % x.Width = 0
   ·rw [if_pos c0, if_neg (fun q => (Qs8 q.1).1 c0), ei, ih g (i + 1) y (by omega) (by omega) (by omega)]; rfl
   rw [if_neg c0, Qk8 k hk h c0, Option.bind_some]
   cases c : okS x.Width x.Phases i with
   | false =>
     rw [show (if false = true then (sqS x.Width x.Phases (i : Int), (0 : Int)) else (0, 6)) = (0, 6) from rfl]
     dsimp only
     rw [if_neg (by decide), ei, ih g (i + 1) y (by omega) (by omega) (by omega), if_neg (fun q => by cases q.1)]; rfl
   | true =>
     rw [show (if true = true then (sqS x.Width x.Phases (i : Int), (0 : Int)) else (0, 6)) = (sqS x.Width x.Phases i, 0) from rfl]
     dsimp only
     rw [if_pos rfl]
     by_cases c2 : sqS x.Width x.Phases i = 0
     ·rw [if_pos c2, ei, ih g (i + 1) y (by omega) (by omega) (by omega), if_neg (fun q => q.2 c2)]; rfl
     ·rw [if_neg c2, if_pos (by show y.length + 1 <= 1000000000; omega), ei, ih g (i + 1) _ (by omega) (by omega) (by rw [List.length_append]; show y.length + 1 <= i + 1; omega), if_pos ⟨rfl, c2⟩, List.append_assoc]
theorem Qrc (k : Nat) {x : Qb} (h : OkF x.Width x.Phases) (hk : x.Phases.length + 10 <= k) : Xd k x = some (resD x.Width x.Phases x.Phases.length 0) := by
 unfold Xd
 rw [show Qh k x k [] 0 = _ from rr_l k (by omega) h x.Phases.length k 0 [] (by omega) (by omega) (by show 0 <= 0; omega)]; rfl
theorem Qow (w : Int) (L : List Int) : ∀ d i, (resD w L d i).length <= d
 | 0, _ => Nat.le_refl _
 | d + 1, i => by
   have := Qow w L d (i + 1)
   show ((if okS w L i = true /\ sqS w L i ≠ 0 then [(⟨i, w64 ((sqS w L i).tdiv 1000)⟩ : A37)] else []) ++ resD w L d (i + 1)).length <= d + 1
   rw [List.length_append]
   split
   ·show 1 + _ <= _; omega
   ·show 0 + _ <= _; omega
theorem Qun (k : Nat) (x : Qb) (a b : Int) (r1 : Int × Int) (ys : List A37) (e : Int) (hl : ys.length < 1000) : ∀ (d fuel i : Nat), ys.length = i + d -> d < fuel ->
 Qi k x a b r1 (ys, e) ys fuel (i : Int) = some (.inr ()) := by
 intro d
 induction d with
 | zero =>
   intro fuel i h1 hf
   obtain ⟨g, rfl⟩ : ∃ g, fuel = g + 1 := ⟨fuel - 1, by omega⟩
   rw [Qi.eq_2]; dsimp only
   rw [if_neg (by omega)]
 | succ d ih =>
   intro fuel i h1 hf
   obtain ⟨g, rfl⟩ : ∃ g, fuel = g + 1 := ⟨fuel - 1, by omega⟩
   rw [Qi.eq_2]; dsimp only
   rw [if_pos (by omega), if_pos (by omega), if_pos (by omega), if_pos (by simp), Qc9 (by omega)]
   exact ih g (i + 1) (by omega) (by omega)
theorem Qox (k : Nat) (x : Qb) : X7 k x = some (decide (x.Phases.length <= 36) || decide (144 < x.Phases.length /\ x.Phases.length <= 160)) := by
 unfold X7
 by_cases h : (x.Phases.length : Int) <= 36
 ·rw [if_pos h, decide_eq_true (show x.Phases.length <= 36 by omega)]; rfl
 ·rw [if_neg h, decide_eq_false (show ¬ x.Phases.length <= 36 by omega), Bool.false_or]
  by_cases h2 : 144 < (x.Phases.length : Int)
  ·rw [if_pos h2]; congr 1; exact decide_eq_decide.2 (by omega)
  ·rw [if_neg h2, decide_eq_false (by omega)]
theorem Qnw (k : Nat) (x : Qb) (hl : x.Phases.length <= 1000) : Xv k x = some x := by
 unfold Xv Jf
 rw [if_pos (by show 0 + x.Phases.length <= 1000000000; omega)]
 rfl
theorem Qk9 (k : Nat) (x : Qb) (a b : Int) (hk : k = x.Phases.length + 1000) : Zz k x a b = some true := by
 unfold Zz
 rw [show Qoy k = some true from rfl, Option.bind_some, if_pos rfl, Qox, Option.bind_some]
 cases hs : (decide (x.Phases.length <= 36) || decide (144 < x.Phases.length /\ x.Phases.length <= 160)) with
 | false => rfl
 | true =>
   have hl : x.Phases.length <= 160 := by
    rw [Bool.or_eq_true, decide_eq_true_iff, decide_eq_true_iff] at hs; omega
   rw [if_pos rfl, Qnw k x (by omega), Option.bind_some, Qmi k x (by omega) (by omega) (by omega), Option.bind_some, Qjw k x (by omega) (by omega), Option.bind_some, Quo k x (by omega) (by omega), Option.bind_some, Qsm k x (by omega) (by omega), Option.bind_some, if_pos rfl]
   by_cases c : chF x = 0
   ·have h := OkF.of c
    have hln := Qow x.Width x.Phases x.Phases.length 0
    rw [if_pos c, if_pos c, if_pos c, Qrc k h (by omega), Option.bind_some, if_pos rfl, if_pos rfl, show Qi k x a b (stR x.Width x.Phases a b) (resD x.Width x.Phases x.Phases.length 0, 0) (resD x.Width x.Phases x.Phases.length 0) k 0 = _ from Qun k x a b _ _ 0 (by omega) _ k 0 (by rw [Nat.zero_add]) (by omega), Option.bind_some]
    dsimp only
    have hb := Qrd (L := x.Phases) h.w1 a b
    rw [Qov k (by omega) h, Option.bind_some, if_pos rfl, if_pos rfl, Qmi k x (by omega) (by omega) (by omega), if_pos c, Option.bind_some, if_pos hb.1, decide_eq_true hb.2]
   ·rw [if_neg c, if_neg c, if_neg c, if_pos rfl, if_pos rfl, if_pos rfl]; rfl
theorem Qnx (x : Qb) (a b : Int) : VC Try.prog 3 [VV.ag (Qe x), vi a, vi b] (vb true) := Yz _ _ _ _ _ (Qk9 _ x a b rfl)
end Go.Proofs.Ytenebnfhhhcfaaa.Vg
end

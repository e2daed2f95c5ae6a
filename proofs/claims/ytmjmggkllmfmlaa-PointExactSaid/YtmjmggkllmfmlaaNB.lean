import Derived.Test.YtmjmggkllmfmlaaMA
import Derived.Test.YtmjmggkllmfmlaaS4
set_option linter.unusedVariables false
set_option linter.unusedSimpArgs false
namespace Go.Proofs.Ytmjmggkllmfmlaa.Vg
open Go Go.Proofs.Ytmjmggkllmfmlaa.Ev Go.Proofs.Ytmjmggkllmfmlaa.Vv
open Mdl (S D3 M3 X0 X1 X2)
theorem w64_id {n : Int} (h1 : -9223372036854775808 <= n) (h2 : n <= 9223372036854775807) : w64 n = n := by
 unfold w64 IntKind.wrap
 simp [IntKind.signed, IntKind.bits]
 omega
theorem w64_succ {i : Nat} (h : i < 1000000000000) : w64 ((i : Int) + 1) = ((i + 1 : Nat) : Int) := by
 rw [w64_id (by omega) (by omega)]; omega
theorem abs_mul {x y : Int} {a b : Nat} (hx : x.natAbs <= a) (hy : y.natAbs <= b) : (x * y).natAbs <= a * b := by
 rw [Int.natAbs_mul]; exact Nat.mul_le_mul hx hy
def inR (a b n : Int) : Bool := decide (a <= n /\ n <= b)
theorem inR_t {a b n : Int} : inR a b n = true ↔ a <= n /\ n <= b := by unfold inR; exact decide_eq_true_iff
theorem within_base (k : Nat) (a b c : Int) : nspeculumbase_Within k a b c = some (inR b c a) := by
 unfold nspeculumbase_Within inR
 by_cases h : b <= a <;> simp [h]
theorem areW_l (k : Nat) (a b : Int) (l : List Int) (hl : l.length <= 1000) : ∀ (d fuel i : Nat), l.length = i + d -> d < fuel -> ∃ r, npoint_areWithin_l0_0 k a b l fuel (i : Int) = some r /\ ((r = .inl () /\ ¬ ∀ j, j < l.length -> a <= l.getD j 0 /\ l.getD j 0 <= b) \/ r = .inr () /\ ∀ j, i <= j -> j < l.length -> a <= l.getD j 0 /\ l.getD j 0 <= b) := by
 intro d
 induction d with
 | zero =>
   intro fuel i he hf
   obtain ⟨f, rfl⟩ : ∃ f, fuel = f + 1 := ⟨fuel - 1, by omega⟩
   exact ⟨_, by rw [npoint_areWithin_l0_0.eq_2, if_neg (by omega)], .inr ⟨rfl, fun j h1 h2 => by omega⟩⟩
 | succ d ih =>
   intro fuel i he hf
   obtain ⟨f, rfl⟩ : ∃ f, fuel = f + 1 := ⟨fuel - 1, by omega⟩
   rw [npoint_areWithin_l0_0.eq_2, if_pos (by omega), if_pos (by omega), Int.toNat_natCast]
   by_cases c1 : l.getD i 0 < a
   ·rw [if_pos c1]; exact ⟨_, rfl, .inl ⟨rfl, fun h => by have := h i (by omega); omega⟩⟩
   rw [if_neg c1]
   by_cases c2 : b < l.getD i 0
   ·rw [if_pos c2]; exact ⟨_, rfl, .inl ⟨rfl, fun h => by have := h i (by omega); omega⟩⟩
   rw [if_neg c2, w64_succ (by omega)]
   obtain ⟨r, e1, e2⟩ := ih f (i + 1) (by omega) (by omega)
   refine ⟨r, e1, ?_⟩
   rcases e2 with e2 | ⟨e2, e3⟩
   ·exact .inl e2
   ·refine .inr ⟨e2, fun j h1 h2 => ?_⟩
    by_cases e : j = i
    ·rw [e]; omega
    ·exact e3 j (by omega) h2
theorem areW_p {k : Nat} (hk : 2000 < k) (a b : Int) (l : List Int) (hl : l.length <= 1000) : ∃ r, npoint_areWithin k a b l = some r /\ (r = true ↔ ∀ j, j < l.length -> a <= l.getD j 0 /\ l.getD j 0 <= b) := by
 unfold npoint_areWithin
 obtain ⟨r, e1, e2⟩ := areW_l k a b l hl l.length k 0 (by omega) (by omega)
 rw [show npoint_areWithin_l0_0 k a b l k 0 = _ from e1]
 rcases e2 with ⟨rfl, e2⟩ | ⟨rfl, e2⟩
 ·exact ⟨false, rfl, ⟨fun h => (by cases h), fun h => absurd h e2⟩⟩
 ·exact ⟨true, rfl, ⟨fun _ j hj => e2 j (by omega) hj, fun _ => rfl⟩⟩
theorem areW_t {k : Nat} (hk : 2000 < k) {a b : Int} {l : List Int} (hl : l.length <= 1000) (h : ∀ j, j < l.length -> a <= l.getD j 0 /\ l.getD j 0 <= b) : npoint_areWithin k a b l = some true := by
 obtain ⟨r, e1, e2⟩ := areW_p hk a b l hl
 rw [e1, e2.2 h]
theorem areS_p {k : Nat} (hk : 2000 < k) {a : Int} (ha : 0 <= a /\ a <= 1000000000000) (l : List Int) (hl : l.length <= 1000) : ∃ r, npoint_areSmall k a l = some r /\ (r = true ↔ ∀ j, j < l.length -> -a <= l.getD j 0 /\ l.getD j 0 <= a) := by
 unfold npoint_areSmall
 rw [w64_id (n := 0 - a) (by omega) (by omega), show (0 : Int) - a = -a by omega]
 obtain ⟨r, e1, e2⟩ := areW_p hk (-a) a l hl
 exact ⟨r, by rw [e1]; rfl, e2⟩
def sh (l : List SSkyStar) (p i : Nat) : Int := (l.getD p default).Shapes.getD i 0
def er (l : List SSkyStar) (p : Nat) : Int := (l.getD p default).Error
def ns (l : List SSkyStar) (p : Nat) : Nat := (l.getD p default).Shapes.length
theorem stars_l {k : Nat} (hk : 2000 < k) (l : List SSkyStar) (hl : l.length <= 20) : ∀ (d fuel i : Nat), l.length = i + d -> d < fuel -> ∃ r, npoint_CheckStars_l0_0 k l fuel (i : Int) = some r /\ ((∃ e, r = .inl e /\ e ≠ 0) \/ r = .inr () /\ ∀ p, i <= p -> p < l.length -> ns l p = ns l 0 /\ (1 <= ns l 0 /\ ns l 0 <= 3) /\ (∀ i, i < ns l p -> -100 <= sh l p i /\ sh l p i <= 100) /\ -1000 <= er l p /\ er l p <= 1000) := by
 intro d
 induction d with
 | zero =>
   intro fuel i he hf
   obtain ⟨f, rfl⟩ : ∃ f, fuel = f + 1 := ⟨fuel - 1, by omega⟩
   exact ⟨_, by rw [npoint_CheckStars_l0_0.eq_2, if_neg (by omega)], .inr ⟨rfl, fun j h1 h2 => by omega⟩⟩
 | succ d ih =>
   intro fuel i he hf
   obtain ⟨f, rfl⟩ : ∃ f, fuel = f + 1 := ⟨fuel - 1, by omega⟩
   rw [npoint_CheckStars_l0_0.eq_2, if_pos (by omega), if_pos (by omega), Int.toNat_natCast]
   show ∃ r, (if (ns l i : Int) = (ns l 0 : Int) then (npoint_areWithin k 1 3 [(ns l 0 : Int)]).bind _ else _) = _ /\ _
   by_cases c1 : (ns l i : Int) = (ns l 0 : Int)
   case neg => rw [if_neg c1]; exact ⟨_, rfl, .inl ⟨10, rfl, by decide⟩⟩
   obtain ⟨r1, e1, g1⟩ := areW_p hk 1 3 [(ns l 0 : Int)] (by simp)
   rw [if_pos c1, e1, Option.bind_some]
   by_cases c2 : r1 = true
   case neg => rw [if_neg c2]; exact ⟨_, rfl, .inl ⟨10, rfl, by decide⟩⟩
   have b1 := g1.1 c2 0 (by simp)
   simp only [List.getD_cons_zero] at b1
   rw [if_pos c2]
   have hn : (l.getD i default).Shapes.length <= 1000 := by have : ns l i = (l.getD i default).Shapes.length := rfl; omega
   obtain ⟨r2, e2, g2⟩ := areS_p hk (a := 100) (by omega) (l.getD i default).Shapes hn
   rw [e2, Option.bind_some]
   by_cases c3 : r2 = true
   case neg => rw [if_neg c3]; exact ⟨_, rfl, .inl ⟨2, rfl, by decide⟩⟩
   rw [if_pos c3]
   obtain ⟨r3, e3, g3⟩ := areS_p hk (a := 1000) (by omega) [(l.getD i default).Error] (by simp)
   rw [e3, Option.bind_some]
   by_cases c4 : r3 = true
   case neg => rw [if_neg c4]; exact ⟨_, rfl, .inl ⟨2, rfl, by decide⟩⟩
   rw [if_pos c4, w64_succ (by omega)]
   obtain ⟨r, e4, e5⟩ := ih f (i + 1) (by omega) (by omega)
   refine ⟨r, e4, ?_⟩
   rcases e5 with e5 | ⟨e5, e6⟩
   ·exact .inl e5
   ·refine .inr ⟨e5, fun j h1 h2 => ?_⟩
    by_cases e : j = i
    ·rw [e]
     have b3 := g2.1 c3
     have b4 := g3.1 c4 0 (by simp)
     exact ⟨by omega, by omega, fun q hq => b3 q hq, b4⟩
    ·exact e6 j (by omega) h2
theorem stars_p {k : Nat} (hk : 2000 < k) (l : List SSkyStar) : ∃ r, npoint_CheckStars k l = some r /\ (r.2 = 0 -> r = ((ns l 0 : Int), 0) /\ (1 <= l.length /\ l.length <= 20) /\ (1 <= ns l 0 /\ ns l 0 <= 3) /\ ∀ p, p < l.length -> ns l p = ns l 0 /\ (∀ i, i < ns l p -> -100 <= sh l p i /\ sh l p i <= 100) /\ -1000 <= er l p /\ er l p <= 1000) := by
 unfold npoint_CheckStars
 by_cases c1 : (l.length : Int) = 0
 ·rw [if_pos c1]; exact ⟨_, rfl, fun h => by cases h⟩
 rw [if_neg c1]
 by_cases c2 : 20 < (l.length : Int)
 ·rw [if_pos c2]; exact ⟨_, rfl, fun h => by cases h⟩
 rw [if_neg c2, if_pos (by omega)]
 obtain ⟨r, e1, e2⟩ := stars_l hk l (by omega) l.length k 0 (by omega) (by omega)
 rw [show npoint_CheckStars_l0_0 k l k 0 = _ from e1, Option.bind_some]
 rcases e2 with ⟨e, rfl, e2⟩ | ⟨rfl, e2⟩
 ·exact ⟨_, rfl, fun h => absurd h e2⟩
 ·exact ⟨_, rfl, fun _ => ⟨rfl, by omega, (e2 0 (by omega) (by omega)).2.1, fun p hp => ⟨(e2 p (by omega) hp).1, (e2 p (by omega) hp).2.2⟩⟩⟩
def okP (l : List SSkyStar) (T p : Nat) : Prop := ns l p = T /\ (-1000 <= er l p /\ er l p <= 1000) /\ ∀ i, i < T -> -100 <= sh l p i /\ sh l p i <= 100
structure OKS (l : List SSkyStar) (t : List Int) (T : Nat) : Prop where
 n : 1 <= l.length /\ l.length <= 8
 TT : 1 <= T /\ T <= 3
 p : ∀ p, p < l.length -> okP l T p
theorem OKS.z {l : List SSkyStar} {t : List Int} {T : Nat} (h : OKS l t T) {p i : Nat} (hp : p < l.length) (hi : T <= i) : sh l p i = 0 := by
 have hn := (h.p p hp).1
 have hns : ns l p = (l.getD p default).Shapes.length := rfl
 unfold sh
 rw [List.getD_eq_getElem?_getD, List.getElem?_eq_none (by omega)]; rfl
theorem OKS.s {l : List SSkyStar} {t : List Int} {T : Nat} (h : OKS l t T) {p : Nat} (hp : p < l.length) (i : Nat) : -100 <= sh l p i /\ sh l p i <= 100 := by
 rcases Nat.lt_or_ge i T with c | c
 ·exact (h.p p hp).2.2 i c
 ·rw [h.z hp c]; omega
theorem OKS.ss {l : List SSkyStar} {t : List Int} {T : Nat} (h : OKS l t T) {p : Nat} (hp : p < l.length) (i j : Nat) : -10000 <= sh l p i * sh l p j /\ sh l p i * sh l p j <= 10000 := by
 have h1 := h.s hp i
 have h2 := h.s hp j
 have := abs_mul (x := sh l p i) (y := sh l p j) (a := 100) (b := 100) (by omega) (by omega)
 omega
theorem OKS.se {l : List SSkyStar} {t : List Int} {T : Nat} (h : OKS l t T) {p : Nat} (hp : p < l.length) (i : Nat) : -100000 <= sh l p i * er l p /\ sh l p i * er l p <= 100000 := by
 have h1 := h.s hp i
 have h2 := (h.p p hp).2.1
 have := abs_mul (x := sh l p i) (y := er l p) (a := 100) (b := 1000) (by omega) (by omega)
 omega
def sm (x : Int) : Prop := -10000000 <= x /\ x <= 10000000
section
variable {k : Nat} {l : List SSkyStar} {t : List Int} {T : Nat}
theorem eq2_0 (O : OKS l t T) (hk : 2000 < k) {p : Nat} (hp : p < l.length) (a c0 c1 c2 : Int) {b0 b1 b2 b3 b4 b5 b6 b7 b8 : Int} (h0 : sm b0) (h1 : sm b1) (h2 : sm b2) (h3 : sm b3) (h4 : sm b4) (h5 : sm b5) (h6 : sm b6) (h7 : sm b7) (h8 : sm b8) : npoint_equations_l2_0 k l a (p : Int) c0 c1 c2 0 k b0 b1 b2 b3 b4 b5 b6 b7 b8 0 = some (b0 + sh l p 0 * sh l p 0, b1, b2, b3 + sh l p 0 * sh l p 1, b4, b5, b6 + sh l p 0 * sh l p 2, b7, b8) := by
 have hn := (O.p p hp).1
 have hns : ns l p = (l.getD p default).Shapes.length := rfl
 have s0 := O.ss hp 0 0
 have s1 := O.ss hp 0 1
 have s2 := O.ss hp 0 2
 have z1 := fun h => O.z hp (i := 1) h
 have z2 := fun h => O.z hp (i := 2) h
 have hT := O.TT
 unfold sm at *
 obtain ⟨f, rfl⟩ : ∃ f, k = f + 4 := ⟨k - 4, by omega⟩
 have e0 : (l.getD ((p : Int)).toNat default) = l.getD p default := by rw [Int.toNat_natCast]
 have q : ∀ (i j : Nat), ((l.getD p default).Shapes.getD i 0) * ((l.getD p default).Shapes.getD j 0) = sh l p i * sh l p j := fun _ _ => rfl
 have n0 : (((0 : Int)).toNat) = 0 := rfl
 have u1 : w64 ((0 : Int) + 1) = 1 := by decide
 have u2 : w64 ((1 : Int) + 1) = 2 := by decide
 have u3 : w64 ((2 : Int) + 1) = 3 := by decide
 rw [npoint_equations_l2_0.eq_2, e0, if_pos (by omega), if_pos (by omega), if_pos rfl]
 rw [if_pos rfl, n0, q, u1, w64_id (n := sh l p 0 * sh l p 0) (by omega) (by omega), w64_id (n := b0 + _) (by omega) (by omega), npoint_equations_l2_0.eq_2, e0]
 by_cases c1 : T = 1
 ·rw [if_neg (by omega)]
  rw [z1 (by omega), z2 (by omega)]; simp
 rw [if_pos (by omega), if_pos (by omega), if_neg (show ¬ (1 : Int) = 0 by decide), if_pos rfl, if_pos rfl, n0, show ((1 : Int)).toNat = 1 from rfl, q, u2, w64_id (n := sh l p 0 * sh l p 1) (by omega) (by omega), w64_id (n := b3 + _) (by omega) (by omega), npoint_equations_l2_0.eq_2, e0]
 by_cases c2 : T = 2
 ·rw [if_neg (by omega)]
  rw [z2 (by omega)]; simp
 rw [if_pos (by omega), if_pos (by omega), if_neg (show ¬ (2 : Int) = 0 by decide), if_neg (show ¬ (2 : Int) = 1 by decide), if_pos rfl, if_pos rfl, n0, show ((2 : Int)).toNat = 2 from rfl, q, u3, w64_id (n := sh l p 0 * sh l p 2) (by omega) (by omega), w64_id (n := b6 + _) (by omega) (by omega), npoint_equations_l2_0.eq_2, e0, if_neg (by omega)]
theorem eq2_1 (O : OKS l t T) (hk : 2000 < k) {p : Nat} (hp : p < l.length) (a c0 c1 c2 : Int) {b0 b1 b2 b3 b4 b5 b6 b7 b8 : Int} (h0 : sm b0) (h1 : sm b1) (h2 : sm b2) (h3 : sm b3) (h4 : sm b4) (h5 : sm b5) (h6 : sm b6) (h7 : sm b7) (h8 : sm b8) : npoint_equations_l2_1 k l a (p : Int) c0 c1 c2 1 k b0 b1 b2 b3 b4 b5 b6 b7 b8 0 = some (b0, b1 + sh l p 1 * sh l p 0, b2, b3, b4 + sh l p 1 * sh l p 1, b5, b6, b7 + sh l p 1 * sh l p 2, b8) := by
 have hn := (O.p p hp).1
 have hns : ns l p = (l.getD p default).Shapes.length := rfl
 have s0 := O.ss hp 1 0
 have s1 := O.ss hp 1 1
 have s2 := O.ss hp 1 2
 have z1 := fun h => O.z hp (i := 1) h
 have z2 := fun h => O.z hp (i := 2) h
 have hT := O.TT
 unfold sm at *
 obtain ⟨f, rfl⟩ : ∃ f, k = f + 4 := ⟨k - 4, by omega⟩
 have e0 : (l.getD ((p : Int)).toNat default) = l.getD p default := by rw [Int.toNat_natCast]
 have q : ∀ (i j : Nat), ((l.getD p default).Shapes.getD i 0) * ((l.getD p default).Shapes.getD j 0) = sh l p i * sh l p j := fun _ _ => rfl
 have n0 : (((1 : Int)).toNat) = 1 := rfl
 have u1 : w64 ((0 : Int) + 1) = 1 := by decide
 have u2 : w64 ((1 : Int) + 1) = 2 := by decide
 have u3 : w64 ((2 : Int) + 1) = 3 := by decide
 rw [npoint_equations_l2_1.eq_2, e0, if_pos (by omega), if_pos (by omega), if_pos rfl]
 rw [if_neg (show ¬ (1 : Int) = 0 by decide), if_pos rfl, n0, show ((0 : Int)).toNat = 0 from rfl, q, u1, w64_id (n := sh l p 1 * sh l p 0) (by omega) (by omega), w64_id (n := b1 + _) (by omega) (by omega), npoint_equations_l2_1.eq_2, e0]
 by_cases c1 : T = 1
 ·rw [if_neg (by omega)]
  rw [z1 (by omega), z2 (by omega)]; simp
 rw [if_pos (by omega), if_pos (by omega), if_neg (show ¬ (1 : Int) = 0 by decide), if_pos rfl, if_neg (show ¬ (1 : Int) = 0 by decide), if_pos rfl, n0, q, u2, w64_id (n := sh l p 1 * sh l p 1) (by omega) (by omega), w64_id (n := b4 + _) (by omega) (by omega), npoint_equations_l2_1.eq_2, e0]
 by_cases c2 : T = 2
 ·rw [if_neg (by omega)]
  rw [z2 (by omega)]; simp
 rw [if_pos (by omega), if_pos (by omega), if_neg (show ¬ (2 : Int) = 0 by decide), if_neg (show ¬ (2 : Int) = 1 by decide), if_pos rfl, if_neg (show ¬ (1 : Int) = 0 by decide), if_pos rfl, n0, show ((2 : Int)).toNat = 2 from rfl, q, u3, w64_id (n := sh l p 1 * sh l p 2) (by omega) (by omega), w64_id (n := b7 + _) (by omega) (by omega), npoint_equations_l2_1.eq_2, e0, if_neg (by omega)]
theorem eq2_2 (O : OKS l t T) (hk : 2000 < k) {p : Nat} (hp : p < l.length) (a c0 c1 c2 : Int) {b0 b1 b2 b3 b4 b5 b6 b7 b8 : Int} (h0 : sm b0) (h1 : sm b1) (h2 : sm b2) (h3 : sm b3) (h4 : sm b4) (h5 : sm b5) (h6 : sm b6) (h7 : sm b7) (h8 : sm b8) : npoint_equations_l2_2 k l a (p : Int) c0 c1 c2 2 k b0 b1 b2 b3 b4 b5 b6 b7 b8 0 = some (b0, b1, b2 + sh l p 2 * sh l p 0, b3, b4, b5 + sh l p 2 * sh l p 1, b6, b7, b8 + sh l p 2 * sh l p 2) := by
 have hn := (O.p p hp).1
 have hns : ns l p = (l.getD p default).Shapes.length := rfl
 have s0 := O.ss hp 2 0
 have s1 := O.ss hp 2 1
 have s2 := O.ss hp 2 2
 have z1 := fun h => O.z hp (i := 1) h
 have z2 := fun h => O.z hp (i := 2) h
 have hT := O.TT
 unfold sm at *
 obtain ⟨f, rfl⟩ : ∃ f, k = f + 4 := ⟨k - 4, by omega⟩
 have e0 : (l.getD ((p : Int)).toNat default) = l.getD p default := by rw [Int.toNat_natCast]
 have q : ∀ (i j : Nat), ((l.getD p default).Shapes.getD i 0) * ((l.getD p default).Shapes.getD j 0) = sh l p i * sh l p j := fun _ _ => rfl
 have n0 : (((2 : Int)).toNat) = 2 := rfl
 have u1 : w64 ((0 : Int) + 1) = 1 := by decide
 have u2 : w64 ((1 : Int) + 1) = 2 := by decide
 have u3 : w64 ((2 : Int) + 1) = 3 := by decide
 rw [npoint_equations_l2_2.eq_2, e0, if_pos (by omega), if_pos (by omega), if_pos rfl]
 rw [if_neg (show ¬ (2 : Int) = 0 by decide), if_neg (show ¬ (2 : Int) = 1 by decide), if_pos rfl, n0, show ((0 : Int)).toNat = 0 from rfl, q, u1, w64_id (n := sh l p 2 * sh l p 0) (by omega) (by omega), w64_id (n := b2 + _) (by omega) (by omega), npoint_equations_l2_2.eq_2, e0]
 by_cases c1 : T = 1
 ·rw [if_neg (by omega)]
  rw [z1 (by omega), z2 (by omega)]; simp
 rw [if_pos (by omega), if_pos (by omega), if_neg (show ¬ (1 : Int) = 0 by decide), if_pos rfl, if_neg (show ¬ (2 : Int) = 0 by decide), if_neg (show ¬ (2 : Int) = 1 by decide), if_pos rfl, n0, show ((1 : Int)).toNat = 1 from rfl, q, u2, w64_id (n := sh l p 2 * sh l p 1) (by omega) (by omega), w64_id (n := b5 + _) (by omega) (by omega), npoint_equations_l2_2.eq_2, e0]
 by_cases c2 : T = 2
 ·rw [if_neg (by omega)]
  rw [z2 (by omega)]; simp
 rw [if_pos (by omega), if_pos (by omega), if_neg (show ¬ (2 : Int) = 0 by decide), if_neg (show ¬ (2 : Int) = 1 by decide), if_pos rfl, if_neg (show ¬ (2 : Int) = 0 by decide), if_neg (show ¬ (2 : Int) = 1 by decide), if_pos rfl, n0, q, u3, w64_id (n := sh l p 2 * sh l p 2) (by omega) (by omega), w64_id (n := b8 + _) (by omega) (by omega), npoint_equations_l2_2.eq_2, e0, if_neg (by omega)]
end
end Go.Proofs.Ytmjmggkllmfmlaa.Vg

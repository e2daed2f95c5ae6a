import Derived.Test.YtmjmggkllmfmlaaNB
set_option linter.unusedVariables false
set_option linter.unusedSimpArgs false
namespace Go.Proofs.Ytmjmggkllmfmlaa.Vg
open Go Go.Proofs.Ytmjmggkllmfmlaa.Ev Go.Proofs.Ytmjmggkllmfmlaa.Vv
open Mdl (S D3 M3 X0 X1 X2)
section
variable {k : Nat} {l : List SSkyStar} {t : List Int} {T : Nat}
theorem sm_add {x y : Int} (h : -9000000 <= x /\ x <= 9000000) (g : -10000 <= y /\ y <= 10000) : sm (x + y) := by unfold sm; omega
def sq (x : Int) : Prop := -9000000 <= x /\ x <= 9000000
theorem sq.sm {x : Int} (h : sq x) : Vg.sm x := by unfold sq at h; unfold Vg.sm; omega
theorem eq1 (O : OKS l t T) (hk : 2000 < k) {p : Nat} (hp : p < l.length) (a : Int) {b0 b1 b2 b3 b4 b5 b6 b7 b8 c0 c1 c2 : Int} (h0 : sq b0) (h1 : sq b1) (h2 : sq b2) (h3 : sq b3) (h4 : sq b4) (h5 : sq b5) (h6 : sq b6) (h7 : sq b7) (h8 : sq b8) (g0 : sq c0) (g1 : sq c1) (g2 : sq c2) :
 npoint_equations_l1_0 k l a (p : Int) k b0 b1 b2 b3 b4 b5 b6 b7 b8 c0 c1 c2 0 = some (b0 + sh l p 0 * sh l p 0, b1 + sh l p 1 * sh l p 0, b2 + sh l p 2 * sh l p 0, b3 + sh l p 0 * sh l p 1, b4 + sh l p 1 * sh l p 1, b5 + sh l p 2 * sh l p 1, b6 + sh l p 0 * sh l p 2, b7 + sh l p 1 * sh l p 2, b8 + sh l p 2 * sh l p 2, c0 + sh l p 0 * er l p, c1 + sh l p 1 * er l p, c2 + sh l p 2 * er l p) := by
 have hn := (O.p p hp).1
 have hns : ns l p = (l.getD p default).Shapes.length := rfl
 have t0 := O.se hp 0
 have t1 := O.se hp 1
 have t2 := O.se hp 2
 have z1 := fun h => O.z hp (i := 1) h
 have z2 := fun h => O.z hp (i := 2) h
 have hT := O.TT
 obtain ⟨f, hf⟩ : ∃ f, k = f + 4 := ⟨k - 4, by omega⟩
 have e0 : (l.getD ((p : Int)).toNat default) = l.getD p default := by rw [Int.toNat_natCast]
 have q : ∀ (i : Nat), ((l.getD p default).Shapes.getD i 0) * (l.getD p default).Error = sh l p i * er l p := fun _ => rfl
 have u1 : w64 ((0 : Int) + 1) = 1 := by decide
 have u2 : w64 ((1 : Int) + 1) = 2 := by decide
 have u3 : w64 ((2 : Int) + 1) = 3 := by decide
 have gg0 := g0
 have gg1 := g1
 have gg2 := g2
 unfold sq at gg0 gg1 gg2
 have step : ∀ x : Nat, npoint_equations_l1_0 k l a (p : Int) k = npoint_equations_l1_0 k l a (p : Int) (f + 4) := fun _ => by rw [hf]
 rw [step 0, npoint_equations_l1_0.eq_2, e0, if_pos (by omega), if_pos (by omega), if_pos rfl, eq2_0 O hk hp a c0 c1 c2 h0.sm h1.sm h2.sm h3.sm h4.sm h5.sm h6.sm h7.sm h8.sm, Option.bind_some]
 dsimp only
 rw [show ((0 : Int)).toNat = 0 from rfl, q, u1, w64_id (n := sh l p 0 * er l p) (by omega) (by omega), w64_id (n := c0 + _) (by omega) (by omega), npoint_equations_l1_0.eq_2, e0]
 by_cases d1 : T = 1
 ·rw [if_neg (by omega), z1 (by omega), z2 (by omega)]; simp
 rw [if_pos (by omega), if_pos (by omega), if_neg (show ¬ (1 : Int) = 0 by decide), if_pos rfl]
 have m0 := sm_add h0 (O.ss hp 0 0)
 have m3 := sm_add h3 (O.ss hp 0 1)
 have m6 := sm_add h6 (O.ss hp 0 2)
 rw [eq2_1 O hk hp a _ c1 c2 m0 h1.sm h2.sm m3 h4.sm h5.sm m6 h7.sm h8.sm, Option.bind_some]
 dsimp only
 rw [show ((1 : Int)).toNat = 1 from rfl, q, u2, w64_id (n := sh l p 1 * er l p) (by omega) (by omega), w64_id (n := c1 + _) (by omega) (by omega), npoint_equations_l1_0.eq_2, e0]
 by_cases d2 : T = 2
 ·rw [if_neg (by omega), z2 (by omega)]; simp
 rw [if_pos (by omega), if_pos (by omega), if_neg (show ¬ (2 : Int) = 0 by decide), if_neg (show ¬ (2 : Int) = 1 by decide), if_pos rfl]
 have m1 := sm_add h1 (O.ss hp 1 0)
 have m4 := sm_add h4 (O.ss hp 1 1)
 have m7 := sm_add h7 (O.ss hp 1 2)
 rw [eq2_2 O hk hp a _ _ c2 m0 m1 h2.sm m3 m4 h5.sm m6 m7 h8.sm, Option.bind_some]
 dsimp only
 rw [show ((2 : Int)).toNat = 2 from rfl, q, u3, w64_id (n := sh l p 2 * er l p) (by omega) (by omega), w64_id (n := c2 + _) (by omega) (by omega), npoint_equations_l1_0.eq_2, e0, if_neg (by omega)]
def gs (l : List SSkyStar) (i j p : Nat) : Int := S (fun p => sh l p i * sh l p j) p
def hs (l : List SSkyStar) (i p : Nat) : Int := S (fun p => sh l p i * er l p) p
theorem gs_bd (O : OKS l t T) (i j : Nat) {p : Nat} (hp : p <= l.length) : -80000 <= gs l i j p /\ gs l i j p <= 80000 := by
 have := Mdl.S_bd (f := fun p => sh l p i * sh l p j) (a := 10000) p (fun q hq => O.ss (by omega) i j)
 have := O.n
 unfold gs; omega
theorem hs_bd (O : OKS l t T) (i : Nat) {p : Nat} (hp : p <= l.length) : -800000 <= hs l i p /\ hs l i p <= 800000 := by
 have := Mdl.S_bd (f := fun p => sh l p i * er l p) (a := 100000) p (fun q hq => O.se (by omega) i)
 have := O.n
 unfold hs; omega
theorem gs_sym (i j p : Nat) : gs l i j p = gs l j i p := Mdl.S_congr p fun q _ => Int.mul_comm _ _
theorem gs_z (O : OKS l t T) {i : Nat} (hi : T <= i) (j : Nat) {p : Nat} (hp : p <= l.length) : gs l i j p = 0 := by
 have : gs l i j p = S (fun _ => 0) p := Mdl.S_congr p fun q hq => by show sh l q i * _ = 0; rw [O.z (by omega) hi, Int.zero_mul]
 rw [this]
 clear hp this
 induction p with
 | zero => rfl
 | succ p ih => simp only [S]; omega
theorem eq0 (O : OKS l t T) (hk : 2000 < k) (a : Int) : ∀ (d fuel p : Nat), l.length = p + d -> d < fuel -> npoint_equations_l0_0 k l a fuel (gs l 0 0 p) (gs l 1 0 p) (gs l 2 0 p) (gs l 0 1 p) (gs l 1 1 p) (gs l 2 1 p) (gs l 0 2 p) (gs l 1 2 p) (gs l 2 2 p) (hs l 0 p) (hs l 1 p) (hs l 2 p) (p : Int)
 = some (gs l 0 0 l.length, gs l 1 0 l.length, gs l 2 0 l.length, gs l 0 1 l.length, gs l 1 1 l.length, gs l 2 1 l.length, gs l 0 2 l.length, gs l 1 2 l.length, gs l 2 2 l.length, hs l 0 l.length, hs l 1 l.length, hs l 2 l.length) := by
 have hn := O.n
 intro d
 induction d with
 | zero =>
   intro fuel p he hf
   obtain ⟨f, rfl⟩ : ∃ f, fuel = f + 1 := ⟨fuel - 1, by omega⟩
   rw [npoint_equations_l0_0.eq_2, if_neg (by omega), show l.length = p by omega]
 | succ d ih =>
   intro fuel p he hf
   obtain ⟨f, rfl⟩ : ∃ f, fuel = f + 1 := ⟨fuel - 1, by omega⟩
   have G : ∀ i j, sq (gs l i j p) := fun i j => by have := gs_bd O i j (p := p) (by omega); unfold sq; omega
   have H : ∀ i, sq (hs l i p) := fun i => by have := hs_bd O i (p := p) (by omega); unfold sq; omega
   rw [npoint_equations_l0_0.eq_2, if_pos (by omega), if_pos (by omega), eq1 O hk (by omega) a (G 0 0) (G 1 0) (G 2 0) (G 0 1) (G 1 1) (G 2 1) (G 0 2) (G 1 2) (G 2 2) (H 0) (H 1) (H 2), Option.bind_some, w64_succ (by omega)]
   exact ih f (p + 1) (by omega) (by omega)
def dl (T i : Nat) : Int := if T <= i then 1 else 0
theorem dl_bd (T i : Nat) : 0 <= dl T i /\ dl T i <= 1 := by unfold dl; split <;> omega
theorem eq3 (hk : 2000 < k) (hT : 1 <= T /\ T <= 3) (r : Int × Int × Int × Int × Int × Int × Int × Int × Int × Int × Int × Int) (x y z : Int) (h0 : T <= 0 -> x = 0) (h1 : T <= 1 -> y = 0) (h2 : T <= 2 -> z = 0) : npoint_equations_l3_0 k r k x y z (T : Int) = some (dl T 0 + x, dl T 1 + y, dl T 2 + z) := by
 obtain ⟨f, rfl⟩ : ∃ f, k = f + 4 := ⟨k - 4, by omega⟩
 have u2 : w64 ((1 : Int) + 1) = 2 := by decide
 have u3 : w64 ((2 : Int) + 1) = 3 := by decide
 unfold dl
 have hc : T = 1 \/ T = 2 \/ T = 3 := by omega
 rcases hc with rfl | rfl | rfl
 ·rw [npoint_equations_l3_0.eq_2, if_pos (by omega), if_neg (by omega), if_pos (by omega), show (((1 : Nat) : Int) + 1) = (1 : Int) + 1 from rfl, u2, npoint_equations_l3_0.eq_2, if_pos (by omega), if_neg (by omega), if_neg (by omega), if_pos (by omega), u3, npoint_equations_l3_0.eq_2, if_neg (by omega), h1 (by omega), h2 (by omega)]
  simp
 ·rw [npoint_equations_l3_0.eq_2, if_pos (by omega), if_neg (by omega), if_neg (by omega), if_pos (by omega), show (((2 : Nat) : Int) + 1) = (2 : Int) + 1 from rfl, u3, npoint_equations_l3_0.eq_2, if_neg (by omega), h2 (by omega)]
  simp
 ·rw [npoint_equations_l3_0.eq_2, if_neg (by omega)]
  simp
def gm (l : List SSkyStar) (T : Nat) : M3 := ⟨dl T 0 + gs l 0 0 l.length, gs l 0 1 l.length, gs l 0 2 l.length, dl T 1 + gs l 1 1 l.length, gs l 1 2 l.length, dl T 2 + gs l 2 2 l.length⟩
theorem gm_psd (l : List SSkyStar) (T : Nat) : Mdl.PSD (gm l T) := by
 have := Mdl.gram_psd (s := sh l) (Mdl.PSD.diag (dl_bd T 0).1 (dl_bd T 1).1 (dl_bd T 2).1) l.length
 rw [Mdl.gram_S] at this
 exact this
def cols (g : M3) : A98 := ⟨⟨g.a, g.b, g.c⟩, ⟨g.b, g.d, g.e⟩, ⟨g.c, g.e, g.f⟩⟩
theorem equations_p (O : OKS l t T) (hk : 2000 < k) : npoint_equations k l (T : Int) = some (cols (gm l T), ⟨hs l 0 l.length, hs l 1 l.length, hs l 2 l.length⟩) := by
 unfold npoint_equations
 have e1 : npoint_equations_l0_0 k l (T : Int) k 0 0 0 0 0 0 0 0 0 0 0 0 0 = _ := eq0 O hk (T : Int) l.length k 0 (by omega) (by have := O.n; omega)
 rw [e1, Option.bind_some]
 dsimp only
 rw [eq3 hk O.TT _ _ _ _ (fun h => gs_z O h 0 (Nat.le_refl _)) (fun h => gs_z O h 1 (Nat.le_refl _)) (fun h => gs_z O h 2 (Nat.le_refl _)), Option.bind_some, gs_sym 1 0, gs_sym 2 0, gs_sym 2 1]
 rfl
def dtm (A : A98) : Int := A.e0.e0 * (A.e1.e1 * A.e2.e2 - A.e1.e2 * A.e2.e1) + A.e0.e1 * (A.e1.e2 * A.e2.e0 - A.e1.e0 * A.e2.e2) + A.e0.e2 * (A.e1.e0 * A.e2.e1 - A.e1.e1 * A.e2.e0)
structure SV (v : Svector) : Prop where
 a : v.e0.natAbs <= 1000000
 b : v.e1.natAbs <= 1000000
 c : v.e2.natAbs <= 1000000
theorem det_p {A : A98} (h0 : SV A.e0) (h1 : SV A.e1) (h2 : SV A.e2) : npoint_determinant k A = some (dtm A) /\ (dtm A).natAbs <= 6000000000000000000 := by
 have p0 := abs_mul h1.b h2.c
 have p1 := abs_mul h1.c h2.b
 have p2 := abs_mul h1.c h2.a
 have p3 := abs_mul h1.a h2.c
 have p4 := abs_mul h1.a h2.b
 have p5 := abs_mul h1.b h2.a
 have d0 := abs_mul (y := A.e1.e1 * A.e2.e2 - A.e1.e2 * A.e2.e1) (b := 2000000000000) h0.a (by omega)
 have d1 := abs_mul (y := A.e1.e2 * A.e2.e0 - A.e1.e0 * A.e2.e2) (b := 2000000000000) h0.b (by omega)
 have d2 := abs_mul (y := A.e1.e0 * A.e2.e1 - A.e1.e1 * A.e2.e0) (b := 2000000000000) h0.c (by omega)
 refine ⟨?_, by unfold dtm; omega⟩
 unfold npoint_determinant dtm
 rw [w64_id (n := A.e1.e1 * A.e2.e2) (by omega) (by omega), w64_id (n := A.e1.e2 * A.e2.e1) (by omega) (by omega), w64_id (n := A.e1.e2 * A.e2.e0) (by omega) (by omega), w64_id (n := A.e1.e0 * A.e2.e2) (by omega) (by omega), w64_id (n := A.e1.e0 * A.e2.e1) (by omega) (by omega), w64_id (n := A.e1.e1 * A.e2.e0) (by omega) (by omega), w64_id (n := A.e1.e1 * A.e2.e2 - _) (by omega) (by omega), w64_id (n := A.e1.e2 * A.e2.e0 - _) (by omega) (by omega), w64_id (n := A.e1.e0 * A.e2.e1 - _) (by omega) (by omega), w64_id (n := A.e0.e0 * _) (by omega) (by omega), w64_id (n := A.e0.e1 * _) (by omega) (by omega), w64_id (n := A.e0.e2 * _) (by omega) (by omega), w64_id (n := A.e0.e0 * _ + A.e0.e1 * _) (by omega) (by omega), w64_id (n := A.e0.e0 * _ + A.e0.e1 * _ + A.e0.e2 * _) (by omega) (by omega)]
def fg : Nat -> List Int -> Nat
 | g, [] => g
 | g, x :: l => fg (Nat.gcd g x.natAbs) l
theorem fg_dvd : ∀ (l : List Int) (g : Nat), fg g l ∣ g /\ ∀ x, x ∈ l -> (fg g l : Int) ∣ x
 | [], g => ⟨Nat.dvd_refl _, fun x h => by cases h⟩
 | y :: l, g => by
   obtain ⟨h1, h2⟩ := fg_dvd l (Nat.gcd g y.natAbs)
   refine ⟨Nat.dvd_trans h1 (Nat.gcd_dvd_left _ _), fun x hx => ?_⟩
   rcases List.mem_cons.1 hx with rfl | hx
   ·exact Int.dvd_natAbs.1 (Int.natCast_dvd_natCast.2 (Nat.dvd_trans h1 (Nat.gcd_dvd_right _ _)))
   ·exact h2 x hx
theorem dvd_fg {d : Nat} : ∀ (l : List Int) (g : Nat), d ∣ g -> (∀ x, x ∈ l -> (d : Int) ∣ x) -> d ∣ fg g l
 | [], g, h, _ => h
 | y :: l, g, h, hx => dvd_fg l _ (Nat.dvd_gcd h (Int.natCast_dvd_natCast.1 (Int.dvd_natAbs.2 (hx y (by simp))))) (fun x h' => hx x (by simp [h']))
theorem gcd_step (x y : Int) : Nat.gcd y.natAbs (x.tmod y).natAbs = Nat.gcd x.natAbs y.natAbs := by
 rw [Int.natAbs_tmod, Nat.gcd_comm x.natAbs, Nat.gcd_rec y.natAbs x.natAbs, Nat.gcd_comm]
theorem dv1 (a : List Int) (x8 : Int) : ∀ (n fuel : Nat) (x y : Int), y.natAbs < n -> n <= fuel -> ∃ r, npoint_divisor_l1_0 k a x8 fuel x y = some r /\ r.natAbs = Nat.gcd x.natAbs y.natAbs := by
 intro n
 induction n with
 | zero => intro fuel x y h; omega
 | succ n ih =>
   intro fuel x y h hf
   obtain ⟨g, rfl⟩ : ∃ g, fuel = g + 1 := ⟨fuel - 1, by omega⟩
   rw [npoint_divisor_l1_0.eq_2]
   by_cases h0 : y = 0
   ·rw [if_pos h0]; exact ⟨x, rfl, by rw [h0]; simp⟩
   ·rw [if_neg h0, if_pos h0]
    have hy : 0 < y.natAbs := by omega
    obtain ⟨r, e1, e3⟩ := ih g y (x.tmod y) (by rw [Int.natAbs_tmod]; have := Nat.mod_lt x.natAbs hy; omega) (by omega)
    exact ⟨r, e1, by rw [e3, gcd_step]⟩
theorem dv0 (hk : 10000000000000000000 < k) (a : List Int) (ha : a.length <= 1000) (hb : ∀ j, j < a.length -> (a.getD j 0).natAbs <= 6000000000000000000) : ∀ (d fuel i : Nat) (x : Int), a.length = i + d -> d < fuel -> ∃ r, npoint_divisor_l0_0 k a fuel x (i : Int) = some r /\ r.natAbs = fg x.natAbs (a.drop i) := by
 intro d
 induction d with
 | zero =>
   intro fuel i x he hf
   obtain ⟨f, rfl⟩ : ∃ f, fuel = f + 1 := ⟨fuel - 1, by omega⟩
   exact ⟨x, by rw [npoint_divisor_l0_0.eq_2, if_neg (by omega)], by rw [List.drop_of_length_le (by omega)]; rfl⟩
 | succ d ih =>
   intro fuel i x he hf
   obtain ⟨f, rfl⟩ : ∃ f, fuel = f + 1 := ⟨fuel - 1, by omega⟩
   have := hb i (by omega)
   obtain ⟨r1, e1, e2⟩ := dv1 (k := k) a (i : Int) ((a.getD i 0).natAbs + 1) k x (a.getD i 0) (by omega) (by omega)
   obtain ⟨r, e3, e4⟩ := ih f (i + 1) r1 (by omega) (by omega)
   have hd : a.drop i = a.getD i 0 :: a.drop (i + 1) := by
    rw [List.drop_eq_getElem_cons (by omega), List.getD_eq_getElem?_getD, List.getElem?_eq_getElem (by omega)]; rfl
   refine ⟨r, ?_, ?_⟩
   ·rw [npoint_divisor_l0_0.eq_2, if_pos (by omega), if_pos (by omega), Int.toNat_natCast, e1, Option.bind_some, w64_succ (by omega)]; exact e3
   ·rw [e4, hd, e2]; rfl
theorem divisor_p (hk : 10000000000000000000 < k) (a : List Int) (ha : a.length <= 1000) (hb : ∀ j, j < a.length -> (a.getD j 0).natAbs <= 6000000000000000000) {x : Int} (hx : x ∈ a) (h0 : x ≠ 0) (hxb : x.natAbs <= 6000000000000000000) : npoint_divisor k a = some (fg 0 a : Int) /\ 0 < fg 0 a := by
 obtain ⟨r, e1, e2⟩ := dv0 hk a ha hb a.length k 0 0 (by omega) (by omega)
 have e1' : npoint_divisor_l0_0 k a k 0 0 = some r := e1
 rw [List.drop_zero] at e2
 have e2 : r.natAbs = fg 0 a := e2
 have hd := (fg_dvd a 0).2 x hx
 have hd := Int.natCast_dvd_natCast.1 (Int.dvd_natAbs.2 hd)
 have hle := Nat.le_of_dvd (by omega) hd
 have hpos : 0 < fg 0 a := Nat.pos_of_ne_zero fun h => by rw [h] at hd; have := Nat.eq_zero_of_zero_dvd hd; omega
 refine ⟨?_, hpos⟩
 unfold npoint_divisor
 rw [e1', Option.bind_some, w64_id (n := 0 - r) (by omega) (by omega)]
 unfold maxI
 congr 1
 split <;> omega
end
end Go.Proofs.Ytmjmggkllmfmlaa.Vg

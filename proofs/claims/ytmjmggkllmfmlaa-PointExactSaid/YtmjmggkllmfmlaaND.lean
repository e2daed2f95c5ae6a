import Derived.Test.YtmjmggkllmfmlaaNC
set_option linter.unusedVariables false
set_option linter.unusedSimpArgs false
namespace Go.Proofs.Ytmjmggkllmfmlaa.Vg
open Go Go.Proofs.Ytmjmggkllmfmlaa.Ev Go.Proofs.Ytmjmggkllmfmlaa.Vv
open Mdl (S D3 M3 X0 X1 X2)
section
variable {k : Nat} {l : List SSkyStar} {t : List Int} {T : Nat}
theorem S3 (hT : 1 <= T /\ T <= 3) (f : Nat -> Int) (hz : ∀ i, T <= i -> f i = 0) : S f T = f 0 + f 1 + f 2 := by
 have hc : T = 1 \/ T = 2 \/ T = 3 := by omega
 rcases hc with rfl | rfl | rfl
 ·rw [hz 1 (by omega), hz 2 (by omega)]; simp [S]
 ·rw [hz 2 (by omega)]; simp [S]
 ·simp [S]
def h0 (l : List SSkyStar) : Int := hs l 0 l.length
def h1 (l : List SSkyStar) : Int := hs l 1 l.length
def h2 (l : List SSkyStar) : Int := hs l 2 l.length
def XX (l : List SSkyStar) (T : Nat) : Nat -> Int
 | 0 => X0 (gm l T) (h0 l) (h1 l) (h2 l)
 | 1 => X1 (gm l T) (h0 l) (h1 l) (h2 l)
 | _ => X2 (gm l T) (h0 l) (h1 l) (h2 l)
def hv (l : List SSkyStar) : Svector := ⟨h0 l, h1 l, h2 l⟩
theorem sv_h (O : OKS l t T) : SV (hv l) := by
 have a := hs_bd O 0 (Nat.le_refl l.length)
 have b := hs_bd O 1 (Nat.le_refl l.length)
 have c := hs_bd O 2 (Nat.le_refl l.length)
 exact ⟨by show (hs l 0 l.length).natAbs <= _; omega, by show (hs l 1 l.length).natAbs <= _; omega, by show (hs l 2 l.length).natAbs <= _; omega⟩
theorem sv_c (O : OKS l t T) : SV (cols (gm l T)).e0 /\ SV (cols (gm l T)).e1 /\ SV (cols (gm l T)).e2 := by
 have a := gs_bd O 0 0 (Nat.le_refl l.length)
 have b := gs_bd O 0 1 (Nat.le_refl l.length)
 have c := gs_bd O 0 2 (Nat.le_refl l.length)
 have d := gs_bd O 1 1 (Nat.le_refl l.length)
 have e := gs_bd O 1 2 (Nat.le_refl l.length)
 have f := gs_bd O 2 2 (Nat.le_refl l.length)
 have x := dl_bd T 0
 have y := dl_bd T 1
 have z := dl_bd T 2
 have A : (gm l T).a.natAbs <= 1000000 := by show (dl T 0 + gs l 0 0 l.length).natAbs <= _; omega
 have B : (gm l T).b.natAbs <= 1000000 := by show (gs l 0 1 l.length).natAbs <= _; omega
 have C : (gm l T).c.natAbs <= 1000000 := by show (gs l 0 2 l.length).natAbs <= _; omega
 have D : (gm l T).d.natAbs <= 1000000 := by show (dl T 1 + gs l 1 1 l.length).natAbs <= _; omega
 have E : (gm l T).e.natAbs <= 1000000 := by show (gs l 1 2 l.length).natAbs <= _; omega
 have F : (gm l T).f.natAbs <= 1000000 := by show (dl T 2 + gs l 2 2 l.length).natAbs <= _; omega
 exact ⟨⟨A, B, C⟩, ⟨B, D, E⟩, ⟨C, E, F⟩⟩
theorem detD (O : OKS l t T) : npoint_determinant k (cols (gm l T)) = some (D3 (gm l T)) /\ (D3 (gm l T)).natAbs <= 6000000000000000000 := det_p (sv_c O).1 (sv_c O).2.1 (sv_c O).2.2
theorem det0 (O : OKS l t T) : npoint_determinant k ⟨hv l, (cols (gm l T)).e1, (cols (gm l T)).e2⟩ = some (XX l T 0) /\ (XX l T 0).natAbs <= 6000000000000000000 := det_p (A := ⟨hv l, (cols (gm l T)).e1, (cols (gm l T)).e2⟩) (sv_h O) (sv_c O).2.1 (sv_c O).2.2
theorem det1 (O : OKS l t T) : npoint_determinant k ⟨(cols (gm l T)).e0, hv l, (cols (gm l T)).e2⟩ = some (XX l T 1) /\ (XX l T 1).natAbs <= 6000000000000000000 := det_p (A := ⟨(cols (gm l T)).e0, hv l, (cols (gm l T)).e2⟩) (sv_c O).1 (sv_h O) (sv_c O).2.2
theorem det2 (O : OKS l t T) : npoint_determinant k ⟨(cols (gm l T)).e0, (cols (gm l T)).e1, hv l⟩ = some (XX l T 2) /\ (XX l T 2).natAbs <= 6000000000000000000 := det_p (A := ⟨(cols (gm l T)).e0, (cols (gm l T)).e1, hv l⟩) (sv_c O).1 (sv_c O).2.1 (sv_h O)
def nums (l : List SSkyStar) (T i : Nat) : List Int := D3 (gm l T) :: (List.range i).map (XX l T)
theorem nums_len (i : Nat) : (nums l T i).length = i + 1 := by simp [nums]
theorem nums_0 (i : Nat) : (nums l T i).getD 0 0 = D3 (gm l T) := rfl
theorem nums_s {i j : Nat} (h : j < i) : (nums l T i).getD (j + 1) 0 = XX l T j := by
 simp [nums, List.getD_eq_getElem?_getD, List.getElem?_map, List.getElem?_range h]
theorem fit0 (O : OKS l t T) : ∀ (d fuel i : Nat), T = i + d -> d < fuel -> npoint_Fit_l0_0 k ((T : Int), 0) (cols (gm l T), hv l) fuel (nums l T i) (i : Int) = some (nums l T T) := by
 have hT := O.TT
 intro d
 induction d with
 | zero =>
   intro fuel i he hf
   obtain ⟨f, rfl⟩ : ∃ f, fuel = f + 1 := ⟨fuel - 1, by omega⟩
   rw [npoint_Fit_l0_0.eq_2, if_neg (show ¬ (i : Int) < (T : Int) by omega), show i = T by omega]
 | succ d ih =>
   intro fuel i he hf
   obtain ⟨f, rfl⟩ : ∃ f, fuel = f + 1 := ⟨fuel - 1, by omega⟩
   have ea : nums l T i ++ [XX l T i] = nums l T (i + 1) := by simp [nums, List.range_succ]
   have hlen : (nums l T i).length + ([XX l T i] : List Int).length <= 1000000000 := by rw [nums_len]; simp; omega
   have go := ih f (i + 1) (by omega) (by omega)
   rw [<- ea] at go
   rw [npoint_Fit_l0_0.eq_2, if_pos (show (i : Int) < (T : Int) by omega), w64_succ (by omega)]
   have hc : i = 0 \/ i = 1 \/ i = 2 := by omega
   rcases hc with rfl | rfl | rfl
   ·rw [if_pos (by omega)]
    dsimp only
    rw [(det0 O).1, Option.bind_some, if_pos hlen]; exact go
   ·rw [if_neg (by omega), if_pos (by omega)]
    dsimp only
    rw [(det1 O).1, Option.bind_some, if_pos hlen]; exact go
   ·rw [if_neg (by omega), if_neg (by omega), if_pos (by omega)]
    dsimp only
    rw [(det2 O).1, Option.bind_some, if_pos hlen]; exact go
theorem xx_bd (O : OKS l t T) (i : Nat) : (XX l T i).natAbs <= 6000000000000000000 := match i with
 | 0 => (det0 (k := 0) O).2
 | 1 => (det1 (k := 0) O).2
 | _ + 2 => (det2 (k := 0) O).2
theorem nums_bd (O : OKS l t T) : ∀ j, j < (nums l T T).length -> ((nums l T T).getD j 0).natAbs <= 6000000000000000000 := fun j hj => by
 rw [nums_len] at hj
 cases j with
 | zero => exact (detD (k := 0) O).2
 | succ j => rw [nums_s (by omega)]; exact xx_bd O j
theorem getD_set {α : Type} {y : List α} {i : Nat} (h : i < y.length) (v d : α) (j : Nat) : (y.set i v).getD j d = if j = i then v else y.getD j d := by
 rw [List.getD_eq_getElem?_getD, List.getD_eq_getElem?_getD, List.getElem?_set]
 by_cases e : j = i
 ·subst e; rw [if_pos rfl, if_pos rfl, if_pos h]; rfl
 ·rw [if_neg (fun h => e h.symm), if_neg e]
theorem fit1 (r : A98 × Svector) (L : List Int) (hL : L.length <= 1000) (hb : ∀ j, j < L.length -> (L.getD j 0).natAbs <= 6000000000000000000) {d : Int} (hd : d ≠ 0) : ∀ (n fuel i : Nat) (y : List Int), L.length = i + n -> n < fuel -> y.length = L.length -> (∀ j, j < L.length -> y.getD j 0 = if j < i then (L.getD j 0).tdiv d else L.getD j 0) ->
 ∃ y', npoint_Fit_l1_0 k r L d fuel y (i : Int) = some y' /\ y'.length = L.length /\ ∀ j, j < L.length -> y'.getD j 0 = (L.getD j 0).tdiv d := by
 intro n
 induction n with
 | zero =>
   intro fuel i y he hf hy hj
   obtain ⟨f, rfl⟩ : ∃ f, fuel = f + 1 := ⟨fuel - 1, by omega⟩
   exact ⟨y, by rw [npoint_Fit_l1_0.eq_2, if_neg (by omega)], hy, fun j hjl => by rw [hj j hjl, if_pos (by omega)]⟩
 | succ n ih =>
   intro fuel i y he hf hy hj
   obtain ⟨f, rfl⟩ : ∃ f, fuel = f + 1 := ⟨fuel - 1, by omega⟩
   have h1 := hb i (by omega)
   have h2 : ((L.getD i 0).tdiv d).natAbs <= (L.getD i 0).natAbs := by rw [Int.natAbs_tdiv]; exact Nat.div_le_self _ _
   rw [npoint_Fit_l1_0.eq_2, if_pos (by omega), if_pos (by omega), if_pos hd, Int.toNat_natCast, hj i (by omega), if_neg (by omega), w64_id (n := (L.getD i 0).tdiv d) (by omega) (by omega), w64_succ (by omega)]
   refine ih f (i + 1) _ (by omega) (by omega) (by rw [List.length_set]; exact hy) (fun j hjl => ?_)
   rw [getD_set (by omega)]
   by_cases e : j = i
   ·rw [if_pos e, if_pos (by omega), e]
   ·rw [if_neg e, hj j hjl]
    by_cases e2 : j < i
    ·rw [if_pos e2, if_pos (by omega)]
    ·rw [if_neg e2, if_neg (by omega)]
theorem drop1 (y : List Int) (i : Nat) : (y.drop 1).getD i 0 = y.getD (i + 1) 0 := by
 simp only [List.getD_eq_getElem?_getD, List.getElem?_drop]
 rw [Nat.add_comm]
theorem stars_ok (O : OKS l t T) (hk : 2000 < k) : npoint_CheckStars k l = some ((T : Int), 0) := by
 have hn := O.n
 have hT := O.TT
 have h0 := (O.p 0 (by omega)).1
 have go : ∀ (d fuel i : Nat), l.length = i + d -> d < fuel -> npoint_CheckStars_l0_0 k l fuel (i : Int) = some (.inr ()) := by
  intro d
  induction d with
  | zero =>
    intro fuel i he hf
    obtain ⟨f, rfl⟩ : ∃ f, fuel = f + 1 := ⟨fuel - 1, by omega⟩
    rw [npoint_CheckStars_l0_0.eq_2, if_neg (by omega)]
  | succ d ih =>
    intro fuel i he hf
    obtain ⟨f, rfl⟩ : ∃ f, fuel = f + 1 := ⟨fuel - 1, by omega⟩
    obtain ⟨p1, p2, p3⟩ := O.p i (by omega)
    rw [npoint_CheckStars_l0_0.eq_2, if_pos (by omega), if_pos (by omega), Int.toNat_natCast]
    show (if (ns l i : Int) = (ns l 0 : Int) then (npoint_areWithin k 1 3 [(ns l 0 : Int)]).bind _ else _) = _
    have hlen : (l.getD i default).Shapes.length <= 1000 := by have : ns l i = (l.getD i default).Shapes.length := rfl; omega
    obtain ⟨r2, e2, g2⟩ := areS_p hk (a := 100) (by omega) (l.getD i default).Shapes hlen
    obtain ⟨r3, e3, g3⟩ := areS_p hk (a := 1000) (by omega) [(l.getD i default).Error] (by simp)
    rw [if_pos (by omega), areW_t hk (by simp) (fun j hj => by
     have : j = 0 := by simp at hj; omega
     subst this; simp only [List.getD_cons_zero]; omega), Option.bind_some, if_pos rfl, e2, Option.bind_some, if_pos (g2.2 (fun j hj => p3 j (by have : ns l i = (l.getD i default).Shapes.length := rfl; omega))), e3, Option.bind_some, if_pos (g3.2 (fun j hj => by
     have : j = 0 := by simp at hj; omega
     subst this; exact p2)), w64_succ (by omega)]
    exact ih f (i + 1) (by omega) (by omega)
 unfold npoint_CheckStars
 rw [if_neg (by omega), if_neg (by omega), if_pos (by omega), show npoint_CheckStars_l0_0 k l k 0 = _ from go l.length k 0 (by omega) (by omega)]
 show some ((ns l 0 : Int), (0 : Int)) = _
 rw [h0]
def FitA (l : List SSkyStar) (T : Nat) (m : SSkyModel) (e : Int) : Prop := (e = 11 /\ D3 (gm l T) = 0) \/ (0 < D3 (gm l T) /\ ∃ y : List Int, y.length = T + 1 /\ 0 < fg 0 (nums l T T) /\ (∀ j, j < T + 1 -> y.getD j 0 * (fg 0 (nums l T T) : Int) = (nums l T T).getD j 0) /\ ((e = 8 /\ ¬ ∀ j, j < T + 1 -> -1000000000000 <= y.getD j 0 /\ y.getD j 0 <= 1000000000000) \/ (e = 0 /\ m = ⟨y.drop 1, y.getD 0 0⟩)))
theorem fit_q (O : OKS l t T) (hk : 10000000000000000000 < k) : ∃ m e, npoint_Fit k l = some (m, e) /\ FitA l T m e := by
 have hT := O.TT
 have hs := stars_ok O (k := k) (by omega)
 have hq : npoint_equations k l (T : Int) = some (cols (gm l T), hv l) := equations_p O (by omega)
 unfold npoint_Fit
 rw [hs, Option.bind_some]
 dsimp only
 rw [if_pos rfl, hq, Option.bind_some]
 dsimp only
 rw [(detD O).1, Option.bind_some]
 by_cases c : D3 (gm l T) = 0
 ·rw [if_pos c]; exact ⟨_, _, rfl, .inl ⟨rfl, c⟩⟩
 rw [if_neg c]
 have hD := (gm_psd l T).d
 have hDb := (detD (k := k) O).2
 have e0 : npoint_Fit_l0_0 k ((T : Int), 0) (cols (gm l T), hv l) k [D3 (gm l T)] 0 = _ := fit0 O T k 0 (by omega) (by omega)
 have hnl := nums_len (l := l) (T := T) T
 have hmem : D3 (gm l T) ∈ nums l T T := by simp [nums]
 obtain ⟨d1, d2⟩ := divisor_p hk (nums l T T) (by omega) (fun j hj => by have := nums_bd O j hj; omega) hmem c (by omega)
 rw [e0, Option.bind_some, d1, Option.bind_some]
 obtain ⟨y, e2, e3, e4⟩ := fit1 (k := k) (cols (gm l T), hv l) (nums l T T) (by omega) (nums_bd O) (show (fg 0 (nums l T T) : Int) ≠ 0 by omega) (nums l T T).length k 0 (nums l T T) (by omega) (by omega) rfl (fun j hj => by rw [if_neg (by omega)])
 rw [show npoint_Fit_l1_0 k (cols (gm l T), hv l) (nums l T T) (fg 0 (nums l T T) : Int) k (nums l T T) 0 = _ from e2, Option.bind_some]
 have dv := fg_dvd (nums l T T) 0
 have fx : ∀ j, j < T + 1 -> y.getD j 0 * (fg 0 (nums l T T) : Int) = (nums l T T).getD j 0 := fun j hj => by
  rw [e4 j (by omega)]
  refine Int.tdiv_mul_cancel (dv.2 _ ?_)
  rw [List.getD_eq_getElem?_getD, List.getElem?_eq_getElem (show j < (nums l T T).length by omega)]
  exact List.getElem_mem _
 obtain ⟨r, e5, e6⟩ := areS_p (k := k) (by omega) (a := 1000000000000) (by omega) y (by omega)
 rw [e5, Option.bind_some]
 by_cases cr : r = true
 ·rw [if_pos cr, if_pos (by simp; omega)]
  have hcl : nslices_Clone_int_int_ k (y.drop ((1 : Int)).toNat) = some (y.drop 1) := by
   unfold nslices_Clone_int_int_
   rw [if_pos (by simp; omega)]; rfl
  rw [hcl, Option.bind_some, if_pos (by omega)]
  exact ⟨_, _, rfl, .inr ⟨by omega, y, by omega, d2, fx, .inr ⟨rfl, rfl⟩⟩⟩
 ·rw [if_neg cr]
  exact ⟨_, _, rfl, .inr ⟨by omega, y, by omega, d2, fx, .inl ⟨rfl, fun h => cr (e6.2 (fun j hj => h j (by omega)))⟩⟩⟩
theorem cramer_back (g : M3) (x y z : Int) : X0 g (g.a * x + g.b * y + g.c * z) (g.b * x + g.d * y + g.e * z) (g.c * x + g.e * y + g.f * z) = D3 g * x /\ X1 g (g.a * x + g.b * y + g.c * z) (g.b * x + g.d * y + g.e * z) (g.c * x + g.e * y + g.f * z) = D3 g * y /\ X2 g (g.a * x + g.b * y + g.c * z) (g.b * x + g.d * y + g.e * z) (g.c * x + g.e * y + g.f * z) = D3 g * z := by
 unfold X0 X1 X2 D3
 refine ⟨?_, ?_, ?_⟩ <;> grind
def ez (T : Nat) (u : List Int) (i : Nat) : Int := if i < T then u.getD i 0 else 0
theorem exact_x (O : OKS l t T) (u : List Int) (he : ∀ p, p < l.length -> er l p = ez T u 0 * sh l p 0 + ez T u 1 * sh l p 1 + ez T u 2 * sh l p 2) : ∀ i, i < T -> XX l T i = D3 (gm l T) * u.getD i 0 := by
 have hT := O.TT
 have hh : ∀ i p, p <= l.length -> hs l i p = ez T u 0 * gs l i 0 p + ez T u 1 * gs l i 1 p + ez T u 2 * gs l i 2 p := by
  intro i p
  induction p with
  | zero => intro _; simp [hs, gs, S]
  | succ p ih =>
    intro hp
    have ih := ih (by omega)
    have h := he p (by omega)
    unfold hs gs at *
    simp only [S]
    rw [ih, h]; grind
 have dz : ∀ i, dl T i * ez T u i = 0 := fun i => by
  unfold dl ez
  by_cases c : T <= i
  ·rw [if_pos c, if_neg (show ¬ i < T by omega), Int.mul_zero]
  ·rw [if_neg c, Int.zero_mul]
 have a0 := hh 0 l.length (Nat.le_refl _)
 have a1 := hh 1 l.length (Nat.le_refl _)
 have a2 := hh 2 l.length (Nat.le_refl _)
 have q0 := dz 0
 have q1 := dz 1
 have q2 := dz 2
 have b0 : h0 l = (gm l T).a * ez T u 0 + (gm l T).b * ez T u 1 + (gm l T).c * ez T u 2 := by
  show hs l 0 l.length = (dl T 0 + gs l 0 0 l.length) * ez T u 0 + gs l 0 1 l.length * ez T u 1 + gs l 0 2 l.length * ez T u 2
  rw [a0]; grind
 have b1 : h1 l = (gm l T).b * ez T u 0 + (gm l T).d * ez T u 1 + (gm l T).e * ez T u 2 := by
  show hs l 1 l.length = gs l 0 1 l.length * ez T u 0 + (dl T 1 + gs l 1 1 l.length) * ez T u 1 + gs l 1 2 l.length * ez T u 2
  rw [a1, gs_sym 1 0]; grind
 have b2 : h2 l = (gm l T).c * ez T u 0 + (gm l T).e * ez T u 1 + (gm l T).f * ez T u 2 := by
  show hs l 2 l.length = gs l 0 2 l.length * ez T u 0 + gs l 1 2 l.length * ez T u 1 + (dl T 2 + gs l 2 2 l.length) * ez T u 2
  rw [a2, gs_sym 2 0, gs_sym 2 1]; grind
 have hc := cramer_back (gm l T) (ez T u 0) (ez T u 1) (ez T u 2)
 rw [<- b0, <- b1, <- b2] at hc
 intro i hi
 have hz : ez T u i = u.getD i 0 := if_pos hi
 have hcase : i = 0 \/ i = 1 \/ i = 2 := by omega
 rcases hcase with rfl | rfl | rfl
 ·rw [<- hz]; exact hc.1
 ·rw [<- hz]; exact hc.2.1
 ·rw [<- hz]; exact hc.2.2
theorem fit_exact {m : SSkyModel} {e : Int} (F : FitA l T m e) (u : List Int) (hu : u.length = T) (hub : ∀ i, i < T -> -3 <= u.getD i 0 /\ u.getD i 0 <= 3) (hx : ∀ i, i < T -> XX l T i = D3 (gm l T) * u.getD i 0) : e = 11 \/ (e = 0 /\ m.Den = 1 /\ m.Terms = u /\ D3 (gm l T) ≠ 0) := by
 rcases F with ⟨h, _⟩ | ⟨hD, y, y1, y2, y3, y4⟩
 ·exact .inl h
 right
 have dall : ∀ x, x ∈ nums l T T -> D3 (gm l T) ∣ x := fun x hx' => by
  rcases List.mem_cons.1 hx' with rfl | hx'
  ·exact Int.dvd_refl _
  ·obtain ⟨i, h1, rfl⟩ := List.mem_map.1 hx'
   rw [hx i (List.mem_range.1 h1)]; exact Int.dvd_mul_right _ _
 have d1 : (D3 (gm l T)).natAbs ∣ fg 0 (nums l T T) := dvd_fg _ _ (Nat.dvd_zero _) (fun x hx' => Int.natAbs_dvd.2 (dall x hx'))
 have d2 : fg 0 (nums l T T) ∣ (D3 (gm l T)).natAbs := Int.natCast_dvd_natCast.1 (Int.dvd_natAbs.2 ((fg_dvd _ _).2 _ (by simp [nums])))
 have ed := Nat.dvd_antisymm d1 d2
 have edI : (fg 0 (nums l T T) : Int) = D3 (gm l T) := by omega
 have z0 := y3 0 (by omega)
 rw [edI, nums_0] at z0
 have w0 : y.getD 0 0 = 1 := Int.eq_of_mul_eq_mul_right (show D3 (gm l T) ≠ 0 by omega) (by rw [z0, Int.one_mul])
 have wi : ∀ i, i < T -> y.getD (i + 1) 0 = u.getD i 0 := fun i hi => by
  have z := y3 (i + 1) (by omega)
  rw [edI, nums_s hi, hx i hi, Int.mul_comm (D3 (gm l T))] at z
  exact Int.eq_of_mul_eq_mul_right (show D3 (gm l T) ≠ 0 by omega) z
 rcases y4 with ⟨_, hno⟩ | ⟨he, rfl⟩
 ·exfalso
  refine hno fun j hj => ?_
  cases j with
  | zero => rw [w0]; omega
  | succ j => rw [wi j (by omega)]; have := hub j (by omega); omega
 ·refine ⟨he, w0, ?_, by omega⟩
  refine List.ext_getElem (by simp; omega) fun i h1 h2 => ?_
  have h := wi i (by omega)
  have e1 : (y.drop 1).getD i 0 = (y.drop 1)[i] := by rw [List.getD_eq_getElem?_getD, List.getElem?_eq_getElem h1]; rfl
  have e2 : u.getD i 0 = u[i] := by rw [List.getD_eq_getElem?_getD, List.getElem?_eq_getElem h2]; rfl
  show (y.drop 1)[i] = u[i]
  rw [<- e1, drop1, h, e2]
def hs' (l : List SSkyStar) (i : Nat) : Int := hs l i l.length
theorem twice {l l' : List SSkyStar} (hn : l'.length = l.length) (hs : ∀ p, p < l.length -> ∀ i, sh l' p i = sh l p i) (he : ∀ p, p < l.length -> er l' p = 2 * er l p) : gm l' T = gm l T /\ ∀ i, XX l' T i = 2 * XX l T i := by
 have g : ∀ i j, gs l' i j l'.length = gs l i j l.length := fun i j => by
  rw [hn]; exact Mdl.S_congr _ fun p hp => by show sh l' p i * sh l' p j = _; rw [hs p hp, hs p hp]
 have h : ∀ i, hs' l' i = 2 * hs' l i := fun i => by
  unfold hs'
  rw [hn]
  have : ∀ q, q <= l.length -> Vg.hs l' i q = 2 * Vg.hs l i q := by
   intro q
   induction q with
   | zero => intro _; simp [Vg.hs, S]
   | succ q ih =>
     intro hq
     have ih := ih (by omega)
     unfold Vg.hs at *
     simp only [S]
     rw [ih, hs q (by omega), he q (by omega)]; grind
  exact this _ (Nat.le_refl _)
 have hg : gm l' T = gm l T := by unfold gm; rw [g, g, g, g, g, g]
 refine ⟨hg, fun i => ?_⟩
 have h0' : h0 l' = 2 * h0 l := h 0
 have h1' : h1 l' = 2 * h1 l := h 1
 have h2' : h2 l' = 2 * h2 l := h 2
 match i with
 | 0 => show X0 _ _ _ _ = 2 * X0 _ _ _ _; rw [hg, h0', h1', h2']; unfold X0; grind
 | 1 => show X1 _ _ _ _ = 2 * X1 _ _ _ _; rw [hg, h0', h1', h2']; unfold X1; grind
 | _ + 2 => show X2 _ _ _ _ = 2 * X2 _ _ _ _; rw [hg, h0', h1', h2']; unfold X2; grind
end
end Go.Proofs.Ytmjmggkllmfmlaa.Vg

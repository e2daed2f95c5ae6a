import Derived.Test.YtodaannbkfmhfaaKM
set_option linter.unusedVariables false
set_option linter.unusedSimpArgs false
namespace Go.Proofs.Ytodaannbkfmhfaa.Vg
open Go Go.Proofs.Ytodaannbkfmhfaa.Ev Go.Proofs.Ytodaannbkfmhfaa.Vv
theorem figW (k : Nat) (a b c : Int) : nfigure_isWithin k a b c = some (inR b c a) := by
 unfold nfigure_isWithin inR
 by_cases h : b <= a
 ·rw [if_pos h]; simp [h]
 ·rw [if_neg h]; simp [h]
theorem getD_mem {α : Type} {l : List α} {i : Nat} (h : i < l.length) (x : α) : l.getD i x ∈ l := by
 rw [List.getD_eq_getElem?_getD, List.getElem?_eq_getElem h, Option.getD_some]; exact List.getElem_mem h
theorem herr_l (k : Nat) (a : List Int) (hl : a.length <= 1000) : ∀ (d fuel i : Nat), a.length = i + d -> d < fuel -> nspeculumref06_HeightsErr_l0_0 k a fuel (i : Int) = some (sumB ((a.drop i).all (inR (-100000) 100000))) := by
 intro d
 induction d with
 | zero =>
   intro fuel i h hf
   obtain ⟨g, rfl⟩ : ∃ g, fuel = g + 1 := ⟨fuel - 1, by omega⟩
   rw [nspeculumref06_HeightsErr_l0_0.eq_2, if_neg (by omega), List.drop_eq_nil_of_le (by omega)]; rfl
 | succ d ih =>
   intro fuel i h hf
   obtain ⟨g, rfl⟩ : ∃ g, fuel = g + 1 := ⟨fuel - 1, by omega⟩
   have hi : i < a.length := by omega
   unfold nspeculumref06_HeightsErr_l0_0 nspeculumref06_isHeight
   rw [if_pos (by omega), if_pos (by omega), Int.toNat_natCast, wib, Option.bind_some, Option.bind_some, drop_get hi 0, List.all_cons, big_succ (by omega), ih g (i + 1) (by omega) (by omega)]
   cases inR (-100000) 100000 (a.getD i 0) <;> rfl
theorem areH_l (k : Nat) (a : List Int) (hl : a.length <= 1000) : ∀ (d fuel i : Nat), a.length = i + d -> d < fuel -> nfigure_areHeights_l0_0 k a fuel (i : Int) = some (sumB ((a.drop i).all (inR (-100000) 100000))) := by
 intro d
 induction d with
 | zero =>
   intro fuel i h hf
   obtain ⟨g, rfl⟩ : ∃ g, fuel = g + 1 := ⟨fuel - 1, by omega⟩
   rw [nfigure_areHeights_l0_0.eq_2, if_neg (by omega), List.drop_eq_nil_of_le (by omega)]; rfl
 | succ d ih =>
   intro fuel i h hf
   obtain ⟨g, rfl⟩ : ∃ g, fuel = g + 1 := ⟨fuel - 1, by omega⟩
   have hi : i < a.length := by omega
   rw [nfigure_areHeights_l0_0.eq_2, if_pos (by omega), if_pos (by omega), Int.toNat_natCast, figW, Option.bind_some, drop_get hi 0, List.all_cons, big_succ (by omega), ih g (i + 1) (by omega) (by omega)]
   cases inR (-100000) 100000 (a.getD i 0) <;> rfl
def hE (a : List Int) : Int := match inR 1 40 a.length with
 | false => 10
 | true => match a.all (inR (-100000) 100000) with
   | false => 2
   | true => 0
theorem herr_any {k : Nat} (hk : 1000 < k) (a : List Int) (hl : a.length <= 900) : nspeculumref06_HeightsErr k a = some (hE a) := by
 unfold nspeculumref06_HeightsErr hE
 have h := herr_l k a (by omega) a.length k 0 (by omega) (by omega)
 rw [wib, Option.bind_some]
 cases inR 1 40 (a.length : Int) with
 | false => rfl
 | true =>
   rw [if_pos rfl, show nspeculumref06_HeightsErr_l0_0 k a k 0 = _ from h, Option.bind_some, List.drop_zero]
   cases a.all (inR (-100000) 100000) <;> rfl
theorem checkH_any {k : Nat} (hk : 1000 < k) (a : List Int) (hl : a.length <= 900) : nfigure_checkHeights k a = some (hE a) := by
 unfold nfigure_checkHeights nfigure_areHeights hE
 have h := areH_l k a (by omega) a.length k 0 (by omega) (by omega)
 rw [figW, Option.bind_some]
 cases inR 1 40 (a.length : Int) with
 | false => rfl
 | true =>
   rw [if_pos rfl, show nfigure_areHeights_l0_0 k a k 0 = _ from h, Option.bind_some, List.drop_zero]
   cases a.all (inR (-100000) 100000) <;> rfl
def twE (h w : List Int) : Int := if hE h = 0 then (if (w.length : Int) = (h.length : Int) then hE w else 10) else hE h
theorem two_any {k : Nat} (hk : 1000 < k) (h w : List Int) (h1 : h.length <= 900) (h2 : w.length <= 900) : nspeculumref06_TwoErr k h w = some (twE h w) := by
 unfold nspeculumref06_TwoErr twE
 rw [herr_any hk h h1, herr_any hk w h2, Option.bind_some, Option.bind_some]
 split
 ·split <;> rfl
 ·rfl
theorem wanted_any {k : Nat} (hk : 1000 < k) (h w : List Int) (h1 : h.length <= 900) (h2 : w.length <= 900) : nfigure_checkWanted k h w = some (twE h w) := by
 unfold nfigure_checkWanted twE
 rw [checkH_any hk h h1, checkH_any hk w h2, Option.bind_some, Option.bind_some]
 split
 ·split <;> rfl
 ·rfl
theorem hE_zero {a : List Int} (h : hE a = 0) : ∀ t, t < a.length -> -100000 <= a.getD t 0 /\ a.getD t 0 <= 100000 := fun t ht => by
 unfold hE at h
 cases c : inR 1 40 (a.length : Int) with
 | false => rw [c] at h; simp at h
 | true =>
   rw [c] at h
   cases c2 : a.all (inR (-100000) 100000) with
   | false => rw [c2] at h; simp at h
   | true => exact inR_t.1 (List.all_eq_true.1 c2 _ (getD_mem ht 0))
theorem set_at {y : List Int} {i : Nat} (h : i < y.length) (v : Int) (j : Nat) : (y.set i v).getD j 0 = if j = i then v else y.getD j 0 := by
 rw [List.getD_eq_getElem?_getD, List.getD_eq_getElem?_getD, List.getElem?_set]
 by_cases e : j = i
 ·subst e; rw [if_pos rfl, if_pos rfl, if_pos h]; rfl
 ·rw [if_neg (fun h => e h.symm), if_neg e]
theorem worn_l (k : Nat) {n : Nat} (hn : n <= 100) (a r : List Int) (ha : a.length = n) (hr : r.length = n) (hb : ∀ t, t < n -> (-1000000 <= a.getD t 0 /\ a.getD t 0 <= 1000000) /\ -1000000 <= r.getD t 0 /\ r.getD t 0 <= 1000000) : ∀ (d fuel i : Nat) (y : List Int), n = i + d -> d < fuel -> y.length = n -> (∀ j, j < i -> y.getD j 0 = a.getD j 0 - r.getD j 0) ->
 ∃ u, nfigure_worn_l0_0 k a r fuel y (i : Int) = some u /\ u.length = n /\ ∀ j, j < n -> u.getD j 0 = a.getD j 0 - r.getD j 0 := by
 intro d
 induction d with
 | zero =>
   intro fuel i y h hf hy hj
   obtain ⟨g, rfl⟩ : ∃ g, fuel = g + 1 := ⟨fuel - 1, by omega⟩
   exact ⟨y, by rw [nfigure_worn_l0_0.eq_2, if_neg (by omega)], hy, fun j h1 => hj j (by omega)⟩
 | succ d ih =>
   intro fuel i y h hf hy hj
   obtain ⟨g, rfl⟩ : ∃ g, fuel = g + 1 := ⟨fuel - 1, by omega⟩
   have hbi := hb i (by omega)
   rw [nfigure_worn_l0_0.eq_2, if_pos (by omega), if_pos (by omega), if_pos (by omega), if_pos (by omega), Int.toNat_natCast, w64_id (by omega) (by omega), big_succ (by omega)]
   refine ih g (i + 1) _ (by omega) (by omega) (by rw [List.length_set]; exact hy) (fun j hj2 => ?_)
   rw [set_at (by omega)]
   by_cases e : j = i
   ·rw [if_pos e, e]
   ·rw [if_neg e, hj j (by omega)]
theorem worn_any {k : Nat} (hk : 1000 < k) {n : Nat} (hn : n <= 100) (a r : List Int) (ha : a.length = n) (hr : r.length = n) (hb : ∀ t, t < n -> (-1000000 <= a.getD t 0 /\ a.getD t 0 <= 1000000) /\ -1000000 <= r.getD t 0 /\ r.getD t 0 <= 1000000) : ∃ u, nfigure_worn k a r = some u /\ u.length = n /\ ∀ j, j < n -> u.getD j 0 = a.getD j 0 - r.getD j 0 := by
 obtain ⟨u, e1, e2, e3⟩ := worn_l k hn a r ha hr hb n k 0 (List.replicate n 0) (by omega) (by omega) (by simp) (fun j hj => by omega)
 refine ⟨u, ?_, e2, e3⟩
 unfold nfigure_worn
 rw [if_pos (by omega), ha, Int.toNat_natCast, show nfigure_worn_l0_0 k a r k (List.replicate n 0) 0 = _ from e1]; rfl
theorem below_l (k : Nat) {n : Nat} (hn : n <= 100) (a b : List Int) (ha : a.length = n) (hb : b.length = n) (h : ∀ t, t < n -> b.getD t 0 <= a.getD t 0) : ∀ (d fuel i : Nat), n = i + d -> d < fuel -> nfigure_isBelow_l0_0 k a b fuel (i : Int) = some (.inr ()) := by
 intro d
 induction d with
 | zero =>
   intro fuel i hd hf
   obtain ⟨g, rfl⟩ : ∃ g, fuel = g + 1 := ⟨fuel - 1, by omega⟩
   rw [nfigure_isBelow_l0_0.eq_2, if_neg (by omega)]
 | succ d ih =>
   intro fuel i hd hf
   obtain ⟨g, rfl⟩ : ∃ g, fuel = g + 1 := ⟨fuel - 1, by omega⟩
   have := h i (by omega)
   rw [nfigure_isBelow_l0_0.eq_2, if_pos (by omega), if_pos (by omega), if_pos (by omega), Int.toNat_natCast, if_neg (by omega), big_succ (by omega), ih g (i + 1) (by omega) (by omega)]
theorem below_any {k : Nat} (hk : 1000 < k) {n : Nat} (hn : n <= 100) (a b : List Int) (ha : a.length = n) (hb : b.length = n) (h : ∀ t, t < n -> b.getD t 0 <= a.getD t 0) : nfigure_isBelow k a b = some false := by
 unfold nfigure_isBelow
 rw [show nfigure_isBelow_l0_0 k a b k 0 = _ from below_l k hn a b ha hb h n k 0 (by omega) (by omega)]; rfl
theorem cwear_l (k : Nat) {n : Nat} (hn : n <= 100) (r : List Int) (hr : r.length = n) (h : ∀ t, t < n -> 0 <= r.getD t 0 /\ r.getD t 0 <= 100000) : ∀ (d fuel i : Nat), n = i + d -> d < fuel -> nfigure_checkWear_l0_0 k r fuel (i : Int) = some (.inr ()) := by
 intro d
 induction d with
 | zero =>
   intro fuel i hd hf
   obtain ⟨g, rfl⟩ : ∃ g, fuel = g + 1 := ⟨fuel - 1, by omega⟩
   rw [nfigure_checkWear_l0_0.eq_2, if_neg (by omega)]
 | succ d ih =>
   intro fuel i hd hf
   obtain ⟨g, rfl⟩ : ∃ g, fuel = g + 1 := ⟨fuel - 1, by omega⟩
   rw [nfigure_checkWear_l0_0.eq_2, if_pos (by omega), if_pos (by omega), Int.toNat_natCast, figW, Option.bind_some, if_pos (inR_t.2 (h i (by omega))), big_succ (by omega), ih g (i + 1) (by omega) (by omega)]
theorem cwear_any {k : Nat} (hk : 1000 < k) {n : Nat} (hn : n <= 100) (a r : List Int) (ha : a.length = n) (hr : r.length = n) (h : ∀ t, t < n -> 0 <= r.getD t 0 /\ r.getD t 0 <= 100000) : nfigure_checkWear k a r = some 0 := by
 unfold nfigure_checkWear
 rw [if_pos (by omega), show nfigure_checkWear_l0_0 k r k 0 = _ from cwear_l k hn r hr h n k 0 (by omega) (by omega)]; rfl
def rsm (t : Nat) : List (List Int) -> Int
 | [] => 0
 | r :: l => r.getD t 0 + rsm t l
def Rows (n : Nat) (l : List (List Int)) : Prop := ∀ r ∈ l, r.length = n /\ ∀ t, t < n -> 0 <= r.getD t 0
theorem rsm_nonneg {n t : Nat} (ht : t < n) : ∀ l : List (List Int), Rows n l -> 0 <= rsm t l
 | [], _ => Int.le_refl _
 | r :: l, h => by
   have h1 := (h r (by simp)).2 t ht
   have h2 := rsm_nonneg ht l (fun x hx => h x (by simp [hx]))
   simp only [rsm]; omega
theorem ses_l {k : Nat} (hk : 1000 < k) {n : Nat} (hn : n <= 100) (h w : List Int) (hh : h.length = n) (hw : w.length = n) (rows : List (List Int)) (hl : rows.length <= 100) (hR : Rows n rows) (hb : ∀ t, t < n -> -100000 <= w.getD t 0 /\ h.getD t 0 <= 100000) : ∀ (d fuel i : Nat) (cur : List Int), rows.length = i + d -> d < fuel -> cur.length = n -> (∀ t, t < n -> w.getD t 0 + rsm t (rows.drop i) <= cur.getD t 0 /\ cur.getD t 0 <= h.getD t 0 /\ h.getD t 0 <= w.getD t 0 + 10000) ->
 nfigure_CheckSessions_l0_0 k h w rows fuel (i : Int) cur = some (.inr ()) := by
 intro d
 induction d with
 | zero =>
   intro fuel i cur hd hf hc hi
   obtain ⟨g, rfl⟩ : ∃ g, fuel = g + 1 := ⟨fuel - 1, by omega⟩
   rw [nfigure_CheckSessions_l0_0.eq_2, if_neg (by omega)]
 | succ d ih =>
   intro fuel i cur hd hf hc hi
   obtain ⟨g, rfl⟩ : ∃ g, fuel = g + 1 := ⟨fuel - 1, by omega⟩
   have hlt : i < rows.length := by omega
   have hm := hR _ (getD_mem hlt default)
   rw [drop_get hlt default] at hi
   simp only [rsm] at hi
   have hrest : ∀ t, t < n -> 0 <= rsm t (rows.drop (i + 1)) := fun t ht => rsm_nonneg ht _ (fun x hx => hR x (List.mem_of_mem_drop hx))
   rw [nfigure_CheckSessions_l0_0.eq_2, if_pos (by omega), if_pos (by omega), Int.toNat_natCast]
   generalize rows.getD i default = r at hm hi ⊢
   rw [cwear_any hk hn h r hh hm.1 (fun t ht => by have := hi t ht; have := hm.2 t ht; have := hrest t ht; omega), Option.bind_some, if_pos rfl]
   obtain ⟨u, u1, u2, u3⟩ := worn_any hk hn cur r hc hm.1 (fun t ht => by have := hi t ht; have := hm.2 t ht; have := hrest t ht; have := hb t ht; omega)
   rw [u1, Option.bind_some, below_any hk hn u w u2 hw (fun t ht => by rw [u3 t ht]; have := hi t ht; have := hrest t ht; omega), Option.bind_some, if_neg (by decide), big_succ (by omega)]
   exact ih g (i + 1) u (by omega) (by omega) u2 (fun t ht => by rw [u3 t ht]; have := hi t ht; have := hm.2 t ht; omega)
theorem ses_ok {k : Nat} (hk : 1000 < k) {n : Nat} (hn : n <= 100) (h w : List Int) (hh : h.length = n) (hw : w.length = n) (he : twE h w = 0) (rows : List (List Int)) (hl : rows.length <= 100) (hR : Rows n rows) (hb : ∀ t, t < n -> w.getD t 0 + rsm t rows <= h.getD t 0 /\ h.getD t 0 <= w.getD t 0 + 10000) : nfigure_CheckSessions k h w rows = some (0, 0) := by
 have hz : hE h = 0 /\ hE w = 0 := by
  unfold twE at he
  by_cases c : hE h = 0
  ·rw [if_pos c, if_pos (by omega)] at he; exact ⟨c, he⟩
  ·rw [if_neg c] at he; exact absurd he c
 have h1 := hE_zero hz.1
 have h2 := hE_zero hz.2
 have hr0 : ∀ t, t < n -> 0 <= rsm t rows := fun t ht => rsm_nonneg ht rows hR
 unfold nfigure_CheckSessions
 rw [wanted_any hk h w (by omega) (by omega), Option.bind_some, if_pos he, if_neg (by omega), below_any hk hn h w hh hw (fun t ht => by have := hb t ht; have := hr0 t ht; omega), Option.bind_some, if_neg (by decide), show nfigure_CheckSessions_l0_0 k h w rows k 0 h = _ from ses_l hk hn h w hh hw rows hl hR (fun t ht => ⟨(h2 t (by omega)).1, (h1 t (by omega)).2⟩) rows.length k 0 h (by omega) (by omega) hh (fun t ht => by rw [List.drop_zero]; have := hb t ht; omega)]; rfl
end Go.Proofs.Ytodaannbkfmhfaa.Vg

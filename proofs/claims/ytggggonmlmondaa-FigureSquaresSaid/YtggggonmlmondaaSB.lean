/- FigureSquares: checks, and the program's least mean square. Plain. -/
import Derived.Test.YtggggonmlmondaaSA
import Derived.Test.YtggggonmlmondaaS0
set_option linter.unusedVariables false
set_option linter.unusedSimpArgs false
namespace Go.Proofs.Ytggggonmlmondaa.Vg
open Go Go.Proofs.Ytggggonmlmondaa.Ev Go.Proofs.Ytggggonmlmondaa.Vv
open Sq (sm vr cl)
local notation "LO" => SRange.Lo
local notation "HI" => SRange.Hi
theorem areHeights_two (k : Nat) (a b : Int) : nfigure_areHeights (k + 3) [a, b] = some (inH a && inH b) := by
  unfold nfigure_areHeights
  rw [nfigure_areHeights_l0_0.eq_2, if_pos (by simp), if_pos (by simp), within_fig, Option.bind_some]
  change (Option.bind (if inH a = true then _ else _) _) = _
  cases inH a with
  | false => rfl
  | true =>
    rw [if_pos rfl, w64_id (by omega) (by omega), nfigure_areHeights_l0_0.eq_2, if_pos (by simp), if_pos (by simp), within_fig, Option.bind_some]
    change (Option.bind (if inH b = true then _ else _) _) = _
    cases inH b with
    | false => rfl
    | true =>
      rw [if_pos rfl, w64_id (by omega) (by omega), nfigure_areHeights_l0_0.eq_2, if_neg (by simp)]; rfl
def OKr (r : SRange) : Prop := (-100000 ≤ r.Lo ∧ r.Lo ≤ 100000) ∧ (-100000 ≤ r.Hi ∧ r.Hi ≤ 100000) ∧ r.Lo ≤ r.Hi
/-! lists from an index on -/
theorem drop_c {α : Type} [Inhabited α] {l : List α} {i : Nat} (h : i < l.length) (x : α) : l.drop i = l.getD i x :: l.drop (i + 1) := by
  rw [List.drop_eq_getElem_cons h, List.getD_eq_getElem?_getD, List.getElem?_eq_getElem h, Option.getD_some]
theorem getD_m {α : Type} {l : List α} {i : Nat} (h : i < l.length) (x : α) : l.getD i x ∈ l := by
  rw [List.getD_eq_getElem?_getD, List.getElem?_eq_getElem h, Option.getD_some]; exact List.getElem_mem h
def ecr : List SRange → Option Int
  | [] => none
  | r :: l => if (inH r.Lo && inH r.Hi) = true then (if r.Hi < r.Lo then some 9 else ecr l) else some 2
theorem ecr_cons (r : SRange) (l : List SRange) : ecr (r :: l) = if (inH r.Lo && inH r.Hi) = true then (if r.Hi < r.Lo then some 9 else ecr l) else some 2 := rfl
def toS : Option Int → Sum Int Unit
  | none => .inr ()
  | some e => .inl e
theorem encP_l (k : Nat) (l : List SRange) (hl : l.length ≤ 1000) : ∀ (d fuel i : Nat), l.length = i + d → d < fuel → nfigure_CheckEnclosure_l0_0 (k + 3) l fuel (i : Int) = some (toS (ecr (l.drop i))) := by
  intro d
  induction d with
  | zero =>
    intro fuel i h hf
    obtain ⟨g, rfl⟩ : ∃ g, fuel = g + 1 := ⟨fuel - 1, by omega⟩
    rw [nfigure_CheckEnclosure_l0_0.eq_2, if_neg (by omega), List.drop_eq_nil_of_le (by omega)]; rfl
  | succ d ih =>
    intro fuel i h hf
    obtain ⟨g, rfl⟩ : ∃ g, fuel = g + 1 := ⟨fuel - 1, by omega⟩
    have hi : i < l.length := by omega
    rw [nfigure_CheckEnclosure_l0_0.eq_2, if_pos (by omega), if_pos (by omega), Int.toNat_natCast, areHeights_two, Option.bind_some, drop_c hi default, w64_succ (by omega), ih g (i + 1) (by omega) (by omega), ecr_cons]
    split
    · split <;> rfl
    · rfl
theorem encR_l (k : Nat) (l : List SRange) (hl : l.length ≤ 1000) : ∀ (d fuel i : Nat), l.length = i + d → d < fuel → nspeculumref06_CheckEnclosure_l0_0 k l fuel (i : Int) = some (toS (ecr (l.drop i))) := by
  intro d
  induction d with
  | zero =>
    intro fuel i h hf
    obtain ⟨g, rfl⟩ : ∃ g, fuel = g + 1 := ⟨fuel - 1, by omega⟩
    rw [nspeculumref06_CheckEnclosure_l0_0.eq_2, if_neg (by omega), List.drop_eq_nil_of_le (by omega)]; rfl
  | succ d ih =>
    intro fuel i h hf
    obtain ⟨g, rfl⟩ : ∃ g, fuel = g + 1 := ⟨fuel - 1, by omega⟩
    have hi : i < l.length := by omega
    rw [nspeculumref06_CheckEnclosure_l0_0.eq_2, if_pos (by omega), if_pos (by omega), Int.toNat_natCast, isHeight_any, Option.bind_some, isHeight_any, Option.bind_some, drop_c hi default, w64_succ (by omega), ih g (i + 1) (by omega) (by omega), ecr_cons]
    cases inH (l.getD i default).Lo <;> cases inH (l.getD i default).Hi
    · rfl
    · rfl
    · rfl
    · simp only [Bool.and_self, if_true]
      split <;> rfl
theorem ecr_e : ∀ (l : List SRange) (e : Int), ecr l = some e → e ≠ 0
  | [], e, h => by cases h
  | r :: l, e, h => by
    rw [ecr_cons] at h
    split at h
    · split at h
      · injection h with h; omega
      · exact ecr_e l e h
    · injection h with h; omega
theorem ecr_n : ∀ l : List SRange, ecr l = none → ∀ a ∈ l, OKr a
  | [], _, a, ha => by cases ha
  | r :: l, h, a, ha => by
    rw [ecr_cons] at h
    split at h
    · rename_i c
      split at h
      · cases h
      · rename_i c2
        rcases List.mem_cons.1 ha with rfl | ha
        · rw [Bool.and_eq_true] at c
          exact ⟨of_decide_eq_true c.1, of_decide_eq_true c.2, by omega⟩
        · exact ecr_n l h a ha
    · cases h
structure LK (l : List SRange) : Prop where
  n0 : 1 ≤ l.length
  ok : ∀ a ∈ l, OKr a
theorem encs {k : Nat} (hk : 2000 < k) (l : List SRange) (hl : l.length ≤ 1000) : ∃ e, nfigure_CheckEnclosure k l = some e ∧ nspeculumref06_CheckEnclosure k l = some e ∧ (e = 0 → LK l) := by
  obtain ⟨k, rfl⟩ : ∃ q, k = q + 3 := ⟨k - 3, by omega⟩
  have e1 := encP_l k l hl l.length (k + 3) 0 (by omega) (by omega)
  have e2 := encR_l (k + 3) l hl l.length (k + 3) 0 (by omega) (by omega)
  unfold nfigure_CheckEnclosure nspeculumref06_CheckEnclosure
  rw [within_fig, within_base, Option.bind_some, Option.bind_some]
  by_cases c : 1 ≤ (l.length : Int) ∧ (l.length : Int) ≤ 40
  case neg =>
    rw [decide_eq_false c]
    exact ⟨10, rfl, rfl, fun h => by omega⟩
  rw [decide_eq_true c]
  rw [show nfigure_CheckEnclosure_l0_0 (k + 3) l (k + 3) 0 = _ from e1, show nspeculumref06_CheckEnclosure_l0_0 (k + 3) l (k + 3) 0 = _ from e2, List.drop_zero]
  cases he : ecr l with
  | some e => exact ⟨e, rfl, rfl, fun h => absurd h (ecr_e l e he)⟩
  | none => exact ⟨0, rfl, rfl, fun _ => ⟨by omega, ecr_n l he⟩⟩
theorem sm_bd {α : Type} {f : α → Int} {B : Int} : ∀ l : List α, (∀ a ∈ l, -B ≤ f a ∧ f a ≤ B) → -((l.length : Int) * B) ≤ sm f l ∧ sm f l ≤ (l.length : Int) * B
  | [], _ => by simp [sm]
  | a :: l, h => by
    have h1 := h a (by simp)
    have h2 := sm_bd l (fun b hb => h b (by simp [hb]))
    simp only [sm, List.length_cons, Int.natCast_add, Int.add_mul]
    simp only [Int.natCast_one, Int.one_mul]; omega
theorem sm_le' {α : Type} {f : α → Int} {B : Int} (l : List α) (h : ∀ a ∈ l, 0 ≤ f a ∧ f a ≤ B) : 0 ≤ sm f l ∧ sm f l ≤ (l.length : Int) * B := by
  refine ⟨Sq.sm_nonneg l (fun a ha => (h a ha).1), (sm_bd l (fun a ha => ?_)).2⟩
  have := h a ha; omega
theorem total_l (k : Nat) (a : List Int) (hl : a.length ≤ 10) : ∀ (d fuel i : Nat) (x : Int), a.length = i + d → d < fuel → (∀ y ∈ a, -1000000 ≤ y ∧ y ≤ 1000000) → -((i : Int) * 1000000) ≤ x → x ≤ (i : Int) * 1000000 →
    nfigure_total_l0_0 k a fuel x (i : Int) = some (x + sm id (a.drop i)) := by
  intro d
  induction d with
  | zero =>
    intro fuel i x h hf hb h1 h2
    obtain ⟨g, rfl⟩ : ∃ g, fuel = g + 1 := ⟨fuel - 1, by omega⟩
    rw [nfigure_total_l0_0.eq_2, if_neg (by omega), List.drop_eq_nil_of_le (by omega)]; simp [sm]
  | succ d ih =>
    intro fuel i x h hf hb h1 h2
    obtain ⟨g, rfl⟩ : ∃ g, fuel = g + 1 := ⟨fuel - 1, by omega⟩
    have hi : i < a.length := by omega
    have hy := hb _ (getD_m hi 0)
    rw [nfigure_total_l0_0.eq_2, if_pos (by omega), if_pos (by omega), Int.toNat_natCast, w64_succ (by omega), w64_id (by omega) (by omega), ih g (i + 1) _ (by omega) (by omega) hb (by omega) (by omega), drop_c hi 0]
    simp only [sm, id]; congr 1; omega
theorem total_any {k : Nat} (hk : 100 < k) (a : List Int) (hl : a.length ≤ 10) (hb : ∀ y ∈ a, -1000000 ≤ y ∧ y ≤ 1000000) : nfigure_total k a = some (sm id a) := by
  unfold nfigure_total
  rw [show nfigure_total_l0_0 k a k 0 0 = _ from total_l k a hl a.length k 0 0 (by omega) (by omega) hb (by omega) (by omega)]
  simp
/-! the ends nearest to what lies just above e -/
def ed1 (e : Int) (r : SRange) : List Int := if e < r.Lo then [r.Lo] else if r.Hi ≤ e then [r.Hi] else []
def eds (e : Int) (l : List SRange) : List Int := l.flatMap (ed1 e)
theorem eds_len (e : Int) : ∀ l, ((eds e l).length : Int) = sm (Sq.cnt LO HI e) l
  | [] => rfl
  | r :: l => by
    have ih := eds_len e l
    unfold eds at ih ⊢
    rw [List.flatMap_cons, List.length_append, Int.natCast_add, ih]
    simp only [sm]
    congr 1
    unfold ed1 Sq.cnt
    split
    · rfl
    · split <;> rfl
theorem sm_app {α : Type} (f : α → Int) : ∀ l m : List α, sm f (l ++ m) = sm f l + sm f m
  | [], m => by simp [sm]
  | a :: l, m => by simp only [List.cons_append, sm]; rw [sm_app f l m]; omega
theorem eds_sum (e : Int) : ∀ l, sm id (eds e l) = sm (Sq.en LO HI e) l
  | [] => rfl
  | r :: l => by
    have ih := eds_sum e l
    unfold eds at ih ⊢
    rw [List.flatMap_cons, sm_app, ih]
    simp only [sm]
    congr 1
    unfold ed1 Sq.en
    split
    · simp [sm]
    · split <;> simp [sm]
theorem eds_le (e : Int) (l : List SRange) : (eds e l).length ≤ l.length := by
  have h := eds_len e l
  have := (sm_le' (f := Sq.cnt LO HI e) (B := 1) l (fun a _ => by unfold Sq.cnt; split; omega; split <;> omega)).2
  omega
theorem eds_bd {e : Int} {l : List SRange} (h : ∀ a ∈ l, OKr a) : ∀ y ∈ eds e l, -100000 ≤ y ∧ y ≤ 100000 := fun y hy => by
  obtain ⟨r, hr, hy⟩ := List.mem_flatMap.1 hy
  have ho := h r hr
  unfold ed1 at hy
  unfold OKr at ho
  split at hy
  · rw [List.mem_singleton.1 hy]; omega
  · split at hy
    · rw [List.mem_singleton.1 hy]; omega
    · cases hy
theorem near_l (k : Nat) (l : List SRange) (e : Int) (hl : l.length ≤ 10) : ∀ (d fuel i : Nat) (y : List Int), l.length = i + d → d < fuel → y.length ≤ i →
    nfigure_nearestMean_l0_0 k l e fuel y (i : Int) = some (y ++ eds e (l.drop i)) := by
  intro d
  induction d with
  | zero =>
    intro fuel i y h hf hy
    obtain ⟨g, rfl⟩ : ∃ g, fuel = g + 1 := ⟨fuel - 1, by omega⟩
    rw [nfigure_nearestMean_l0_0.eq_2, if_neg (by omega), List.drop_eq_nil_of_le (by omega)]; simp [eds]
  | succ d ih =>
    intro fuel i y h hf hy
    obtain ⟨g, rfl⟩ : ∃ g, fuel = g + 1 := ⟨fuel - 1, by omega⟩
    have hi : i < l.length := by omega
    rw [nfigure_nearestMean_l0_0.eq_2, if_pos (by omega), if_pos (by omega), Int.toNat_natCast, w64_succ (by omega), drop_c hi default]
    unfold eds
    rw [List.flatMap_cons]
    unfold ed1
    by_cases c1 : e < (l.getD i default).Lo
    · rw [if_pos c1, if_pos c1, if_pos (by simp only [List.length_cons, List.length_nil]; omega), ih g (i + 1) _ (by omega) (by omega) (by simp; omega), List.append_assoc]; rfl
    · rw [if_neg c1, if_neg c1]
      by_cases c2 : (l.getD i default).Hi ≤ e
      · rw [if_pos c2, if_pos c2, if_pos (by simp only [List.length_cons, List.length_nil]; omega), ih g (i + 1) _ (by omega) (by omega) (by simp; omega), List.append_assoc]; rfl
      · rw [if_neg c2, if_neg c2, ih g (i + 1) y (by omega) (by omega) (by omega)]; rfl
def NN (e : Int) (l : List SRange) : Int := sm (Sq.cnt LO HI e) l
def SS (e : Int) (l : List SRange) : Int := sm (Sq.en LO HI e) l
def nm (l : List SRange) (e : Int) : SFrac := if NN e l = 0 then lw e 1 else lw (SS e l) (NN e l)
theorem NN_bd (e : Int) (l : List SRange) : 0 ≤ NN e l ∧ NN e l ≤ (l.length : Int) := by
  have := sm_le' (f := Sq.cnt LO HI e) (B := 1) l (fun a _ => by unfold Sq.cnt; split; omega; split <;> omega)
  unfold NN; omega
theorem SS_bd {e : Int} {l : List SRange} (h : ∀ a ∈ l, OKr a) : -((l.length : Int) * 100000) ≤ SS e l ∧ SS e l ≤ (l.length : Int) * 100000 :=
  sm_bd l (fun a ha => by
    have := h a ha
    unfold OKr at this
    unfold Sq.en; split
    · omega
    · split <;> omega)
theorem near_any {k : Nat} (hk : 9223372036854775808 < k) {l : List SRange} (L : LK l) (hl : l.length ≤ 6) {e : Int} (he : -100000 ≤ e ∧ e ≤ 100000) : nfigure_nearestMean k l e = some (nm l e) := by
  unfold nfigure_nearestMean
  have hn := near_l k l e (by omega) l.length k 0 [] (by omega) (by omega) (by simp)
  rw [show nfigure_nearestMean_l0_0 k l e k [] 0 = _ from hn, Option.bind_some, List.nil_append, List.drop_zero]
  have hlen : ((eds e l).length : Int) = NN e l := eds_len e l
  have hle := eds_le e l
  have hs := SS_bd (e := e) L.ok
  have hb := NN_bd e l
  unfold nm
  by_cases c : NN e l = 0
  · rw [if_pos (by omega), if_pos c, (lowests k hk (x := e) (y := 1) (by omega) (by omega) (by omega)).2]; rfl
  · have ht := total_any (k := k) (by omega) (eds e l) (by omega) (fun y hy => by have := eds_bd L.ok y hy; omega)
    rw [if_neg (by omega), if_neg c, ht, Option.bind_some, hlen, eds_sum, (lowests k hk (x := sm (Sq.en LO HI e) l) (y := NN e l) (by unfold SS at hs; omega) (by omega) (by omega)).2]; rfl
/-- a level: a mean of at most so many ends. -/
structure Lev (f : SFrac) : Prop where
  d0 : 0 < f.Den
  d1 : f.Den ≤ 6
  n : f.Num.natAbs ≤ 600000
theorem nm_lev {l : List SRange} (L : LK l) (hl : l.length ≤ 6) {e : Int} (he : -100000 ≤ e ∧ e ≤ 100000) : Lev (nm l e) := by
  have hs := SS_bd (e := e) L.ok
  have hb := NN_bd e l
  unfold nm
  by_cases c : NN e l = 0
  · rw [if_pos c]
    have h1 := lw_le (x := e) (y := 1) (by omega)
    exact ⟨(lw_low (by omega)).d, by omega, by omega⟩
  · rw [if_neg c]
    have h1 := lw_le (x := SS e l) (y := NN e l) (by omega)
    exact ⟨(lw_low (by omega)).d, by omega, by omega⟩
/-! squares about a level -/
def gq (f : SFrac) (a : SRange) : Int := (cl LO HI f.Num f.Den a - f.Num) * (cl LO HI f.Num f.Den a - f.Num)
def Gs (f : SFrac) (l : List SRange) : Int := sm (gq f) l
theorem cl_bd {f : SFrac} (V : Lev f) {a : SRange} (h : OKr a) : -600000 ≤ cl LO HI f.Num f.Den a ∧ cl LO HI f.Num f.Den a ≤ 600000 := by
  have h0 := V.d0
  have h1 := V.d1
  have h2 := V.n
  have h3 := Sq.cl_in (lo := LO) (hi := HI) (p := f.Num) (a := a) h0 h.2.2
  have h4 : -600000 ≤ a.Lo * f.Den := by
    have := Int.mul_le_mul_of_nonneg_right h.1.1 (Int.le_of_lt h0)
    omega
  have h5 : a.Hi * f.Den ≤ 600000 := by
    have := Int.mul_le_mul_of_nonneg_right h.2.1.2 (Int.le_of_lt h0)
    omega
  have e1 : LO a = a.Lo := rfl
  have e2 : HI a = a.Hi := rfl
  rw [e1, e2] at h3
  omega
theorem sq_bd {x B : Int} (h1 : -B ≤ x) (h2 : x ≤ B) : 0 ≤ x * x ∧ x * x ≤ B * B := by
  refine ⟨Sq.sq_nonneg x, ?_⟩
  have := Int.mul_nonneg (show 0 ≤ B - x by omega) (show 0 ≤ B + x by omega)
  have e : (B - x) * (B + x) = B * B - x * x := by grind
  omega
theorem gq_bd {f : SFrac} (V : Lev f) {a : SRange} (h : OKr a) : 0 ≤ gq f a ∧ gq f a ≤ 1440000000000 := by
  have h1 := cl_bd V h
  have h2 := V.n
  exact sq_bd (B := 1200000) (by omega) (by omega)
theorem about_l (k : Nat) {l : List SRange} (L : LK l) (hl : l.length ≤ 6) {f : SFrac} (V : Lev f) : ∀ (d fuel i : Nat) (x : Int), l.length = i + d → d < fuel → 0 ≤ x → x ≤ (i : Int) * 1440000000000 →
    nfigure_squareAbout_l0_0 k l f fuel (i : Int) x = some (x + sm (gq f) (l.drop i)) := by
  intro d
  induction d with
  | zero =>
    intro fuel i x h hf h1 h2
    obtain ⟨g, rfl⟩ : ∃ g, fuel = g + 1 := ⟨fuel - 1, by omega⟩
    rw [nfigure_squareAbout_l0_0.eq_2, if_neg (by omega), List.drop_eq_nil_of_le (by omega)]; simp [sm]
  | succ d ih =>
    intro fuel i x h hf h1 h2
    obtain ⟨g, rfl⟩ : ∃ g, fuel = g + 1 := ⟨fuel - 1, by omega⟩
    have hi : i < l.length := by omega
    have ho := L.ok _ (getD_m hi default)
    rw [nfigure_squareAbout_l0_0.eq_2, if_pos (by omega), if_pos (by omega), Int.toNat_natCast, drop_c hi default]
    simp only [sm]
    generalize l.getD i default = a at ho ⊢
    have hg := gq_bd V ho
    have hc := cl_bd V ho
    have v0 := V.d0
    have v1 := V.d1
    have v2 := V.n
    have m1 := Int.mul_le_mul_of_nonneg_right ho.1.1 (Int.le_of_lt v0)
    have m2 := Int.mul_le_mul_of_nonneg_right ho.1.2 (Int.le_of_lt v0)
    have m3 := Int.mul_le_mul_of_nonneg_right ho.2.1.1 (Int.le_of_lt v0)
    have m4 := Int.mul_le_mul_of_nonneg_right ho.2.1.2 (Int.le_of_lt v0)
    have m5 := Int.mul_le_mul_of_nonneg_right ho.2.2 (Int.le_of_lt v0)
    have hw : (maxI (maxI (w64 (w64 (a.Lo * f.Den) - f.Num)) (w64 (f.Num - w64 (a.Hi * f.Den)))) 0) * (maxI (maxI (w64 (w64 (a.Lo * f.Den) - f.Num)) (w64 (f.Num - w64 (a.Hi * f.Den)))) 0) = gq f a := by
      rw [w64_id (n := a.Lo * f.Den) (by omega) (by omega), w64_id (n := a.Hi * f.Den) (by omega) (by omega), w64_id (n := a.Lo * f.Den - f.Num) (by omega) (by omega), w64_id (n := f.Num - a.Hi * f.Den) (by omega) (by omega)]
      unfold gq
      by_cases c1 : f.Num < a.Lo * f.Den
      · have e1 : cl LO HI f.Num f.Den a = a.Lo * f.Den := by unfold Sq.cl; rw [if_pos c1]
        have e2 : maxI (maxI (a.Lo * f.Den - f.Num) (f.Num - a.Hi * f.Den)) 0 = a.Lo * f.Den - f.Num := by
          unfold maxI; split <;> split <;> omega
        rw [e1, e2]
      · by_cases c2 : a.Hi * f.Den < f.Num
        · have e1 : cl LO HI f.Num f.Den a = a.Hi * f.Den := by unfold Sq.cl; rw [if_neg c1, if_pos c2]
          have e2 : maxI (maxI (a.Lo * f.Den - f.Num) (f.Num - a.Hi * f.Den)) 0 = f.Num - a.Hi * f.Den := by
            unfold maxI; split <;> split <;> omega
          rw [e1, e2]; grind
        · have e1 : cl LO HI f.Num f.Den a = f.Num := by unfold Sq.cl; rw [if_neg c1, if_neg c2]
          have e2 : maxI (maxI (a.Lo * f.Den - f.Num) (f.Num - a.Hi * f.Den)) 0 = 0 := by
            unfold maxI; split <;> split <;> omega
          rw [e1, e2]; simp
    rw [hw, w64_succ (by omega), w64_id (n := gq f a) (by omega) (by omega), w64_id (n := x + gq f a) (by omega) (by omega), ih g (i + 1) _ (by omega) (by omega) (by omega) (by omega)]
    congr 1; omega
/-- the mean square about a level. -/
def sa (l : List SRange) (f : SFrac) : SFrac := lw (Gs f l) ((l.length : Int) * f.Den * f.Den)
theorem den_bd {l : List SRange} (L : LK l) (hl : l.length ≤ 6) {f : SFrac} (V : Lev f) : 0 < (l.length : Int) * f.Den * f.Den ∧ (l.length : Int) * f.Den * f.Den ≤ 216 ∧ 0 ≤ (l.length : Int) * f.Den ∧ (l.length : Int) * f.Den ≤ 36 := by
  have v0 := V.d0
  have v1 := V.d1
  have n0 := L.n0
  have h1 := Int.mul_pos (show (0 : Int) < (l.length : Int) by omega) v0
  have h2 := Int.mul_le_mul (show (l.length : Int) ≤ 6 by omega) v1 (by omega) (by omega)
  have h3 := Int.mul_pos h1 v0
  have h4 := Int.mul_le_mul h2 v1 (by omega) (by omega)
  omega
theorem Gs_bd {l : List SRange} (L : LK l) (hl : l.length ≤ 6) {f : SFrac} (V : Lev f) : 0 ≤ Gs f l ∧ Gs f l ≤ 8640000000000 := by
  have := sm_le' (f := gq f) l (fun a ha => gq_bd V (L.ok a ha))
  unfold Gs; omega
theorem about_any {k : Nat} (hk : 9223372036854775808 < k) {l : List SRange} (L : LK l) (hl : l.length ≤ 6) {f : SFrac} (V : Lev f) : nfigure_squareAbout k l f = some (sa l f) := by
  unfold nfigure_squareAbout
  have h := about_l k L hl V l.length k 0 0 (by omega) (by omega) (by omega) (by omega)
  have hg := Gs_bd L hl V
  obtain ⟨d1, d2, d3, d4⟩ := den_bd L hl V
  rw [show nfigure_squareAbout_l0_0 k l f k 0 0 = _ from h, Option.bind_some, List.drop_zero, Int.zero_add, w64_id (n := (l.length : Int) * f.Den) (by omega) (by omega), w64_id (n := (l.length : Int) * f.Den * f.Den) (by omega) (by omega), (lowests k hk (x := sm (gq f) l) (y := (l.length : Int) * f.Den * f.Den) (by unfold Gs at hg; omega) d1 (by omega)).2]; rfl
/-! the least of the fractions -/
def sq2 (l : List SRange) (r : SRange) : List SFrac := [sa l (nm l r.Lo), sa l (nm l r.Hi)]
theorem least_l (k : Nat) (hk : 9223372036854775808 < k) {l : List SRange} (L : LK l) (hl : l.length ≤ 6) : ∀ (d fuel i : Nat) (y : List SFrac), l.length = i + d → d < fuel → y.length = 2 * i →
    nfigure_leastSquare_l0_0 k l fuel y (i : Int) = some (y ++ (l.drop i).flatMap (sq2 l)) := by
  intro d
  induction d with
  | zero =>
    intro fuel i y h hf hy
    obtain ⟨g, rfl⟩ : ∃ g, fuel = g + 1 := ⟨fuel - 1, by omega⟩
    rw [nfigure_leastSquare_l0_0.eq_2, if_neg (by omega), List.drop_eq_nil_of_le (by omega)]; simp
  | succ d ih =>
    intro fuel i y h hf hy
    obtain ⟨g, rfl⟩ : ∃ g, fuel = g + 1 := ⟨fuel - 1, by omega⟩
    have hi : i < l.length := by omega
    have ho := L.ok _ (getD_m hi default)
    rw [nfigure_leastSquare_l0_0.eq_2, if_pos (by omega), if_pos (by omega), Int.toNat_natCast, drop_c hi default, List.flatMap_cons]
    generalize l.getD i default = a at ho ⊢
    rw [near_any hk L hl ho.1, near_any hk L hl ho.2.1, Option.bind_some, about_any hk L hl (nm_lev L hl ho.1), Option.bind_some, Option.bind_some, about_any hk L hl (nm_lev L hl ho.2.1), Option.bind_some, if_pos (by simp only [List.length_cons, List.length_nil]; omega), w64_succ (by omega), ih g (i + 1) _ (by omega) (by omega) (by simp; omega), List.append_assoc]; rfl
/-- a fraction of a mean square. -/
structure Fr (f : SFrac) : Prop where
  low : Low f
  d : f.Den ≤ 2000
  n : f.Num.natAbs ≤ 100000000000000
theorem Fr.cross {f g : SFrac} (a : Fr f) (b : Fr g) : (f.Num * g.Den).natAbs ≤ 200000000000000000 := by
  have h := Nat.mul_le_mul a.n (show g.Den.natAbs ≤ 2000 by have := b.low.d; have := b.d; omega)
  rw [Int.natAbs_mul]; omega
theorem cmp_any (k : Nat) {f g : SFrac} (a : Fr f) (b : Fr g) : nfigure_leastSquare_1 k f g = some (if f.Num * g.Den < g.Num * f.Den then -1 else if g.Num * f.Den < f.Num * g.Den then 1 else 0) := by
  have h1 := Fr.cross a b
  have h2 := Fr.cross b a
  unfold nfigure_leastSquare_1 ncmp_Compare_int_ ncmp_isNaN_int_
  rw [w64_id (n := f.Num * g.Den) (by omega) (by omega), w64_id (n := g.Num * f.Den) (by omega) (by omega), Option.bind_some, Option.bind_some, if_neg (by simp), if_neg (by simp)]
  split
  · rfl
  · split <;> rfl
theorem min_l (k : Nat) {F : List SFrac} {T : SFrac} (hF : ∀ f ∈ F, Fr f) (hT : Fr T) (hge : ∀ f ∈ F, T.Num * f.Den ≤ f.Num * T.Den) (hl : F.length ≤ 1000) : ∀ (d fuel i : Nat) (b : SFrac), F.length = i + d → d < fuel → b ∈ F → (b = T ∨ T ∈ F.drop i) →
    nslices_MinFunc_api_Frac_api_Frac__c1_figure_leastSquare_1_l0_0 k F fuel b.Num b.Den (i : Int) = some (T.Num, T.Den) := by
  intro d
  induction d with
  | zero =>
    intro fuel i b h hf hb hor
    obtain ⟨g, rfl⟩ : ∃ g, fuel = g + 1 := ⟨fuel - 1, by omega⟩
    rw [nslices_MinFunc_api_Frac_api_Frac__c1_figure_leastSquare_1_l0_0.eq_2, if_neg (by omega)]
    rcases hor with rfl | h2
    · rfl
    · rw [List.drop_eq_nil_of_le (by omega)] at h2; cases h2
  | succ d ih =>
    intro fuel i b h hf hb hor
    obtain ⟨g, rfl⟩ : ∃ g, fuel = g + 1 := ⟨fuel - 1, by omega⟩
    have hi : i < F.length := by omega
    have hm := getD_m hi default
    rw [drop_c hi default] at hor
    rw [nslices_MinFunc_api_Frac_api_Frac__c1_figure_leastSquare_1_l0_0.eq_2, if_pos (by omega), if_pos (by omega), Int.toNat_natCast]
    generalize F.getD i default = x at hm hor ⊢
    rw [show (⟨b.Num, b.Den⟩ : SFrac) = b from rfl, cmp_any k (hF x hm) (hF b hb), Option.bind_some, w64_succ (by omega)]
    have hx := hge x hm
    have hbT := hge b hb
    by_cases c : x.Num * b.Den < b.Num * x.Den
    · rw [if_pos c, if_pos (by decide)]
      refine ih g (i + 1) x (by omega) (by omega) hm ?_
      rcases hor with rfl | h2
      · exfalso; omega
      · rcases List.mem_cons.1 h2 with h2 | h2
        · exact .inl h2.symm
        · exact .inr h2
    · rw [if_neg c, if_neg (by split <;> omega)]
      refine ih g (i + 1) b (by omega) (by omega) hb ?_
      rcases hor with h2 | h2
      · exact .inl h2
      · rcases List.mem_cons.1 h2 with h2 | h2
        · subst h2
          exact .inl (Low.eq (hF b hb).low hT.low (by omega))
        · exact .inr h2
theorem min_any {k : Nat} (hk : 2000 < k) {F : List SFrac} {T : SFrac} (hF : ∀ f ∈ F, Fr f) (hge : ∀ f ∈ F, T.Num * f.Den ≤ f.Num * T.Den) (hl : F.length ≤ 1000) (hT : T ∈ F) : nslices_MinFunc_api_Frac_api_Frac__c1_figure_leastSquare_1 k F () = some T := by
  have h0 : 0 < F.length := List.length_pos_of_mem hT
  unfold nslices_MinFunc_api_Frac_api_Frac__c1_figure_leastSquare_1
  have hd := drop_c (l := F) h0 default
  rw [List.drop_zero] at hd
  rw [if_neg (by omega), if_pos (by omega), show ((0 : Int)).toNat = 0 from rfl, show nslices_MinFunc_api_Frac_api_Frac__c1_figure_leastSquare_1_l0_0 k F k (F.getD 0 default).Num (F.getD 0 default).Den 1 = _ from min_l k hF (hF T hT) hge hl (F.length - 1) k 1 (F.getD 0 default) (by omega) (by omega) (getD_m h0 default) (by
    rw [hd] at hT
    rcases List.mem_cons.1 hT with h | h
    · exact .inl h.symm
    · exact .inr h)]
  rfl
end Go.Proofs.Ytggggonmlmondaa.Vg

/- Chapter 4, plain: grits. -/
import Derived.Test.YtjhclaollpkdgaaK1
import Derived.Test.YtjhclaollpkdgaaKA
set_option linter.unusedVariables false
set_option linter.unusedSimpArgs false
namespace Go.Proofs.Ytjhclaollpkdgaa.Vg
open Go Go.Proofs.Ytjhclaollpkdgaa.Ev Go.Proofs.Ytjhclaollpkdgaa.Vv
theorem big_succ {i : Nat} (h : i < 9223372036854775807) : w64 ((i : Int) + 1) = ((i + 1 : Nat) : Int) := by
  rw [w64_id (by omega) (by omega)]; omega
theorem drop_get {α : Type} {y : List α} {i : Nat} (h : i < y.length) (d : α) : y.drop i = y.getD i d :: y.drop (i + 1) := by
  rw [List.drop_eq_getElem_cons h, List.getD_eq_getElem?_getD, List.getElem?_eq_getElem h]; rfl
/- maps. -/
theorem mhas_set {V : Type} (k n : ByteArray) (v : V) : ∀ l : List (ByteArray × V), mhas (mset l k v) n = (decide (n = k) || mhas l n)
  | [] => by simp [mset, mhas]
  | e :: l => by
    simp only [mset]
    by_cases h : k = e.1
    · rw [decide_eq_true h]
      simp only [mhas]
      subst h
      by_cases h2 : n = e.1
      · simp [h2]
      · simp [h2]
    · rw [decide_eq_false h]
      simp only [mhas]
      rw [mhas_set k n v l]
      cases decide (n = e.1) <;> cases decide (n = k) <;> cases mhas l n <;> rfl
theorem mget_set {V : Type} [Inhabited V] (k n : ByteArray) (v : V) : ∀ l : List (ByteArray × V), mget (mset l k v) n = match decide (n = k) with | true => v | false => mget l n
  | [] => by simp only [mset, mget]; cases decide (n = k) <;> rfl
  | e :: l => by
    simp only [mset]
    by_cases h : k = e.1
    · rw [decide_eq_true h]
      simp only [mget]
      subst h
      cases decide (n = e.1) <;> rfl
    · rw [decide_eq_false h]
      simp only [mget]
      rw [mget_set k n v l]
      by_cases h2 : n = e.1
      · rw [decide_eq_true h2, decide_eq_false (show ¬ n = k by rw [h2]; exact fun h3 => h h3.symm)]
      · rw [decide_eq_false h2]
/- within of a list. -/
theorem need1 (k : Nat) (b : Bool) (e : Int) : ngrind_need_1 k b e = some (match b with | true => 0 | false => e) := by
  unfold ngrind_need_1
  cases b <;> rfl
theorem within_l (k : Nat) (xs : List Int) (lo hi : Int) (hl : xs.length ≤ 9223372036854775807) : ∀ (d fuel i : Nat), xs.length = i + d → d < fuel → ngrind_within_1_l0_0 k xs lo hi fuel (i : Int) = some (sumB ((xs.drop i).all (inR lo hi))) := by
  intro d
  induction d with
  | zero =>
    intro fuel i h hf
    obtain ⟨g, rfl⟩ : ∃ g, fuel = g + 1 := ⟨fuel - 1, by omega⟩
    rw [ngrind_within_1_l0_0.eq_2, if_neg (by omega), List.drop_eq_nil_of_le (by omega)]; rfl
  | succ d ih =>
    intro fuel i h hf
    obtain ⟨g, rfl⟩ : ∃ g, fuel = g + 1 := ⟨fuel - 1, by omega⟩
    rw [ngrind_within_1_l0_0.eq_2, if_pos (by omega), if_pos (by omega), Int.toNat_natCast, isw, Option.bind_some, big_succ (by omega), ih g (i + 1) (by omega) (by omega), drop_get (y := xs) (i := i) (by omega) 0, List.all_cons]
    cases inR lo hi (xs.getD i 0) with
    | true => rw [if_pos rfl, Bool.true_and]
    | false => rw [if_neg (by simp), Bool.false_and]; rfl
theorem within1 (k : Nat) (xs : List Int) (lo hi : Int) (hl : xs.length ≤ 9223372036854775807) (hk : xs.length < k) : ngrind_within_1 k xs lo hi = some (match xs.all (inR lo hi) with | true => 0 | false => 2) := by
  unfold ngrind_within_1
  have h := within_l k xs lo hi hl xs.length k 0 (by omega) (by omega)
  rw [List.drop_zero] at h
  rw [show ngrind_within_1_l0_0 k xs lo hi k 0 = _ from h, Option.bind_some]
  cases xs.all (inR lo hi) <;> rfl
/- grits. -/
def gritB (g : SGrit) : Bool := inR 0 1000000 g.Damage && inR 1 100000 g.Rate
def seenG (l : List SGrit) (i : Nat) (n : ByteArray) : Bool := (l.take i).any fun g => decide (n = g.Name)
/-- the first error from i on. -/
def chkG (l : List SGrit) : Nat → Nat → Int
  | 0, _ => 0
  | d + 1, i => match nameB (l.getD i default).Name with
    | false => 4
    | true => match seenG l i (l.getD i default).Name with
      | true => 5
      | false => match gritB (l.getD i default) with
        | false => 2
        | true => chkG l d (i + 1)
theorem seen_succ (l : List SGrit) (i : Nat) (hi : i < l.length) (n : ByteArray) : seenG l (i + 1) n = (decide (n = (l.getD i default).Name) || seenG l i n) := by
  unfold seenG
  rw [List.take_add_one, List.getElem?_eq_getElem hi, List.any_append]
  rw [List.getD_eq_getElem?_getD, List.getElem?_eq_getElem hi]
  simp [Bool.or_comm]
def errS {A : Type} (e : Int) (a : A) : Sum (Int × A) A := match decide (e = 0) with | true => .inr a | false => .inl (e, a)
theorem one_any (k : Nat) (hk : 100 < k) (hk2 : k ≤ 100000000000000000000) (n : ByteArray) (x y lo hi lo2 hi2 : Int) (b : Bool) {A : Type} (next : Option A) (fail : Int → Option A) :
    ((ngrind_named k n).bind fun r1261 => ((ngrind_need k b 5).bind fun r1264 => ((ngrind_within k lo hi ([x] : List Int)).bind fun r1269 => ((ngrind_within k lo2 hi2 ([y] : List Int)).bind fun r1274 => ((ngrind_firstOf_c0_Lgrind_need_1_grind_need_1_grind_within_1_grind_within_1 k (r1261, r1264, r1269, r1274)).bind fun r => (if r = 0 then next else fail r)))))) =
      (match nameB n with | false => fail 4 | true => match b with | false => fail 5 | true => match inR lo hi x && inR lo2 hi2 y with | false => fail 2 | true => next) := by
  unfold ngrind_named ngrind_need ngrind_within ngrind_firstOf_c0_Lgrind_need_1_grind_need_1_grind_within_1_grind_within_1
  rw [name_pk k hk hk2, Option.bind_some, Option.bind_some]
  simp only [Option.bind_some, need1, within1 k [x] lo hi (by simp) (by simp; omega), within1 k [y] lo2 hi2 (by simp) (by simp; omega), List.all_cons, List.all_nil, Bool.and_true]
  cases nameB n with
  | false => rfl
  | true =>
    cases b with
    | false => rfl
    | true =>
      cases inR lo hi x with
      | false => rfl
      | true => cases inR lo2 hi2 y <;> rfl
theorem grits_p (k : Nat) (hk : 100 < k) (hk2 : k ≤ 100000000000000000000) (l : List SGrit) (hl : l.length ≤ 9223372036854775807) (r1 : Bool × Int) (r2 : Int) : ∀ (d fuel i : Nat) (y : List (ByteArray × Bool)), l.length = i + d → d < fuel → (∀ n, mhas y n = seenG l i n) → (∀ n, mhas y n = true → mget y n = true) →
    ∃ z, ngrind_CheckGrits_i34_i90_l0_0 k l r1 r2 fuel y (i : Int) = some (errS (chkG l d i) z) := by
  intro d
  induction d with
  | zero =>
    intro fuel i y h hf _ _
    obtain ⟨g, rfl⟩ : ∃ g, fuel = g + 1 := ⟨fuel - 1, by omega⟩
    refine ⟨y, ?_⟩
    rw [ngrind_CheckGrits_i34_i90_l0_0.eq_2, if_neg (by omega)]; rfl
  | succ d ih =>
    intro fuel i y h hf hy hy2
    obtain ⟨g, rfl⟩ : ∃ g, fuel = g + 1 := ⟨fuel - 1, by omega⟩
    have hi : i < l.length := by omega
    obtain ⟨z, hz⟩ := ih g (i + 1) (mset y (l.getD i default).Name true) (by omega) (by omega) (fun n => by rw [mhas_set, seen_succ l i hi, hy]) (fun n hn => by
      rw [mhas_set] at hn
      rw [mget_set]
      cases hd : decide (n = (l.getD i default).Name) with
      | true => rfl
      | false => rw [hd, Bool.false_or] at hn; exact hy2 n hn)
    rw [ngrind_CheckGrits_i34_i90_l0_0.eq_2, if_pos (by omega), if_pos (by omega), Int.toNat_natCast, big_succ (by omega), hz, one_any k hk hk2, one_any k hk hk2, hy]
    have hyn := hy (l.getD i default).Name
    have hg := hy2 (l.getD i default).Name
    rw [hyn] at hg
    simp only [chkG]
    cases hs : seenG l i (l.getD i default).Name with
    | true =>
      rw [if_pos rfl, hg hs]
      cases nameB (l.getD i default).Name with
      | false => exact ⟨_, rfl⟩
      | true => exact ⟨_, rfl⟩
    | false =>
      rw [if_neg (by simp)]
      cases nameB (l.getD i default).Name with
      | false => exact ⟨_, rfl⟩
      | true =>
        show ∃ z, (match gritB (l.getD i default) with | false => _ | true => _) = some (errS (match gritB (l.getD i default) with | false => 2 | true => chkG l d (i + 1)) z)
        cases gritB (l.getD i default) with
        | false => exact ⟨_, rfl⟩
        | true => exact ⟨z, rfl⟩
def gritE (l : List SGrit) : Int := match decide (l.length ≤ 12) with | false => 8 | true => chkG l l.length 0
theorem chkG_ne (l : List SGrit) : ∀ d i, chkG l d i = 0 ∨ chkG l d i = 4 ∨ chkG l d i = 5 ∨ chkG l d i = 2
  | 0, _ => .inl rfl
  | d + 1, i => by
    simp only [chkG]
    have := chkG_ne l d (i + 1)
    cases nameB (l.getD i default).Name with
    | false => exact .inr (.inl rfl)
    | true =>
      cases seenG l i (l.getD i default).Name with
      | true => exact .inr (.inr (.inl rfl))
      | false =>
        cases gritB (l.getD i default) with
        | false => exact .inr (.inr (.inr rfl))
        | true => exact this
theorem checkGrits_p (k : Nat) (hk : 100 < k) (hk2 : k ≤ 100000000000000000000) (l : List SGrit) (hl : l.length < k) (hl2 : l.length ≤ 9223372036854775807) : ngrind_CheckGrits k l = some (gritE l) := by
  unfold ngrind_CheckGrits ngrind_need gritE
  have hd : decide ((l.length : Int) ≤ 12) = decide (l.length ≤ 12) := by congr 1; simp only [eq_iff_iff]; omega
  rw [hd, Option.bind_some, need1, Option.bind_some]
  cases decide (l.length ≤ 12) with
  | false => rfl
  | true =>
    obtain ⟨z, hz⟩ := grits_p k hk hk2 l hl2 (true, 8) 0 l.length k 0 [] (by omega) hl (fun n => by simp [mhas, seenG]) (fun n h => by cases h)
    dsimp only
    rw [if_pos rfl, show ngrind_CheckGrits_i34_i90_l0_0 k l (true, 8) 0 k [] 0 = _ from hz, Option.bind_some]
    unfold errS
    cases h0 : decide (chkG l l.length 0 = 0) with
    | true => dsimp only; rw [of_decide_eq_true h0]
    | false => dsimp only; rw [if_neg (of_decide_eq_false h0)]
/- the reference. -/
theorem gritAt_l (k : Nat) (l : List SGrit) (hl : l.length ≤ 9223372036854775807) (n : ByteArray) : ∀ (d fuel i : Nat), l.length = i + d → d < fuel → seenG l i n = false →
    (∃ j : Nat, nspeculumref04_GritAt_l0_0 k l n fuel (i : Int) = some (.inl (j : Int)) ∧ i ≤ j ∧ j < l.length ∧ seenG l j n = false ∧ (l.getD j default).Name = n) ∨ (nspeculumref04_GritAt_l0_0 k l n fuel (i : Int) = some (.inr ()) ∧ seenG l l.length n = false) := by
  intro d
  induction d with
  | zero =>
    intro fuel i h hf hs
    obtain ⟨g, rfl⟩ : ∃ g, fuel = g + 1 := ⟨fuel - 1, by omega⟩
    right
    obtain rfl : i = l.length := by omega
    refine ⟨?_, hs⟩
    rw [nspeculumref04_GritAt_l0_0.eq_2, if_neg (by omega)]
  | succ d ih =>
    intro fuel i h hf hs
    obtain ⟨g, rfl⟩ : ∃ g, fuel = g + 1 := ⟨fuel - 1, by omega⟩
    have hi : i < l.length := by omega
    rw [nspeculumref04_GritAt_l0_0.eq_2, if_pos (by omega), if_pos (by omega), Int.toNat_natCast, big_succ (by omega)]
    by_cases c : (l.getD i default).Name = n
    · rw [if_pos c]
      exact .inl ⟨i, rfl, Nat.le_refl _, hi, hs, c⟩
    · rw [if_neg c]
      have hs' : seenG l (i + 1) n = false := by rw [seen_succ l i hi, hs, decide_eq_false (fun h => c h.symm)]; rfl
      rcases ih g (i + 1) (by omega) (by omega) hs' with ⟨j, e1, e2, e3, e4, e5⟩ | e
      · exact .inl ⟨j, e1, by omega, e3, e4, e5⟩
      · exact .inr e
theorem seen_mono (l : List SGrit) (n : ByteArray) {i j : Nat} (h : i ≤ j) (hs : seenG l i n = true) : seenG l j n = true := by
  unfold seenG at hs ⊢
  rw [List.any_eq_true] at hs ⊢
  obtain ⟨x, hx, he⟩ := hs
  exact ⟨x, (List.take_sublist_take_left h).subset hx, he⟩
theorem seen_at (l : List SGrit) (n : ByteArray) {i : Nat} (hi : i < l.length) (h : (l.getD i default).Name = n) : seenG l (i + 1) n = true := by
  rw [seen_succ l i hi, decide_eq_true h.symm]; rfl
/-- a name stands before i just if it has been seen. -/
theorem gritAt_any (k : Nat) (l : List SGrit) (hl : l.length ≤ 9223372036854775807) (hk : l.length < k) (i : Nat) (hi : i < l.length) : ∃ j : Int, nspeculumref04_GritAt k l (l.getD i default).Name = some j ∧ (j < (i : Int) ↔ seenG l i (l.getD i default).Name = true) := by
  unfold nspeculumref04_GritAt
  rcases gritAt_l k l hl (l.getD i default).Name l.length k 0 (by omega) hk (by simp [seenG]) with ⟨j, e1, e2, e3, e4, e5⟩ | ⟨e1, e2⟩
  · refine ⟨(j : Int), by rw [show nspeculumref04_GritAt_l0_0 k l (l.getD i default).Name k 0 = _ from e1]; rfl, ?_⟩
    constructor
    · intro h
      exact seen_mono l _ (show j + 1 ≤ i by omega) (seen_at l _ e3 e5)
    · intro h
      rcases Nat.lt_or_ge j i with c | c
      · omega
      · rw [seen_mono l _ c h] at e4; cases e4
  · have := seen_mono l _ (show i + 1 ≤ l.length by omega) (seen_at l (l.getD i default).Name hi rfl)
    rw [this] at e2; cases e2
def errU (e : Int) : Sum Int Unit := match decide (e = 0) with | true => .inr () | false => .inl e
theorem grits_r (k : Nat) (hk : 100 < k) (l : List SGrit) (hl : l.length < k) (hl2 : l.length ≤ 9223372036854775807) : ∀ (d fuel i : Nat), l.length = i + d → d < fuel →
    nspeculumref04_CheckGrits_l0_0 k l fuel (i : Int) = some (errU (chkG l d i)) := by
  intro d
  induction d with
  | zero =>
    intro fuel i h hf
    obtain ⟨g, rfl⟩ : ∃ g, fuel = g + 1 := ⟨fuel - 1, by omega⟩
    rw [nspeculumref04_CheckGrits_l0_0.eq_2, if_neg (by omega)]; rfl
  | succ d ih =>
    intro fuel i h hf
    obtain ⟨g, rfl⟩ : ∃ g, fuel = g + 1 := ⟨fuel - 1, by omega⟩
    have hi : i < l.length := by omega
    obtain ⟨j, hj, hji⟩ := gritAt_any k l hl2 hl i hi
    rw [nspeculumref04_CheckGrits_l0_0.eq_2, if_pos (by omega), if_pos (by omega), Int.toNat_natCast, name_ref k hk, Option.bind_some, hj, Option.bind_some, wib, Option.bind_some, wib, Option.bind_some, big_succ (by omega), ih g (i + 1) (by omega) (by omega)]
    simp only [chkG]
    cases nameB (l.getD i default).Name with
    | false => rfl
    | true =>
      rw [if_pos rfl]
      cases hs : seenG l i (l.getD i default).Name with
      | true => rw [if_pos (hji.2 hs)]; rfl
      | false =>
        rw [if_neg (fun h => by rw [hji.1 h] at hs; cases hs)]
        unfold gritB
        cases inR 0 1000000 (l.getD i default).Damage with
        | false => rfl
        | true =>
          cases inR 1 100000 (l.getD i default).Rate with
          | false => rfl
          | true => rfl
theorem checkGrits_r (k : Nat) (hk : 100 < k) (l : List SGrit) (hl : l.length < k) (hl2 : l.length ≤ 9223372036854775807) : nspeculumref04_CheckGrits k l = some (gritE l) := by
  unfold nspeculumref04_CheckGrits gritE
  by_cases c : l.length ≤ 12
  · rw [if_neg (by omega), decide_eq_true c, show nspeculumref04_CheckGrits_l0_0 k l k 0 = _ from grits_r k hk l hl hl2 l.length k 0 (by omega) hl, Option.bind_some]
    unfold errU
    cases h0 : decide (chkG l l.length 0 = 0) with
    | true => dsimp only; rw [of_decide_eq_true h0]
    | false => rfl
  · rw [if_pos (by omega), decide_eq_false c]
/-- grits that are right. -/
theorem chkG_zero (l : List SGrit) : ∀ (d i : Nat), l.length = i + d → chkG l d i = 0 → ∀ j, i ≤ j → j < l.length → gritB (l.getD j default) = true
  | 0, i, h, _, j, h1, h2 => by omega
  | d + 1, i, h, h0, j, h1, h2 => by
    simp only [chkG] at h0
    cases hn : nameB (l.getD i default).Name with
    | false => rw [hn] at h0; simp at h0
    | true =>
      rw [hn] at h0
      cases hs : seenG l i (l.getD i default).Name with
      | true => rw [hs] at h0; simp at h0
      | false =>
        rw [hs] at h0
        cases hg : gritB (l.getD i default) with
        | false => rw [hg] at h0; simp at h0
        | true =>
          rw [hg] at h0
          by_cases e : i = j
          · subst e; exact hg
          · exact chkG_zero l d (i + 1) (by omega) h0 j (by omega) h2
theorem gritE_zero {l : List SGrit} (h : gritE l = 0) : l.length ≤ 12 ∧ ∀ j, j < l.length → gritB (l.getD j default) = true := by
  unfold gritE at h
  cases hd : decide (l.length ≤ 12) with
  | false => rw [hd] at h; simp at h
  | true =>
    rw [hd] at h
    exact ⟨of_decide_eq_true hd, fun j hj => chkG_zero l l.length 0 (by omega) h j (by omega) hj⟩
theorem gritty_l (k : Nat) (l : List SGrit) (hl : l.length ≤ 9223372036854775807) : ∀ (d fuel i : Nat), l.length = i + d → d < fuel → nspeculumlaw04_gritty_l0_0 k l fuel (i : Int) = some (sumB ((l.drop i).all fun g => decide (g.Name.size ≤ 30))) := by
  intro d
  induction d with
  | zero =>
    intro fuel i h hf
    obtain ⟨g, rfl⟩ : ∃ g, fuel = g + 1 := ⟨fuel - 1, by omega⟩
    rw [nspeculumlaw04_gritty_l0_0.eq_2, if_neg (by omega), List.drop_eq_nil_of_le (by omega)]; rfl
  | succ d ih =>
    intro fuel i h hf
    obtain ⟨g, rfl⟩ : ∃ g, fuel = g + 1 := ⟨fuel - 1, by omega⟩
    rw [nspeculumlaw04_gritty_l0_0.eq_2, if_pos (by omega), if_pos (by omega), Int.toNat_natCast, big_succ (by omega), ih g (i + 1) (by omega) (by omega), drop_get (y := l) (i := i) (by omega) default, List.all_cons]
    by_cases c : (l.getD i default).Name.size ≤ 30
    · rw [if_neg (by omega), decide_eq_true c, Bool.true_and]
    · rw [if_pos (by omega), decide_eq_false c, Bool.false_and]; rfl
theorem gritty_any (k : Nat) (l : List SGrit) (hl : l.length ≤ 9223372036854775807) (hk : l.length < k) : ∃ b, nspeculumlaw04_gritty k l = some b ∧ (b = true → l.length ≤ 15) := by
  unfold nspeculumlaw04_gritty
  have h := gritty_l k l hl l.length k 0 (by omega) hk
  rw [List.drop_zero] at h
  rw [show nspeculumlaw04_gritty_l0_0 k l k 0 = _ from h, Option.bind_some]
  cases l.all fun g => decide (g.Name.size ≤ 30) with
  | false => exact ⟨false, rfl, fun h => by cases h⟩
  | true =>
    dsimp only [sumB]
    by_cases c1 : (l.length : Int) ≤ 6
    · rw [if_pos c1]; exact ⟨_, rfl, fun _ => by omega⟩
    · rw [if_neg c1]
      by_cases c2 : (12 : Int) < (l.length : Int)
      · rw [if_pos c2]; exact ⟨_, rfl, fun h => by have := of_decide_eq_true h; omega⟩
      · rw [if_neg c2]; exact ⟨_, rfl, fun h => by cases h⟩
theorem grits_copy (k : Nat) (l : List SGrit) (hl : l.length ≤ 15) : nspeculumlaw04_grits k l = some l := by
  unfold nspeculumlaw04_grits
  rw [if_pos (by simp; omega)]; rfl
end Go.Proofs.Ytjhclaollpkdgaa.Vg

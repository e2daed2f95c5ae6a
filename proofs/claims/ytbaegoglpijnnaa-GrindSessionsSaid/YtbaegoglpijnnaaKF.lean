/- GrindSessions, plain. -/
import Derived.Test.YtbaegoglpijnnaaK5
import Derived.Test.YtbaegoglpijnnaaKE
set_option linter.unusedVariables false
set_option linter.unusedSimpArgs false
namespace Go.Proofs.Ytbaegoglpijnnaa.Vg
open Go Go.Proofs.Ytbaegoglpijnnaa.Ev Go.Proofs.Ytbaegoglpijnnaa.Vv
theorem byName_l (k : Nat) (l : List SStroke) (hl : l.length ≤ 15) : ∀ (d fuel i : Nat) (y : List (ByteArray × List Int)), l.length = i + d → d < fuel → (∀ n, mhas y n = seenS l i n) →
    (∀ j, j < i → (∀ j', j' < l.length → seenS l j' (l.getD j' default).Name = false) → mget y (l.getD j default).Name = (l.getD j default).Wear) →
    ∃ z, ngrind_wearByName_l0_0 k l fuel y (i : Int) = some z ∧ (∀ n, mhas z n = seenS l l.length n) ∧ ((∀ j', j' < l.length → seenS l j' (l.getD j' default).Name = false) → ∀ j, j < l.length → mget z (l.getD j default).Name = (l.getD j default).Wear) := by
  intro d
  induction d with
  | zero =>
    intro fuel i y h hf hy hg
    obtain ⟨g, rfl⟩ : ∃ g, fuel = g + 1 := ⟨fuel - 1, by omega⟩
    obtain rfl : i = l.length := by omega
    exact ⟨y, by rw [ngrind_wearByName_l0_0.eq_2, if_neg (by omega)], hy, fun h j hj => hg j hj h⟩
  | succ d ih =>
    intro fuel i y h hf hy hg
    obtain ⟨g, rfl⟩ : ∃ g, fuel = g + 1 := ⟨fuel - 1, by omega⟩
    have hi : i < l.length := by omega
    rw [ngrind_wearByName_l0_0.eq_2, if_pos (by omega), if_pos (by omega), Int.toNat_natCast, big_succ (by omega)]
    refine ih g (i + 1) _ (by omega) (by omega) (fun n => by rw [mhas_set, seenS_succ l i hi, hy]) (fun j hj hu => ?_)
    rw [mget_set]
    by_cases e : (l.getD j default).Name = (l.getD i default).Name
    · rw [decide_eq_true e]
      by_cases ej : j = i
      · rw [ej]
      · have h1 := seenS_mono l (l.getD i default).Name (show j + 1 ≤ i by omega) (seenS_at l _ (show j < l.length by omega) e)
        rw [hu i hi] at h1; cases h1
    · rw [decide_eq_false e]
      by_cases ej : j = i
      · rw [ej] at e; exact absurd rfl e
      · exact hg j (by omega) hu
theorem byName_any (k : Nat) (hk : 100 < k) (l : List SStroke) (hl : l.length ≤ 15) : ∃ z, ngrind_wearByName k l = some z ∧ (∀ n, mhas z n = seenS l l.length n) ∧ ((∀ j', j' < l.length → seenS l j' (l.getD j' default).Name = false) → ∀ j, j < l.length → mget z (l.getD j default).Name = (l.getD j default).Wear) := by
  obtain ⟨z, h1, h2, h3⟩ := byName_l k l hl l.length k 0 [] (by omega) (by omega) (fun n => by simp [mhas, seenS]) (fun j hj => by omega)
  refine ⟨z, ?_, h2, h3⟩
  unfold ngrind_wearByName
  rw [show ngrind_wearByName_l0_0 k l k [] 0 = _ from h1]; rfl
/- sessions. -/
def sesE1 (l : List SStroke) (s : SGrindSession) : Int := match nameB s.Mirror with
  | false => 4
  | true => match seenS l l.length s.Stroke with
    | false => 6
    | true => match inR 1 10000 s.Minutes with
      | false => 2
      | true => 0
def sesL (l : List SStroke) : List SGrindSession → Int
  | [] => 0
  | s :: ss => match decide (sesE1 l s = 0) with | true => sesL l ss | false => sesE1 l s
def sesE (l : List SStroke) (ss : List SGrindSession) : Int := match decide (ss.length ≤ 200) with | false => 8 | true => sesL l ss
def errE (e : Int) : Sum Int Unit := match decide (e = 0) with | true => .inr () | false => .inl e
theorem first3 (k : Nat) (hk : 100 < k) (n b : Bool) (x : Int) : ngrind_firstOf_c0_Lgrind_need_1_grind_need_1_grind_within_1 k ((n, 4), (b, 6), ([x], 1, 10000)) = some (match n with | false => 4 | true => match b with | false => 6 | true => match inR 1 10000 x with | false => 2 | true => 0) := by
  unfold ngrind_firstOf_c0_Lgrind_need_1_grind_need_1_grind_within_1
  simp only [need1, Option.bind_some, within1 k [x] 1 10000 (by simp) (by simp; omega), List.all_cons, List.all_nil, Bool.and_true]
  cases n with
  | false => rfl
  | true =>
    cases b with
    | false => rfl
    | true => cases inR 1 10000 x <;> rfl
theorem ses_p (k : Nat) (hk : 100 < k) (hk2 : k ≤ 100000000000000000000) (l : List SStroke) (z : List (ByteArray × List Int)) (hz : ∀ n, mhas z n = seenS l l.length n) (ss : List SGrindSession) (hs : ss.length ≤ 203) (i : Nat) (hi : i < ss.length) : ngrind_validSessions_1_1 k (i : Int) z ss = some (sesE1 l (ss.getD i default)) := by
  unfold ngrind_validSessions_1_1 ngrind_named ngrind_need ngrind_within
  rw [if_pos (by omega), Int.toNat_natCast, hz, name_pk k hk hk2]
  simp only [Option.bind_some]
  rw [first3 k hk, first3 k hk]
  unfold sesE1
  cases seenS l l.length (ss.getD i default).Stroke with
  | true => rw [if_pos rfl]; rfl
  | false => rw [if_neg (by simp)]; rfl
theorem each_l (k : Nat) (hk : 100 < k) (hk2 : k ≤ 100000000000000000000) (l : List SStroke) (z : List (ByteArray × List Int)) (hz : ∀ n, mhas z n = seenS l l.length n) (ss : List SGrindSession) (hs : ss.length ≤ 203) : ∀ (d fuel i : Nat), ss.length = i + d → d < fuel → ngrind_each_1_k_grind_validSessions_1_1_l0_0 k (ss.length : Int) (z, ss) fuel (i : Int) = some (errE (sesL l (ss.drop i))) := by
  intro d
  induction d with
  | zero =>
    intro fuel i h hf
    obtain ⟨g, rfl⟩ : ∃ g, fuel = g + 1 := ⟨fuel - 1, by omega⟩
    rw [ngrind_each_1_k_grind_validSessions_1_1_l0_0.eq_2, if_neg (by omega), List.drop_eq_nil_of_le (by omega)]; rfl
  | succ d ih =>
    intro fuel i h hf
    obtain ⟨g, rfl⟩ : ∃ g, fuel = g + 1 := ⟨fuel - 1, by omega⟩
    rw [ngrind_each_1_k_grind_validSessions_1_1_l0_0.eq_2, if_pos (by omega)]
    dsimp only
    rw [ses_p k hk hk2 l z hz ss hs i (by omega), Option.bind_some, big_succ (by omega), ih g (i + 1) (by omega) (by omega), drop_get (y := ss) (i := i) (by omega) default]
    simp only [sesL]
    cases hd : decide (sesE1 l (ss.getD i default) = 0) with
    | true => rw [if_pos (of_decide_eq_true hd)]
    | false => rw [if_neg (of_decide_eq_false hd)]; unfold errE; rw [hd]
theorem valid_p (k : Nat) (hk : 1000 < k) (hk2 : k ≤ 100000000000000000000) (l : List SStroke) (hl : l.length ≤ 15) (ss : List SGrindSession) (hs : ss.length ≤ 203) : ngrind_validSessions_1 k l ss = some (sesE l ss) := by
  obtain ⟨z, h1, h2, _⟩ := byName_any k (by omega) l hl
  have he := each_l k (by omega) hk2 l z h2 ss hs ss.length k 0 (by omega) (by omega)
  rw [List.drop_zero] at he
  have hd : decide ((ss.length : Int) ≤ 200) = decide (ss.length ≤ 200) := by congr 1; simp only [eq_iff_iff]; omega
  unfold ngrind_validSessions_1 ngrind_need ngrind_each_c1_grind_validSessions_1_1 ngrind_firstOf_c0_Lgrind_need_1_grind_each_1_grind_validSessions_1_1 ngrind_each_1_k_grind_validSessions_1_1 sesE
  rw [h1, hd]
  simp only [Option.bind_some]
  rw [need1, Option.bind_some]
  cases decide (ss.length ≤ 200) with
  | false => rfl
  | true =>
    dsimp only
    rw [if_pos rfl, show ngrind_each_1_k_grind_validSessions_1_1_l0_0 k (ss.length : Int) (z, ss) k 0 = _ from he, Option.bind_some]
    unfold errE
    cases h0 : decide (sesL l ss = 0) with
    | true => dsimp only; rw [of_decide_eq_true h0]; rfl
    | false => dsimp only; rw [Option.bind_some, if_neg (of_decide_eq_false h0), Option.bind_some]
theorem strokes1 (k : Nat) (hk : 100 < k) (hk2 : k ≤ 100000000000000000000) (l : List SStroke) (hl : l.length ≤ 15) (hw : ∀ i, i < l.length → (l.getD i default).Wear.length ≤ 43) : ngrind_validStrokes_1 k l = some (strE l) := by
  unfold ngrind_validStrokes_1
  rw [checkStrokes_p k hk hk2 l hl hw, Option.bind_some]
  unfold strR
  cases h : decide (strE l = 0) with
  | true => rw [of_decide_eq_true h]
  | false => rfl
theorem at_neg (k : Nat) (hk : 100 < k) (l : List SStroke) (hl : l.length ≤ 15) (n : ByteArray) : ∃ j : Int, nspeculumref04_StrokeAt k l n = some j ∧ (j < 0 ↔ seenS l l.length n = false) := by
  rcases strAt_any k hk l hl n with ⟨j, e1, e3, e4, e5⟩ | ⟨e1, e2⟩
  · refine ⟨_, e1, ?_⟩
    constructor
    · intro h; omega
    · intro h
      rw [seenS_mono l n (show j + 1 ≤ l.length by omega) (seenS_at l n e3 e5)] at h; cases h
  · exact ⟨_, e1, fun _ => e2, fun _ => by omega⟩
theorem ses_r (k : Nat) (hk : 100 < k) (l : List SStroke) (hl : l.length ≤ 15) (ss : List SGrindSession) (hs : ss.length ≤ 203) : ∀ (d fuel i : Nat), ss.length = i + d → d < fuel → nspeculumref04_Sessions_l0_0 k l ss fuel (i : Int) = some (errE (sesL l (ss.drop i))) := by
  intro d
  induction d with
  | zero =>
    intro fuel i h hf
    obtain ⟨g, rfl⟩ : ∃ g, fuel = g + 1 := ⟨fuel - 1, by omega⟩
    rw [nspeculumref04_Sessions_l0_0.eq_2, if_neg (by omega), List.drop_eq_nil_of_le (by omega)]; rfl
  | succ d ih =>
    intro fuel i h hf
    obtain ⟨g, rfl⟩ : ∃ g, fuel = g + 1 := ⟨fuel - 1, by omega⟩
    obtain ⟨j, hj, hjn⟩ := at_neg k hk l hl (ss.getD i default).Stroke
    rw [nspeculumref04_Sessions_l0_0.eq_2, if_pos (by omega), if_pos (by omega), Int.toNat_natCast, name_ref k hk, Option.bind_some, hj, Option.bind_some, wib, Option.bind_some, big_succ (by omega), ih g (i + 1) (by omega) (by omega), drop_get (y := ss) (i := i) (by omega) default]
    simp only [sesL]
    have key : (if nameB (ss.getD i default).Mirror = true then (if j < 0 then (some (Sum.inl (6 : Int))) else (if inR 1 10000 (ss.getD i default).Minutes = true then some (errE (sesL l (ss.drop (i + 1)))) else (some (.inl 2)))) else (some (.inl 4))) = some (match decide (sesE1 l (ss.getD i default) = 0) with | true => errE (sesL l (ss.drop (i + 1))) | false => .inl (sesE1 l (ss.getD i default))) := by
      unfold sesE1
      cases nameB (ss.getD i default).Mirror with
      | false => rfl
      | true =>
        rw [if_pos rfl]
        cases hsn : seenS l l.length (ss.getD i default).Stroke with
        | false => rw [if_pos (hjn.2 hsn)]; rfl
        | true =>
          rw [if_neg (fun h => by rw [hjn.1 h] at hsn; cases hsn)]
          cases inR 1 10000 (ss.getD i default).Minutes <;> rfl
    rw [key]
    cases hd : decide (sesE1 l (ss.getD i default) = 0) with
    | true => rfl
    | false => unfold errE; rw [hd]
theorem sessions_r (k : Nat) (hk : 1000 < k) (l : List SStroke) (hl : l.length ≤ 15) (ss : List SGrindSession) (hs : ss.length ≤ 203) : nspeculumref04_Sessions k l ss = some (sesE l ss) := by
  have he := ses_r k (by omega) l hl ss hs ss.length k 0 (by omega) (by omega)
  rw [List.drop_zero] at he
  unfold nspeculumref04_Sessions sesE
  by_cases c : ss.length ≤ 200
  · rw [if_neg (by omega), decide_eq_true c, show nspeculumref04_Sessions_l0_0 k l ss k 0 = _ from he, Option.bind_some]
    unfold errE
    cases h0 : decide (sesL l ss = 0) with
    | true => dsimp only; rw [of_decide_eq_true h0]
    | false => rfl
  · rw [if_pos (by omega), decide_eq_false c]
theorem sesL_zero {l : List SStroke} : ∀ {ss : List SGrindSession}, sesL l ss = 0 → ∀ s ∈ ss, sesE1 l s = 0
  | [], _, s, hs => by cases hs
  | x :: ss, h, s, hs => by
    simp only [sesL] at h
    cases hd : decide (sesE1 l x = 0) with
    | false => rw [hd] at h; exact absurd h (of_decide_eq_false hd)
    | true =>
      rw [hd] at h
      rcases List.mem_cons.1 hs with rfl | hs
      · exact of_decide_eq_true hd
      · exact sesL_zero h s hs
/- the wear of a mirror. -/
theorem zone_both (k : Nat) (l : List SStroke) (ss : List SGrindSession) (mi : ByteArray) (i : Nat) (hi : i < ss.length) (z : List (ByteArray × List Int)) (j : Nat) (hj : j < l.length) (ws : List Int) (hw1 : mget z (ss.getD i default).Stroke = ws) (hw2 : (l.getD j default).Wear = ws) (hwl : ws.length ≤ 43) :
    ∀ (d fuel x : Nat) (y : List Int), ws.length = x + d → d < fuel → y.length = ws.length → ∃ u, ngrind_wearOf_l1_0 k ss mi (i : Int) z fuel y (x : Int) = some (z, u) ∧ nspeculumref04_WearOf_l1_0 k l ss mi (i : Int) (j : Int) fuel y (x : Int) = some u ∧ u.length = ws.length := by
  intro d
  induction d with
  | zero =>
    intro fuel x y h hf hy
    obtain ⟨g, rfl⟩ : ∃ g, fuel = g + 1 := ⟨fuel - 1, by omega⟩
    refine ⟨y, ?_, ?_, hy⟩
    · rw [ngrind_wearOf_l1_0.eq_2, Int.toNat_natCast, hw1, if_neg (by omega)]
    · rw [nspeculumref04_WearOf_l1_0.eq_2, if_neg (by omega)]
  | succ d ih =>
    intro fuel x y h hf hy
    obtain ⟨g, rfl⟩ : ∃ g, fuel = g + 1 := ⟨fuel - 1, by omega⟩
    rw [ngrind_wearOf_l1_0.eq_2, nspeculumref04_WearOf_l1_0.eq_2]
    simp only [Int.toNat_natCast]
    rw [hw1, hw2]
    simp only [if_pos (show (x : Int) < (ws.length : Int) by omega), if_pos (show 0 ≤ (x : Int) ∧ (x : Int) < (ws.length : Int) by omega), if_pos (show 0 ≤ (x : Int) ∧ (x : Int) < (y.length : Int) by omega), if_pos (show (x : Int) < (y.length : Int) by omega), if_pos (show 0 ≤ (i : Int) ∧ (i : Int) < (ss.length : Int) by omega), if_pos (show 0 ≤ (j : Int) ∧ (j : Int) < (l.length : Int) by omega)]
    rw [big_succ (by omega)]
    refine ih g (x + 1) _ (by omega) (by omega) ?_
    rw [List.length_set]; exact hy
theorem wear_both (k : Nat) (hk : 1000 < k) (l : List SStroke) (hl : strE l = 0) (ss : List SGrindSession) (hs : ss.length ≤ 203) (hok : sesL l ss = 0) (mi : ByteArray) (z : List (ByteArray × List Int)) (hz : ∀ n, mhas z n = seenS l l.length n) (hz2 : ∀ j, j < l.length → mget z (l.getD j default).Name = (l.getD j default).Wear) :
    ∀ (d fuel i : Nat) (y : List Int), ss.length = i + d → d < fuel → y.length = (l.getD 0 default).Wear.length → ∃ u, ngrind_wearOf_l0_0 k ss mi fuel y (i : Int) z = some u ∧ nspeculumref04_WearOf_l0_0 k l ss mi fuel y (i : Int) = some u ∧ u.length = (l.getD 0 default).Wear.length := by
  obtain ⟨_, hl12, hg⟩ := strE_zero hl
  intro d
  induction d with
  | zero =>
    intro fuel i y h hf hy
    obtain ⟨g, rfl⟩ : ∃ g, fuel = g + 1 := ⟨fuel - 1, by omega⟩
    exact ⟨y, by rw [ngrind_wearOf_l0_0.eq_2, if_neg (by omega)], by rw [nspeculumref04_WearOf_l0_0.eq_2, if_neg (by omega)], hy⟩
  | succ d ih =>
    intro fuel i y h hf hy
    obtain ⟨g, rfl⟩ : ∃ g, fuel = g + 1 := ⟨fuel - 1, by omega⟩
    have hi : i < ss.length := by omega
    rw [ngrind_wearOf_l0_0.eq_2, nspeculumref04_WearOf_l0_0.eq_2]
    simp only [Int.toNat_natCast]
    simp only [if_pos (show (i : Int) < (ss.length : Int) by omega), if_pos (show 0 ≤ (i : Int) ∧ (i : Int) < (ss.length : Int) by omega)]
    rw [big_succ (by omega)]
    by_cases c : (ss.getD i default).Mirror = mi
    · rw [if_pos c, if_pos c]
      have hm : ss.getD i default ∈ ss := by rw [List.getD_eq_getElem?_getD, List.getElem?_eq_getElem hi]; exact List.getElem_mem hi
      have h1 := sesL_zero hok _ hm
      have hseen : seenS l l.length (ss.getD i default).Stroke = true := by
        unfold sesE1 at h1
        cases hn : nameB (ss.getD i default).Mirror with
        | false => rw [hn] at h1; simp at h1
        | true =>
          rw [hn] at h1
          cases hsn : seenS l l.length (ss.getD i default).Stroke with
          | true => rfl
          | false => rw [hsn] at h1; simp at h1
      rcases strAt_any k (by omega) l (by omega) (ss.getD i default).Stroke with ⟨j, e1, e3, e4, e5⟩ | ⟨e1, e2⟩
      · have hgj := (hg j e3).1
        have hwl : (l.getD j default).Wear.length ≤ 43 := by have := hgj.z2; omega
        have hz3 : mget z (ss.getD i default).Stroke = (l.getD j default).Wear := by rw [← e5]; exact hz2 j e3
        obtain ⟨u, u1, u2, u3⟩ := zone_both k l ss mi i hi z j e3 _ hz3 rfl hwl (l.getD j default).Wear.length k 0 y (by omega) (by omega) (by rw [hy]; exact hgj.len.symm)
        rw [if_pos (show mhas z (ss.getD i default).Stroke = true by rw [hz]; exact hseen), show ngrind_wearOf_l1_0 k ss mi (i : Int) z k y 0 = _ from u1, Option.bind_some, e1, Option.bind_some, show nspeculumref04_WearOf_l1_0 k l ss mi (i : Int) (j : Int) k y 0 = _ from u2, Option.bind_some]
        exact ih g (i + 1) u (by omega) (by omega) (by rw [u3, hgj.len])
      · rw [e2] at hseen; cases hseen
    · rw [if_neg c, if_neg c]
      exact ih g (i + 1) y (by omega) (by omega) hy
theorem wearOf_both (k : Nat) (hk : 1000 < k) (l : List SStroke) (hl : strE l = 0) (ss : List SGrindSession) (hs : ss.length ≤ 203) (hok : sesL l ss = 0) (mi : ByteArray) : ∃ u, ngrind_wearOf k l ss mi = some u ∧ nspeculumref04_WearOf k l ss mi = some u ∧ u.length ≤ 43 := by
  obtain ⟨h0, hl12, hg⟩ := strE_zero hl
  obtain ⟨z, h1, h2, h3⟩ := byName_any k (by omega) l (by omega)
  have hw0 := (hg 0 h0).1.z2
  obtain ⟨u, u1, u2, u3⟩ := wear_both k hk l hl ss hs hok mi z h2 (h3 (fun j hj => (hg j hj).2)) ss.length k 0 (List.replicate (l.getD 0 default).Wear.length 0) (by omega) (by omega) (by simp)
  refine ⟨u, ?_, ?_, by omega⟩
  · unfold ngrind_wearOf ngrind_zonesOf
    rw [h1, Option.bind_some, if_pos (by omega), Option.bind_some, show ((0 : Int)).toNat = 0 from rfl, if_pos (by omega), Int.toNat_natCast, show ngrind_wearOf_l0_0 k ss mi k (List.replicate (l.getD 0 default).Wear.length 0) 0 z = _ from u1]; rfl
  · unfold nspeculumref04_WearOf
    rw [if_pos (by omega), show ((0 : Int)).toNat = 0 from rfl, if_pos (by omega), Int.toNat_natCast, show nspeculumref04_WearOf_l0_0 k l ss mi k (List.replicate (l.getD 0 default).Wear.length 0) 0 = _ from u2]; rfl
theorem ints_l (k : Nat) (y : List Int) (hl : y.length ≤ 43) : ∀ (d fuel i : Nat), y.length = i + d → d < fuel → nspeculumbase_Ints_l0_0 k y y fuel (i : Int) = some (.inr ()) := by
  intro d
  induction d with
  | zero =>
    intro fuel i h hf
    obtain ⟨g, rfl⟩ : ∃ g, fuel = g + 1 := ⟨fuel - 1, by omega⟩
    rw [nspeculumbase_Ints_l0_0.eq_2, if_neg (by omega)]
  | succ d ih =>
    intro fuel i h hf
    obtain ⟨g, rfl⟩ : ∃ g, fuel = g + 1 := ⟨fuel - 1, by omega⟩
    rw [nspeculumbase_Ints_l0_0.eq_2, if_pos (by omega), if_pos (by omega), if_pos (by omega), if_pos rfl, big_succ (by omega)]
    exact ih g (i + 1) (by omega) (by omega)
theorem ints_same (k : Nat) (hk : 100 < k) (y : List Int) (hl : y.length ≤ 43) : nspeculumbase_Ints k y y = some true := by
  unfold nspeculumbase_Ints
  rw [if_pos rfl, show nspeculumbase_Ints_l0_0 k y y k 0 = _ from ints_l k y hl y.length k 0 (by omega) (by omega)]; rfl
theorem few_l (k : Nat) (l : List SGrindSession) (hl : l.length ≤ 9223372036854775807) : ∀ (d fuel i : Nat), l.length = i + d → d < fuel → ∃ b, nspeculumlaw04_Few_l0_0 k l fuel (i : Int) = some (sumB b) := by
  intro d
  induction d with
  | zero =>
    intro fuel i h hf
    obtain ⟨g, rfl⟩ : ∃ g, fuel = g + 1 := ⟨fuel - 1, by omega⟩
    exact ⟨true, by rw [nspeculumlaw04_Few_l0_0.eq_2, if_neg (by omega)]; rfl⟩
  | succ d ih =>
    intro fuel i h hf
    obtain ⟨g, rfl⟩ : ∃ g, fuel = g + 1 := ⟨fuel - 1, by omega⟩
    rw [nspeculumlaw04_Few_l0_0.eq_2, if_pos (by omega), if_pos (by omega), Int.toNat_natCast, big_succ (by omega)]
    by_cases c1 : 30 < (((l.getD i default).Mirror).size : Int)
    · rw [if_pos c1]; exact ⟨false, rfl⟩
    · rw [if_neg c1]
      by_cases c2 : 30 < (((l.getD i default).Stroke).size : Int)
      · rw [if_pos c2]; exact ⟨false, rfl⟩
      · rw [if_neg c2]; exact ih g (i + 1) (by omega) (by omega)
theorem few_any (k : Nat) (l : List SGrindSession) (hl : l.length ≤ 9223372036854775807) (hk : l.length < k) : ∃ b, nspeculumlaw04_Few k l = some b ∧ (b = true → l.length ≤ 203) := by
  obtain ⟨b, hb⟩ := few_l k l hl l.length k 0 (by omega) hk
  unfold nspeculumlaw04_Few
  rw [show nspeculumlaw04_Few_l0_0 k l k 0 = _ from hb, Option.bind_some]
  cases b with
  | false => exact ⟨false, rfl, fun h => by cases h⟩
  | true =>
    dsimp only [sumB]
    by_cases c1 : (l.length : Int) ≤ 10
    · rw [if_pos c1]; exact ⟨_, rfl, fun _ => by omega⟩
    · rw [if_neg c1]
      by_cases c2 : (200 : Int) < (l.length : Int)
      · rw [if_pos c2]; exact ⟨_, rfl, fun h => by have := of_decide_eq_true h; omega⟩
      · rw [if_neg c2]; exact ⟨_, rfl, fun h => by cases h⟩
theorem law_sessions (k : Nat) (hk : k = 100000000000000000000) (l : List SStroke) (ss : List SGrindSession) (hs : ss.length ≤ 9223372036854775807) (mi : ByteArray) : nspeculumlaw04_GrindSessions k l ss mi = some true := by
  unfold nspeculumlaw04_GrindSessions
  obtain ⟨b, hb, hb2⟩ := light_any k (by omega) l
  rw [show nawake k = some true from rfl, Option.bind_some, if_pos rfl, hb, Option.bind_some]
  cases b with
  | false => rfl
  | true =>
    obtain ⟨hl, hw⟩ := hb2 rfl
    obtain ⟨c, hc, hc2⟩ := few_any k ss hs (by omega)
    rw [if_pos rfl, hc, Option.bind_some]
    cases c with
    | false => rfl
    | true =>
      have hs2 := hc2 rfl
      rw [if_pos rfl]
      by_cases cm : 30 < (mi.size : Int)
      · rw [if_pos cm]
      · have hcp : nspeculumlaw04_sessions k ss = some ss := by unfold nspeculumlaw04_sessions; rw [if_pos (by simp; omega)]; rfl
        have v1 := strokes1 k (by omega) (by omega) l hl hw
        have v2 := valid_p k (by omega) (by omega) l hl ss hs2
        have r1 := checkStrokes_r k (by omega) l hl hw
        have r2 := sessions_r k (by omega) l hl ss hs2
        have cs : ngrind_CheckSessions k l ss = some (if strE l = 0 then sesE l ss else strE l) := by
          unfold ngrind_CheckSessions ngrind_validStrokes ngrind_validSessions ngrind_firstOf_c0_Lgrind_validStrokes_1_grind_validSessions_1
          simp only [Option.bind_some]
          rw [v1, Option.bind_some, v2, Option.bind_some]
          by_cases h0 : strE l = 0
          · rw [if_pos h0, if_pos h0]
            by_cases h1 : sesE l ss = 0
            · rw [if_pos h1, h1]; rfl
            · rw [if_neg h1]; rfl
          · rw [if_neg h0, if_neg h0]; rfl
        have rs : nspeculumref04_CheckSessions k l ss = some (if strE l = 0 then sesE l ss else strE l) := by
          unfold nspeculumref04_CheckSessions
          rw [r1, Option.bind_some, r2, Option.bind_some]
          unfold strR
          cases h0 : decide (strE l = 0) with
          | true => rw [if_pos (of_decide_eq_true h0)]; rfl
          | false => rw [if_neg (of_decide_eq_false h0)]; dsimp only; rw [if_neg (of_decide_eq_false h0)]
        have wo : ngrind_WearOf k l ss mi = (if strE l = 0 then (if sesE l ss = 0 then (match nameB mi with | true => (ngrind_wearOf k l ss mi).bind fun r => some (r, 0) | false => some ([], 4)) else some ([], sesE l ss)) else some ([], strE l)) := by
          unfold ngrind_WearOf ngrind_validStrokes ngrind_validSessions ngrind_named ngrind_need ngrind_firstOf_c0_Lgrind_validStrokes_1_grind_validSessions_1_grind_need_1
          rw [name_pk k (by omega) (by omega)]
          simp only [Option.bind_some]
          rw [v1, Option.bind_some, v2, Option.bind_some, need1, Option.bind_some]
          by_cases h0 : strE l = 0
          · rw [if_pos h0, if_pos h0]
            by_cases h1 : sesE l ss = 0
            · rw [if_pos h1, if_pos h1]
              cases nameB mi <;> rfl
            · rw [if_neg h1, if_neg h1, Option.bind_some, if_neg h1]
          · rw [if_neg h0, if_neg h0, Option.bind_some, if_neg h0]
        rw [if_neg cm, copy_any k (by omega) l hl hw, Option.bind_some, hcp, Option.bind_some, wo, rs, cs]
        by_cases h0 : strE l = 0
        · rw [if_pos h0, if_pos h0]
          by_cases h1 : sesE l ss = 0
          · rw [if_pos h1, name_ref k (by omega)]
            have hok : sesL l ss = 0 := by
              unfold sesE at h1
              cases hd : decide (ss.length ≤ 200) with
              | true => rw [hd] at h1; exact h1
              | false => rw [hd] at h1; simp at h1
            obtain ⟨u, u1, u2, u3⟩ := wearOf_both k (by omega) l h0 ss hs2 hok mi
            cases nameB mi with
            | false =>
              simp [h1]
            | true =>
              dsimp only
              rw [u1, u2]
              simp [h1, ints_same k (by omega) u u3]
          · rw [if_neg h1]
            simp [h1]
        · rw [if_neg h0, if_neg h0]
          simp [h0]
theorem vc_sessions (l : List SStroke) (ss : List SGrindSession) (mi : ByteArray) (hs : ss.length ≤ 9223372036854775807) : VC Go.Proofs.Try.prog 7 [VV.tr (l.flatMap c_SStroke) l.length, VV.tr (ss.flatMap c_SGrindSession) ss.length, vs mi] (vb true) := nspeculumlaw04_GrindSessions_ok _ _ _ _ _ (law_sessions 100000000000000000000 rfl l ss hs mi)
end Go.Proofs.Ytbaegoglpijnnaa.Vg

/- PointCables, plain. -/
import Derived.Test.YtgacnndakgpaeaaCC
import Derived.Test.YtgacnndakgpaeaaC2
set_option linter.unusedVariables false
set_option linter.unusedSimpArgs false
namespace Go.Proofs.Ytgacnndakgpaeaa.Vg
open Go Go.Proofs.Ytgacnndakgpaeaa.Ev Go.Proofs.Ytgacnndakgpaeaa.Vv
/-! the turns of a mount -/
theorem ups_get (a most : Int) : ∀ (d : Nat) (x : Int) (i : Nat), i < (ups a most d x).length → (ups a most d x).getD i 0 = x + i ∧ a + (x + i) * 1296000 ≤ most
  | 0, x, i, h => by simp [ups] at h
  | d + 1, x, i, h => by
    unfold ups at h ⊢
    by_cases c : a + x * 1296000 ≤ most
    · rw [if_pos c] at h ⊢
      cases i with
      | zero => exact ⟨by simp, by simpa using c⟩
      | succ i =>
        have h' := ups_get a most d (x + 1) i (by simpa using h)
        simp only [List.getD_cons_succ]
        refine ⟨by rw [h'.1]; omega, ?_⟩
        have h2 := h'.2
        rw [show x + ((i + 1 : Nat) : Int) = x + 1 + i by omega]; exact h2
    · rw [if_neg c] at h; simp at h
theorem ups_end (a most : Int) : ∀ (d : Nat) (x : Int), (ups a most d x).length ≤ d ∧ ((ups a most d x).length < d → most < a + (x + (ups a most d x).length) * 1296000)
  | 0, x => ⟨by simp [ups], fun h => by simp [ups] at h⟩
  | d + 1, x => by
    unfold ups
    by_cases c : a + x * 1296000 ≤ most
    · rw [if_pos c]
      have h := ups_end a most d (x + 1)
      simp only [List.length_cons]
      refine ⟨by omega, fun hl => ?_⟩
      have := h.2 (by omega)
      rw [show x + (((ups a most d (x + 1)).length + 1 : Nat) : Int) = x + 1 + ((ups a most d (x + 1)).length : Int) by omega]; exact this
    · rw [if_neg c]
      exact ⟨by simp, fun _ => by simp; omega⟩
theorem flt_mono {a l m l' m' : Int} (h1 : l' ≤ l) (h2 : m ≤ m') : ∀ (d : Nat) (x : Int), (flt a l m d x).length ≤ (flt a l' m' d x).length
  | 0, x => by simp [flt]
  | d + 1, x => by
    have ih := flt_mono (a := a) h1 h2 d (x + 1)
    simp only [flt]
    cases c : inR l m (a + x * 1296000) with
    | true =>
      have : inR l' m' (a + x * 1296000) = true := inR_t.2 (by have := inR_t.1 c; omega)
      rw [this]; simp only [List.length_cons]; omega
    | false =>
      cases inR l' m' (a + x * 1296000) with
      | true => simp only [List.length_cons]; omega
      | false => exact ih
/-- what the turns are: one after the other, from the first that is not below the least position. -/
theorem trn_is {m : SSkyMount} (hm : Mnt m) {a : Int} (ha : 0 ≤ a ∧ a < 1296000) : ∃ x : Int, -20 ≤ x ∧ m.Least ≤ a + x * 1296000 ∧ a + (x - 1) * 1296000 < m.Least ∧ (∀ i, i < (trn m a).length → (trn m a).getD i 0 = x + i ∧ a + (x + i) * 1296000 ≤ m.Most ∧ x + i ≤ 21) ∧ m.Most < a + (x + (trn m a).length) * 1296000 := by
  have h1 := hm.lo
  have h2 := hm.mid
  have h3 := hm.hi
  refine ⟨-((a - m.Least) / 1296000), by omega, by omega, by omega, ?_⟩
  rw [trn_ups hm ha]
  generalize hx : -((a - m.Least) / 1296000) = x
  generalize hd : (22 - x).toNat = d
  have hb : x ≤ 22 := by omega
  have he := ups_end a m.Most d x
  refine ⟨fun i hi => ?_, ?_⟩
  · have h := ups_get a m.Most d x i hi
    exact ⟨h.1, h.2, by omega⟩
  · by_cases c : (ups a m.Most d x).length < d
    · exact he.2 c
    · have : (ups a m.Most d x).length = d := by omega
      rw [this]; omega
/-! a table that is lifted -/
def lift (c : Int) (l : List SSkyRow) : List SSkyRow := l.map fun r => ⟨r.At, r.Value + c⟩
theorem lift_get (c : Int) {l : List SSkyRow} {i : Nat} (h : i < l.length) : (lift c l).getD i default = ⟨(l.getD i default).At, (l.getD i default).Value + c⟩ := by
  simp [lift, List.getD_eq_getElem?_getD, List.getElem?_map, List.getElem?_eq_getElem h]
theorem vrec_lift (c t : Int) : ∀ (l : List SSkyRow) (a : SSkyRow), vrec ⟨a.At, a.Value + c⟩ t (lift c l) = vrec a t l + c
  | [], a => rfl
  | b :: l, a => by
    show vrec ⟨a.At, a.Value + c⟩ t (⟨b.At, b.Value + c⟩ :: lift c l) = _
    unfold vrec
    dsimp only
    by_cases h : t < b.At
    · rw [if_pos h, if_pos h]
      unfold mid
      dsimp only
      rw [show b.Value + c - (a.Value + c) = b.Value - a.Value by omega]; omega
    · rw [if_neg h, if_neg h]; exact vrec_lift c t l b
theorem val_lift (c t : Int) {l : List SSkyRow} (h : 0 < l.length) : val (lift c l) t = val l t + c := by
  unfold val
  rw [lift_get c h]
  dsimp only
  by_cases e : t < (l.getD 0 default).At
  · rw [if_pos e, if_pos e]
  · rw [if_neg e, if_neg e, show (lift c l).drop 1 = lift c (l.drop 1) by simp [lift, List.map_drop]]
    exact vrec_lift c t _ _
section
variable {k : Nat}
theorem getD_set {α : Type} {y : List α} {i : Nat} (h : i < y.length) (v d : α) (j : Nat) : (y.set i v).getD j d = if j = i then v else y.getD j d := by
  rw [List.getD_eq_getElem?_getD, List.getD_eq_getElem?_getD, List.getElem?_set]
  by_cases e : j = i
  · subst e; rw [if_pos rfl, if_pos rfl, if_pos h]; rfl
  · rw [if_neg (fun h => e h.symm), if_neg e]
theorem drift_l (m : SSkyMount) (t : SSkyTarget) (d : Int) (q : SSkyMount) (r : A29 × Int) (w : List SSkyRow) {l : List SSkyRow} (hl : l.length ≤ 100) (hb : ∀ i, i < l.length → -1000000 ≤ (l.getD i default).Value ∧ (l.getD i default).Value ≤ 1000000) : ∀ (n fuel i : Nat) (y : List SSkyRow), l.length = i + n → n < fuel → y.length = l.length → (∀ j, j < l.length → y.getD j default = if j < i then ⟨(l.getD j default).At, (l.getD j default).Value + 996000⟩ else l.getD j default) →
    ∃ r', nspeculumlaw09_PointCables_l1_0 k m t d q r w fuel y (i : Int) = some r' ∧ (r' = .inl () ∨ r' = .inr (maxI (w64 (m.Least - 400000)) (-25920000), minI (w64 (m.Most + 900000)) 25920000, lift 996000 l)) := by
  intro n
  induction n with
  | zero =>
    intro fuel i y he hf hy hj
    obtain ⟨f, rfl⟩ : ∃ f, fuel = f + 1 := ⟨fuel - 1, by omega⟩
    refine ⟨_, by rw [nspeculumlaw09_PointCables_l1_0.eq_2, if_neg (by omega)], .inr ?_⟩
    have : y = lift 996000 l := by
      refine List.ext_getElem (by rw [hy]; simp [lift]) fun j h1 h2 => ?_
      have h := hj j (by omega)
      rw [if_pos (by omega)] at h
      have e1 : y.getD j default = y[j] := by rw [List.getD_eq_getElem?_getD, List.getElem?_eq_getElem h1]; rfl
      have e2 : (lift 996000 l).getD j default = (lift 996000 l)[j] := by rw [List.getD_eq_getElem?_getD, List.getElem?_eq_getElem h2]; rfl
      rw [← e1, ← e2, h, lift_get _ (by omega)]
    rw [this]
  | succ n ih =>
    intro fuel i y he hf hy hj
    obtain ⟨f, rfl⟩ : ∃ f, fuel = f + 1 := ⟨fuel - 1, by omega⟩
    have hv := hb i (by omega)
    have hyi : y.getD i default = l.getD i default := by rw [hj i (by omega), if_neg (Nat.lt_irrefl i)]
    rw [nspeculumlaw09_PointCables_l1_0.eq_2, if_pos (by omega), if_pos (by omega), Int.toNat_natCast, hyi]
    by_cases c : 0 < (l.getD i default).Value
    · rw [if_pos c]; exact ⟨_, rfl, .inl rfl⟩
    rw [if_neg c, w64_id (n := (l.getD i default).Value + 1296000) (by omega) (by omega), w64_id (n := (l.getD i default).Value + 1296000 - 300000) (by omega) (by omega), w64_succ (by omega)]
    refine ih f (i + 1) _ (by omega) (by omega) (by rw [List.length_set]; exact hy) (fun j hjl => ?_)
    rw [getD_set (by omega)]
    by_cases e : j = i
    · rw [if_pos e, if_pos (by omega), e]; congr 1; omega
    · rw [if_neg e, hj j hjl]
      by_cases e2 : j < i
      · rw [if_pos e2, if_pos (by omega)]
      · rw [if_neg e2, if_neg (by omega)]
theorem law_l {m : SSkyMount} (t : SSkyTarget) (d : Int) {a : Int} (e : Int) (p : A29) (hp : p.e0 = a) (ha : 0 ≤ a ∧ a < 1296000) {ks : List Int} {x : Int} (hx : -20 ≤ x) (hlo : m.Least ≤ a + x * 1296000) (hks : ∀ i, i < ks.length → ks.getD i 0 = x + i ∧ a + (x + i) * 1296000 ≤ m.Most ∧ x + i ≤ 21) (hlen : ks.length ≤ 43) (e' : Int) : ∀ (n fuel i : Nat), ks.length = i + n → n < fuel → nspeculumlaw09_PointCables_l0_0 k m t d (p, e) (ks, e') fuel (i : Int) = some (.inr ()) := by
  intro n
  induction n with
  | zero =>
    intro fuel i he hf
    obtain ⟨f, rfl⟩ : ∃ f, fuel = f + 1 := ⟨fuel - 1, by omega⟩
    rw [nspeculumlaw09_PointCables_l0_0.eq_2, if_neg (show ¬ (i : Int) < (ks.length : Int) by omega)]
  | succ n ih =>
    intro fuel i he hf
    obtain ⟨f, rfl⟩ : ∃ f, fuel = f + 1 := ⟨fuel - 1, by omega⟩
    obtain ⟨h1, h2, h3⟩ := hks i (by omega)
    have go := ih f (i + 1) (by omega) (by omega)
    have hi2 : 0 ≤ (i : Int) ∧ (i : Int) < (ks.length : Int) := by omega
    rw [nspeculumlaw09_PointCables_l0_0.eq_2]
    dsimp only
    rw [if_pos (show (i : Int) < (ks.length : Int) by omega), if_pos hi2, if_pos hi2, Int.toNat_natCast, h1, hp, w64_id (n := (x + i) * 1296000) (by omega) (by omega), w64_id (n := a + _) (by omega) (by omega), if_neg (show ¬ a + (x + i) * 1296000 < m.Least by omega), if_neg (show ¬ m.Most < a + (x + i) * 1296000 by omega), w64_succ (by omega)]
    by_cases c : 0 < (i : Int)
    · have g := hks (i - 1) (by omega)
      rw [if_pos c, w64_id (n := (i : Int) - 1) (by omega) (by omega), if_pos (show 0 ≤ (i : Int) - 1 ∧ (i : Int) - 1 < (ks.length : Int) by omega), show ((i : Int) - 1).toNat = i - 1 by omega, g.1, w64_id (n := x + ((i - 1 : Nat) : Int) + 1) (by omega) (by omega), if_pos (show x + (i : Int) = x + ((i - 1 : Nat) : Int) + 1 by omega)]
      exact go
    · rw [if_neg c]; exact go
/-- a wider mount. -/
def wide (m : SSkyMount) : SSkyMount := ⟨maxI (m.Least - 400000) (-25920000), minI (m.Most + 900000) 25920000, m.Low, m.High, m.Speed, m.Refraction, m.Drift⟩
theorem mnt_zero {m : SSkyMount} (h : mntE m = 0) : mOK m = true ∧ m.Least ≤ m.Most ∧ m.Low ≤ m.High ∧ tabE m.Refraction = 0 ∧ tabE m.Drift = 0 := by
  unfold mntE at h
  cases c : mOK m with
  | false => rw [c] at h; cases h
  | true =>
    rw [c] at h
    dsimp only at h
    by_cases c1 : m.Most < m.Least
    · rw [if_pos c1] at h; omega
    rw [if_neg c1] at h
    by_cases c2 : m.High < m.Low
    · rw [if_pos c2] at h; omega
    rw [if_neg c2] at h
    by_cases c3 : tabE m.Refraction = 0
    · rw [if_pos c3] at h; exact ⟨rfl, by omega, by omega, c3, h⟩
    · rw [if_neg c3] at h; exact absurd h c3
theorem wide_ok {m : SSkyMount} (h : mntE m = 0) : mntE (wide m) = 0 ∧ (wide m).Least ≤ m.Least ∧ m.Most ≤ (wide m).Most := by
  obtain ⟨c, h1, h2, h3, h4⟩ := mnt_zero h
  have hm := Mnt.of h
  have a1 := hm.lo
  have a2 := hm.hi
  have w1 : (wide m).Least ≤ m.Least ∧ -25920000 ≤ (wide m).Least ∧ (wide m).Least ≤ 25920000 := by
    show maxI _ _ ≤ _ ∧ _ ≤ maxI _ _ ∧ maxI _ _ ≤ _
    unfold maxI; split <;> omega
  have w2 : m.Most ≤ (wide m).Most ∧ -25920000 ≤ (wide m).Most ∧ (wide m).Most ≤ 25920000 := by
    show _ ≤ minI _ _ ∧ _ ≤ minI _ _ ∧ minI _ _ ≤ _
    unfold minI; split <;> omega
  refine ⟨?_, w1.1, w2.1⟩
  have ok : mOK (wide m) = true := by
    unfold mOK at c ⊢
    simp only [Bool.and_eq_true] at c ⊢
    exact ⟨inR_t.2 w1.2, inR_t.2 w2.2, c.2.2⟩
  unfold mntE
  rw [ok]
  dsimp only
  rw [if_neg (by omega), if_neg (show ¬ (wide m).High < (wide m).Low from (show ¬ m.High < m.Low by omega)), show (wide m).Refraction = m.Refraction from rfl, if_pos h3]
  exact h4
end
theorem table_any (k : Nat) (a : List SSkyRow) (h : a.length < 1000000) : nspeculumlaw09_table k a = some a := by
  unfold nspeculumlaw09_table
  rw [if_pos (by simp only [List.length_nil]; omega), List.nil_append]
theorem mount_any (k : Nat) (m : SSkyMount) (h1 : m.Refraction.length < 1000000) (h2 : m.Drift.length < 1000000) : nspeculumlaw09_mount k m = some m := by
  unfold nspeculumlaw09_mount
  rw [table_any k _ h1, table_any k _ h2]; rfl
theorem law_cables (m : SSkyMount) (t : SSkyTarget) (d : Int) : nspeculumlaw09_PointCables 1000000 m t d = some true := by
  have hk : 100 < 1000000 := by decide
  have hk2 : 1000000 ≤ 100000000000000000000 := by decide
  generalize hkk : (1000000 : Nat) = k at *
  unfold nspeculumlaw09_PointCables nawake
  rw [Option.bind_some, if_pos rfl, light_any, Option.bind_some]
  by_cases c0 : lightB m = true
  case neg => rw [if_neg c0]
  obtain ⟨l1, l2⟩ := light_len c0
  rw [if_pos c0]
  by_cases c1 : 30 < (t.Name.size : Int)
  · rw [if_pos c1]
  rw [if_neg c1, mount_any k m (by omega) (by omega), Option.bind_some, Apparent_any k hk hk2 m t d (by omega) (by omega), Option.bind_some, Turns_any k hk hk2 m t d (by omega) (by omega), Option.bind_some]
  by_cases c2 : sgtE m t d = 0
  case neg => rw [if_neg c2, if_neg c2]
  rw [if_pos c2, if_pos c2]
  dsimp only
  rw [if_pos rfl]
  by_cases c3 : stpE m t d = 0
  case neg => rw [if_neg c3]; (try dsimp only); (try rw [if_neg c3])
  rw [if_pos c3]
  dsimp only
  rw [if_pos rfl]
  obtain ⟨hm, ht, hd⟩ := sgt_zero c2
  have ha := apA_bd m t d
  have hl43 := trn_len m (apA m t d)
  obtain ⟨x, x1, x2, x3, x4, x5⟩ := trn_is hm ha
  have hne : (trn m (apA m t d)).length ≠ 0 ∧ inR m.Low m.High (apH m t) = true := by
    unfold stpE at c3
    cases c : inR m.Low m.High (apH m t) with
    | false => rw [c] at c3; cases c3
    | true =>
      rw [c] at c3
      dsimp only at c3
      refine ⟨fun h => ?_, rfl⟩
      rw [if_pos h] at c3; cases c3
  have hmz : mntE m = 0 := by
    unfold sgtE at c2
    by_cases c : mntE m = 0
    · exact c
    · rw [if_neg c] at c2; exact c2
  obtain ⟨wz, w1, w2⟩ := wide_ok hmz
  have htw : (trn m (apA m t d)).length ≤ (trn (wide m) (apA m t d)).length := flt_mono w1 w2 _ _
  have swz : sgtE (wide m) t d = 0 := by
    unfold sgtE at c2 ⊢
    rw [if_pos hmz] at c2
    rw [if_pos wz]; exact c2
  have stz : stpE (wide m) t d = 0 := by
    unfold stpE
    rw [show inR (wide m).Low (wide m).High (apH (wide m) t) = true from hne.2]
    dsimp only
    rw [show apA (wide m) t d = apA m t d from rfl, if_neg (by omega)]
  have hT := Turns_any k hk hk2 (wide m) t d (show m.Refraction.length < k by omega) (show m.Drift.length < k by omega)
  rw [if_pos swz, if_pos stz, show apA (wide m) t d = apA m t d from rfl] at hT
  have hlo := hm.lo
  have hhi := hm.hi
  have ew : (⟨maxI (w64 (m.Least - 400000)) (-25920000), minI (w64 (m.Most + 900000)) 25920000, m.Low, m.High, m.Speed, m.Refraction, m.Drift⟩ : SSkyMount) = wide m := by
    have hmid := hm.mid
    rw [w64_id (n := m.Least - 400000) (by omega) (by omega), w64_id (n := m.Most + 900000) (by omega) (by omega)]; rfl
  have g0 := x4 0 (by omega)
  have gl := x4 ((trn m (apA m t d)).length - 1) (by omega)
  have hll := law_l (k := k) (m := m) t d (a := apA m t d) 0 ⟨apA m t d, apH m t⟩ rfl ha x1 x2 x4 hl43 0 (trn m (apA m t d)).length k 0 (by omega) (by omega)
  generalize trn m (apA m t d) = ks at *
  have eL : (w64 ((ks.length : Int) - 1)) = ((ks.length - 1 : Nat) : Int) := by rw [w64_id (by omega) (by omega)]; omega
  rw [if_neg (show ¬ (ks.length : Int) = 0 by omega), if_neg (show ¬ apA m t d < 0 by omega), if_neg (show ¬ 1296000 ≤ apA m t d by omega), if_pos (show (0 : Int) ≤ 0 ∧ 0 < (ks.length : Int) by omega), show ((0 : Int)).toNat = 0 from rfl, g0.1, within_base, Option.bind_some, if_pos (inR_t.2 (by omega)), eL, if_pos (show 0 ≤ ((ks.length - 1 : Nat) : Int) ∧ ((ks.length - 1 : Nat) : Int) < (ks.length : Int) by omega), Int.toNat_natCast, gl.1, within_base, Option.bind_some, if_pos (inR_t.2 (by omega)), show nspeculumlaw09_PointCables_l0_0 k m t d (⟨apA m t d, apH m t⟩, 0) (ks, 0) k 0 = _ from hll, Option.bind_some]
  dsimp only
  have z0 : ((0 : Nat) : Int) = 0 := rfl
  rw [w64_id (n := x + ((0 : Nat) : Int) - 1) (by omega) (by omega), w64_id (n := (x + ((0 : Nat) : Int) - 1) * 1296000) (by omega) (by omega), w64_id (n := apA m t d + (x + ((0 : Nat) : Int) - 1) * 1296000) (by omega) (by omega), if_neg (show ¬ m.Least ≤ apA m t d + (x + ((0 : Nat) : Int) - 1) * 1296000 by omega)]
  rw [w64_id (n := x + ((ks.length - 1 : Nat) : Int) + 1) (by omega) (by omega), w64_id (n := (x + ((ks.length - 1 : Nat) : Int) + 1) * 1296000) (by omega) (by omega), w64_id (n := apA m t d + (x + ((ks.length - 1 : Nat) : Int) + 1) * 1296000) (by omega) (by omega), if_neg (show ¬ apA m t d + (x + ((ks.length - 1 : Nat) : Int) + 1) * 1296000 ≤ m.Most by omega), ew, hT, Option.bind_some]
  dsimp only
  rw [if_pos rfl, if_neg (by omega)]
  have tb := hm.dr
  obtain ⟨r, e1, e2⟩ := drift_l (k := k) m t d m (⟨apA m t d, apH m t⟩, 0) m.Refraction (l := m.Drift) (by omega) (fun i hi => (tb.row i hi).2.2) m.Drift.length k 0 m.Drift (by omega) (by omega) rfl (fun j hj => by rw [if_neg (by omega)])
  rw [table_any k m.Refraction (by omega), Option.bind_some, table_any k m.Drift (by omega), Option.bind_some, show nspeculumlaw09_PointCables_l1_0 k m t d m (⟨apA m t d, apH m t⟩, 0) m.Refraction k m.Drift 0 = _ from e1, Option.bind_some]
  rcases e2 with rfl | rfl
  · rfl
  dsimp only
  have hll2 : (lift 996000 m.Drift).length = m.Drift.length := by simp [lift]
  have haz := ht.az
  rw [w64_id (n := t.Azimuth + 300000) (by omega) (by omega), mod_any k (n := t.Azimuth + 300000) (d := 1296000) (by decide) (by decide), Option.bind_some, mount_any k ⟨m.Least, m.Most, m.Low, m.High, m.Speed, m.Refraction, lift 996000 m.Drift⟩ (show m.Refraction.length < 1000000 by omega) (show (lift 996000 m.Drift).length < 1000000 by omega), Option.bind_some]
  generalize hM : (⟨m.Least, m.Most, m.Low, m.High, m.Speed, m.Refraction, lift 996000 m.Drift⟩ : SSkyMount) = M
  have hMr : M.Refraction = m.Refraction := by rw [← hM]
  have hMd : M.Drift = lift 996000 m.Drift := by rw [← hM]
  rw [mount_point k hk hk2 M (by rw [hMr]; omega) (by rw [hMd]; omega), Option.bind_some]
  by_cases cM : mntE M = 0
  case neg => rw [if_neg cM]
  rw [if_pos cM]
  generalize hTt : (⟨t.Name, (t.Azimuth + 300000) % 1296000, t.Height, t.From, t.To, t.Dwell⟩ : SSkyTarget) = T
  have sz : sgtE M T d = 0 := by
    unfold sgtE at c2 ⊢
    rw [if_pos hmz] at c2
    rw [if_pos cM]
    by_cases ct : tgtE t = 0
    case neg => rw [if_neg ct] at c2; exact absurd c2 ct
    rw [if_pos ct] at c2
    have : tgtE T = 0 := by
      rw [← hTt]
      unfold tgtE at ct ⊢
      dsimp only
      cases cn : nameB t.Name with
      | false => rw [cn] at ct; cases ct
      | true =>
        rw [cn] at ct
        dsimp only at ct ⊢
        cases co : tOK t with
        | false => rw [co] at ct; cases ct
        | true =>
          rw [co] at ct
          have : tOK (⟨t.Name, (t.Azimuth + 300000) % 1296000, t.Height, t.From, t.To, t.Dwell⟩ : SSkyTarget) = true := by
            unfold tOK at co ⊢
            simp only [Bool.and_eq_true] at co ⊢
            exact ⟨inR_t.2 (by omega), co.2⟩
          rw [this]; exact ct
    rw [if_pos this]; exact c2
  have hA := Apparent_any k hk hk2 M T d (by rw [hMr]; omega) (by rw [hMd]; omega)
  rw [if_pos sz] at hA
  rw [hA, Option.bind_some]
  dsimp only
  rw [if_pos rfl]
  have q1 : apA M T d = apA m t d := by
    unfold apA
    rw [hMd, val_lift 996000 d tb.pos, ← hTt]
    dsimp only
    omega
  have q2 : apH M T = apH m t := by unfold apH; rw [hMr, ← hTt]
  rw [q1, q2]
  simp
theorem vc_cables (m : SSkyMount) (t : SSkyTarget) (d : Int) : VC Go.Proofs.Try.prog 3 [VV.ag (c_SSkyMount m), VV.ag (c_SSkyTarget t), vi d] (vb true) := nspeculumlaw09_PointCables_ok 1000000 _ _ _ _ (law_cables m t d)
end Go.Proofs.Ytgacnndakgpaeaa.Vg

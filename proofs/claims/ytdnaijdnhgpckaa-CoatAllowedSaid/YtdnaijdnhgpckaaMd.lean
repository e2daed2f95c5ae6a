/- CoatAllowed, plain. -/
import Derived.Test.YtdnaijdnhgpckaaY3
import Derived.Test.YtdnaijdnhgpckaaMc
set_option linter.unusedVariables false
set_option linter.unusedSimpArgs false
namespace Go.Proofs.Ytdnaijdnhgpckaa.Vg
open Go Go.Proofs.Ytdnaijdnhgpckaa.Ev Go.Proofs.Ytdnaijdnhgpckaa.Vv
theorem ints_l (k : Nat) (y : List Int) (hl : y.length ≤ 43) : ∀ (d fuel i : Nat), y.length = i + d → d < fuel → nspeculumbase_Ints_l0_0 k y y fuel (i : Int) = some (.inr ()) := by
  intro d
  induction d with
  | zero =>
    intro fuel i h hf
    obtain ⟨g, rfl⟩ : ∃ g, fuel = g + 1 := ⟨fuel - 1, by omega⟩
    rw [nspeculumbase_Ints_l0_0.eq_2, if_neg (by omega)]
  | succ d ih =>
    intro fuel i h hf
    obtain ⟨g, rfl⟩ : ∃ g, fuel = g + 1 := ⟨fuel - 1, by omega⟩
    rw [nspeculumbase_Ints_l0_0.eq_2, if_pos (by omega), if_pos (by omega), if_pos (by omega), if_pos rfl, w64_succ (by omega)]
    exact ih g (i + 1) (by omega) (by omega)
theorem ints_same (k : Nat) (hk : 100 < k) (y : List Int) (hl : y.length ≤ 43) : nspeculumbase_Ints k y y = some true := by
  unfold nspeculumbase_Ints
  rw [if_pos rfl, show nspeculumbase_Ints_l0_0 k y y k 0 = _ from ints_l k y hl y.length k 0 (by omega) (by omega)]; rfl
theorem next_p (k : Nat) (hk : 1000 < k) (hk2 : k ≤ 1000000000) {a : SAging} (ha : agE a = 0) {l : List SCoatEvent} (hl : l.length ≤ 100) (h1 : (hiE a.Washes l).2 = 0) (x : SCoatEvent) : ∃ r, ncoat_Next k a l x = some r ∧ nspeculumref08_Next k a l x = some r ∧ (r.2 = 0 ↔ (hiE a.Washes (l ++ [x])).2 = 0) := by
  have hcl : nslices_Clone_api_CoatEvent_api_CoatEvent_ k l = some l := by
    unfold nslices_Clone_api_CoatEvent_api_CoatEvent_; rw [if_pos (by simp; omega)]; rfl
  have hL : l.length + ([x] : List SCoatEvent).length ≤ 1000000000 := by simp; omega
  have hL2 : l.length ≤ 1000000000 := by omega
  obtain ⟨_, _, _, w1, w2⟩ := agE_W ha
  unfold ncoat_Next nspeculumref08_Next
  simp only [history_coat k hk hk2, history_ref k hk a ⟨w1, w2⟩, hcl, Option.bind_some, ha, if_true, hL, hL2, h1]
  by_cases h2 : (hiE a.Washes (l ++ [x])).2 = 0
  · simp only [h2, if_true]; exact ⟨_, rfl, rfl, by simp⟩
  · simp only [if_neg h2]; exact ⟨_, rfl, rfl, by simp [h2]⟩
/-- which kinds are allowed. -/
def okK (a : SAging) (l : List SCoatEvent) (m : ByteArray) (D kd : Int) : Bool := decide ((hiE a.Washes (l ++ [⟨m, D, kd⟩])).2 = 0)
def kindsL (a : SAging) (l : List SCoatEvent) (m : ByteArray) (D : Int) : List Int := ([0, 1, 2] : List Int).filter (okK a l m D)
theorem kinds_step {a : SAging} {l : List SCoatEvent} {m : ByteArray} {D : Int} {r : List SCoatEvent × Int} {kd : Int} (hr : r.2 = 0 ↔ (hiE a.Washes (l ++ [⟨m, D, kd⟩])).2 = 0) {A : Type} (X Y : A) : (if r.2 = 0 then X else Y) = (match okK a l m D kd with | true => X | false => Y) := by
  unfold okK
  by_cases h : r.2 = 0
  · rw [if_pos h, decide_eq_true (hr.1 h)]
  · rw [if_neg h, decide_eq_false (fun h2 => h (hr.2 h2))]
theorem allow_p0 (k : Nat) (hk : 1000 < k) (hk2 : k ≤ 1000000000) {a : SAging} (ha : agE a = 0) {l : List SCoatEvent} (hl : l.length ≤ 100) (h1 : (hiE a.Washes l).2 = 0) (D : Int) (r : Sfilm × Int) : (ncoat_Allowed_l0_0 k a l D r k [] 0).bind (fun q => some q.2) = some (kindsL a l (l.getD ((0 : Int)).toNat default).Mirror D) ∧ nspeculumref08_Allowed_l0_0 k a l D k [] 0 = some (kindsL a l (l.getD ((0 : Int)).toNat default).Mirror D) := by
  obtain ⟨g, rfl⟩ : ∃ g, k = g + 1 + 1 + 1 + 1 := ⟨k - 4, by omega⟩
  obtain ⟨q0, a0, b0, c0⟩ := next_p (g + 1 + 1 + 1 + 1) hk hk2 ha hl h1 ⟨(l.getD ((0 : Int)).toNat default).Mirror, D, 0⟩
  obtain ⟨q1, a1, b1, c1⟩ := next_p (g + 1 + 1 + 1 + 1) hk hk2 ha hl h1 ⟨(l.getD ((0 : Int)).toNat default).Mirror, D, 1⟩
  obtain ⟨q2, a2, b2, c2⟩ := next_p (g + 1 + 1 + 1 + 1) hk hk2 ha hl h1 ⟨(l.getD ((0 : Int)).toNat default).Mirror, D, 2⟩
  have w0 : w64 ((0 : Int) + 1) = 1 := rfl
  have w1 : w64 ((1 : Int) + 1) = 2 := rfl
  have w2 : w64 ((2 : Int) + 1) = 3 := rfl
  unfold kindsL
  constructor
  · simp only [ncoat_Allowed_l0_0.eq_2, a0, a1, a2, Option.bind_some, w0, w1, w2, kinds_step c0, kinds_step c1, kinds_step c2, List.filter_cons, List.filter_nil]
    cases okK a l (l.getD ((0 : Int)).toNat default).Mirror D 0 <;> cases okK a l (l.getD ((0 : Int)).toNat default).Mirror D 1 <;> cases okK a l (l.getD ((0 : Int)).toNat default).Mirror D 2 <;> rfl
  · simp only [nspeculumref08_Allowed_l0_0.eq_2, b0, b1, b2, Option.bind_some, w0, w1, w2, kinds_step c0, kinds_step c1, kinds_step c2, List.filter_cons, List.filter_nil]
    cases okK a l (l.getD ((0 : Int)).toNat default).Mirror D 0 <;> cases okK a l (l.getD ((0 : Int)).toNat default).Mirror D 1 <;> cases okK a l (l.getD ((0 : Int)).toNat default).Mirror D 2 <;> rfl
/-- without events the mirror's name does not matter. -/
theorem okK_nil (a : SAging) (D kd : Int) : okK a [] (⟨#[97, 110, 121]⟩ : ByteArray) D kd = okK a [] (⟨#[97]⟩ : ByteArray) D kd := by
  have n1 : nameB (⟨#[97, 110, 121]⟩ : ByteArray) = true := by decide +kernel
  have n2 : nameB (⟨#[97]⟩ : ByteArray) = true := by decide +kernel
  have ev : ∀ m : ByteArray, nameB m = true → evE ⟨m, D, kd⟩ = evE ⟨(⟨#[97]⟩ : ByteArray), D, kd⟩ := fun m hm => by unfold evE; dsimp only; rw [hm, n2]
  have hc : ∀ m : ByteArray, nameB m = true → chk [⟨m, D, kd⟩] 0 (-1) = chk [⟨(⟨#[97]⟩ : ByteArray), D, kd⟩] 0 (-1) := fun m hm => by
    have := ev m hm
    unfold chk
    show (if evE ⟨m, D, kd⟩ = 0 then _ else evE ⟨m, D, kd⟩) = (if evE ⟨(⟨#[97]⟩ : ByteArray), D, kd⟩ = 0 then _ else evE ⟨(⟨#[97]⟩ : ByteArray), D, kd⟩)
    rw [this]
    simp only [eq_self_iff_true, if_true]; rfl
  have hh : ∀ m : ByteArray, nameB m = true → (hiE a.Washes [⟨m, D, kd⟩]).2 = chk [⟨(⟨#[97]⟩ : ByteArray), D, kd⟩] 0 (-1) := fun m hm => by
    unfold hiE
    rw [if_neg (by simp)]
    show (match (if chk [⟨m, D, kd⟩] 0 (-1) = 0 then (Sum.inr () : Sum (Int × Int) Unit) else .inl ((0 : Int), chk [⟨m, D, kd⟩] 0 (-1))) with | .inl e => e | .inr _ => ((0 : Int), (0 : Int))).2 = _
    rw [hc m hm]
    by_cases h : chk [⟨(⟨#[97]⟩ : ByteArray), D, kd⟩] 0 (-1) = 0
    · rw [if_pos h, h]
    · rw [if_neg h]
  unfold okK
  rw [List.nil_append, List.nil_append, hh _ n1, hh _ n2]
theorem allow_p1 (k : Nat) (hk : 1000 < k) (hk2 : k ≤ 1000000000) {a : SAging} (ha : agE a = 0) {l : List SCoatEvent} (hl : l.length ≤ 100) (h1 : (hiE a.Washes l).2 = 0) (D : Int) (r : Sfilm × Int) : (ncoat_Allowed_l0_1 k a l D r k [] 0).bind (fun q => some q.2) = some (kindsL a l (⟨#[97, 110, 121]⟩ : ByteArray) D) ∧ nspeculumref08_Allowed_l0_1 k a l D k [] 0 = some (kindsL a l (⟨#[97]⟩ : ByteArray) D) := by
  obtain ⟨g, rfl⟩ : ∃ g, k = g + 1 + 1 + 1 + 1 := ⟨k - 4, by omega⟩
  obtain ⟨q0, a0, _, c0⟩ := next_p (g + 1 + 1 + 1 + 1) hk hk2 ha hl h1 ⟨(⟨#[97, 110, 121]⟩ : ByteArray), D, 0⟩
  obtain ⟨q1, a1, _, c1⟩ := next_p (g + 1 + 1 + 1 + 1) hk hk2 ha hl h1 ⟨(⟨#[97, 110, 121]⟩ : ByteArray), D, 1⟩
  obtain ⟨q2, a2, _, c2⟩ := next_p (g + 1 + 1 + 1 + 1) hk hk2 ha hl h1 ⟨(⟨#[97, 110, 121]⟩ : ByteArray), D, 2⟩
  obtain ⟨p0, _, b0, d0⟩ := next_p (g + 1 + 1 + 1 + 1) hk hk2 ha hl h1 ⟨(⟨#[97]⟩ : ByteArray), D, 0⟩
  obtain ⟨p1, _, b1, d1⟩ := next_p (g + 1 + 1 + 1 + 1) hk hk2 ha hl h1 ⟨(⟨#[97]⟩ : ByteArray), D, 1⟩
  obtain ⟨p2, _, b2, d2⟩ := next_p (g + 1 + 1 + 1 + 1) hk hk2 ha hl h1 ⟨(⟨#[97]⟩ : ByteArray), D, 2⟩
  have w0 : w64 ((0 : Int) + 1) = 1 := rfl
  have w1 : w64 ((1 : Int) + 1) = 2 := rfl
  have w2 : w64 ((2 : Int) + 1) = 3 := rfl
  unfold kindsL
  constructor
  · simp only [ncoat_Allowed_l0_1.eq_2, a0, a1, a2, Option.bind_some, w0, w1, w2, kinds_step c0, kinds_step c1, kinds_step c2, List.filter_cons, List.filter_nil]
    cases okK a l (⟨#[97, 110, 121]⟩ : ByteArray) D 0 <;> cases okK a l (⟨#[97, 110, 121]⟩ : ByteArray) D 1 <;> cases okK a l (⟨#[97, 110, 121]⟩ : ByteArray) D 2 <;> rfl
  · simp only [nspeculumref08_Allowed_l0_1.eq_2, b0, b1, b2, Option.bind_some, w0, w1, w2, kinds_step d0, kinds_step d1, kinds_step d2, List.filter_cons, List.filter_nil]
    cases okK a l (⟨#[97]⟩ : ByteArray) D 0 <;> cases okK a l (⟨#[97]⟩ : ByteArray) D 1 <;> cases okK a l (⟨#[97]⟩ : ByteArray) D 2 <;> rfl
theorem left_any (k : Nat) {a : SAging} {f : Sfilm} {n : Int} (hW : 0 ≤ a.Washes ∧ a.Washes ≤ 100) (F : FR a f n) : n_coat_film_left k f = some n := by
  unfold n_coat_film_left
  have ho := F.on
  have hlo := F.lo
  by_cases hn : 0 ≤ n
  · obtain ⟨e1, e2, e3⟩ := F.eq hn
    rw [decide_eq_true hn] at ho
    simp only [ho, F.ag, if_true]
    rw [w64_id (by omega) (by omega), e1]
  · rw [decide_eq_false hn] at ho
    simp only [ho, Bool.false_eq_true, if_false]
    rw [show n = -1 by omega]
theorem has_l (k : Nat) (y : List Int) (hl : y.length ≤ 100) (v : Int) : ∀ (d fuel i : Nat), y.length = i + d → d < fuel → nspeculumbase_Has_l0_0 k y v fuel (i : Int) = some (match (y.drop i).any (fun x => decide (x = v)) with | true => .inl () | false => .inr ()) := by
  intro d
  induction d with
  | zero =>
    intro fuel i h hf
    obtain ⟨g, rfl⟩ : ∃ g, fuel = g + 1 := ⟨fuel - 1, by omega⟩
    rw [nspeculumbase_Has_l0_0.eq_2, if_neg (by omega), List.drop_eq_nil_of_le (by omega)]; rfl
  | succ d ih =>
    intro fuel i h hf
    obtain ⟨g, rfl⟩ : ∃ g, fuel = g + 1 := ⟨fuel - 1, by omega⟩
    rw [nspeculumbase_Has_l0_0.eq_2, if_pos (by omega), if_pos (by omega), Int.toNat_natCast, w64_succ (by omega), ih g (i + 1) (by omega) (by omega), drop_get (y := y) (i := i) (by omega) 0, List.any_cons]
    by_cases c : y.getD i 0 = v
    · rw [if_pos c, decide_eq_true c]; rfl
    · rw [if_neg c, decide_eq_false c, Bool.false_or]
theorem has_any (k : Nat) (hk : 1000 < k) (y : List Int) (hl : y.length ≤ 100) (v : Int) : nspeculumbase_Has k y v = some (y.any fun x => decide (x = v)) := by
  have h := has_l k y hl v y.length k 0 (by omega) (by omega)
  rw [List.drop_zero] at h
  unfold nspeculumbase_Has
  rw [show nspeculumbase_Has_l0_0 k y v k 0 = _ from h, Option.bind_some]
  cases (y.any fun x => decide (x = v)) <;> rfl
theorem kinds_len (a : SAging) (l : List SCoatEvent) (m : ByteArray) (D : Int) : (kindsL a l m D).length ≤ 3 := by
  unfold kindsL
  exact Nat.le_trans (List.length_filter_le _ _) (by decide)
theorem kinds_has (a : SAging) (l : List SCoatEvent) (m : ByteArray) (D : Int) : ((kindsL a l m D).any fun x => decide (x = 0)) = okK a l m D 0 ∧ ((kindsL a l m D).any fun x => decide (x = 1)) = okK a l m D 1 ∧ ((kindsL a l m D).any fun x => decide (x = 2)) = okK a l m D 2 := by
  unfold kindsL
  simp only [List.filter_cons, List.filter_nil]
  cases okK a l m D 0 <;> cases okK a l m D 1 <;> cases okK a l m D 2 <;> exact ⟨rfl, rfl, rfl⟩
theorem law_loop (k : Nat) (hk : 1000 < k) (hk2 : k ≤ 1000000000) {a : SAging} (ha : agE a = 0) {l : List SCoatEvent} (hl : l.length ≤ 43) (h1 : (hiE a.Washes l).2 = 0) (D : Int) (y : List Int) (e : Int) (hy : 0 < l.length → y = kindsL a l (l.getD ((0 : Int)).toNat default).Mirror D) : nspeculumlaw08_CoatAllowed_l0_0 k a l D (y, e) k 0 = some (.inr ()) := by
  obtain ⟨g, hg⟩ : ∃ g, k = g + 1 + 1 + 1 + 1 := ⟨k - 4, by omega⟩
  have w0 : w64 ((0 : Int) + 1) = 1 := rfl
  have w1 : w64 ((1 : Int) + 1) = 2 := rfl
  have w2 : w64 ((2 : Int) + 1) = 3 := rfl
  by_cases hn : 0 < l.length
  · have hn' : 0 < (l.length : Int) := by omega
    have hey := hy hn
    obtain ⟨q0, a0, _, c0⟩ := next_p k hk hk2 ha (by omega) h1 ⟨(l.getD ((0 : Int)).toNat default).Mirror, D, 0⟩
    obtain ⟨q1, a1, _, c1⟩ := next_p k hk hk2 ha (by omega) h1 ⟨(l.getD ((0 : Int)).toNat default).Mirror, D, 1⟩
    obtain ⟨q2, a2, _, c2⟩ := next_p k hk hk2 ha (by omega) h1 ⟨(l.getD ((0 : Int)).toNat default).Mirror, D, 2⟩
    have hlen := kinds_len a l (l.getD ((0 : Int)).toNat default).Mirror D
    obtain ⟨k0, k1, k2⟩ := kinds_has a l (l.getD ((0 : Int)).toNat default).Mirror D
    have b0 : decide (q0.2 = 0) = okK a l (l.getD ((0 : Int)).toNat default).Mirror D 0 := by unfold okK; rw [decide_eq_decide]; exact c0
    have b1 : decide (q1.2 = 0) = okK a l (l.getD ((0 : Int)).toNat default).Mirror D 1 := by unfold okK; rw [decide_eq_decide]; exact c1
    have b2 : decide (q2.2 = 0) = okK a l (l.getD ((0 : Int)).toNat default).Mirror D 2 := by unfold okK; rw [decide_eq_decide]; exact c2
    have z0 : (0 : Int) ≤ 0 ∧ 0 < (l.length : Int) := ⟨by omega, hn'⟩
    have go : ∀ X, nspeculumlaw08_CoatAllowed_l0_0 k a l D (y, e) (g + 1 + 1 + 1 + 1) 0 = X → nspeculumlaw08_CoatAllowed_l0_0 k a l D (y, e) k 0 = X := fun X h => by rw [← hg] at h; exact h
    apply go
    simp only [nspeculumlaw08_CoatAllowed_l0_0.eq_2, events_any k (show l.length ≤ 1000000000 by omega), Option.bind_some, hn', z0, if_true, and_self, a0, a1, a2, hey, has_any k hk _ (show (kindsL a l (l.getD ((0 : Int)).toNat default).Mirror D).length ≤ 100 by omega), k0, k1, k2, b0, b1, b2, w0, w1, w2, beq_self_eq_true]
    rfl
  · have go : ∀ X, nspeculumlaw08_CoatAllowed_l0_0 k a l D (y, e) (g + 1 + 1 + 1 + 1) 0 = X → nspeculumlaw08_CoatAllowed_l0_0 k a l D (y, e) k 0 = X := fun X h => by rw [← hg] at h; exact h
    apply go
    rw [nspeculumlaw08_CoatAllowed_l0_0.eq_2, if_pos (by omega), if_neg (by omega)]
theorem law_allowed (k : Nat) (hk : 1000 < k) (hk2 : k ≤ 1000000000) (a : SAging) (l : List SCoatEvent) (D : Int) : nspeculumlaw08_CoatAllowed k a l D = some true := by
  unfold nspeculumlaw08_CoatAllowed
  obtain ⟨b, hb, hlen⟩ := past_any k (by omega) l
  rw [show nawake k = some true from rfl, Option.bind_some, if_pos rfl, hb, Option.bind_some]
  cases b with
  | false => rfl
  | true =>
    have hl := hlen rfl
    rw [if_pos rfl, events_any k (by omega), Option.bind_some, past_ref k hk a l]
    unfold ncoat_Allowed ncoat_StateOn
    by_cases ha : agE a = 0
    · by_cases h1 : (hiE a.Washes l).2 = 0
      · by_cases hD : inR 0 100000 D = true
        · obtain ⟨n, f', r1, r2, r3⟩ := on_day k hk hk2 ha h1 hD
          obtain ⟨_, _, _, w1, w2⟩ := agE_W ha
          have hlf := left_any k ⟨w1, w2⟩ r3
          by_cases hn : 0 < l.length
          · obtain ⟨p1, p2⟩ := allow_p0 k hk hk2 ha (by omega) h1 D (f', 0)
            have href : nspeculumref08_Allowed k a l D = some (kindsL a l (l.getD ((0 : Int)).toNat default).Mirror D) := by
              unfold nspeculumref08_Allowed
              rw [if_pos (by omega), if_pos (by omega), p2]; rfl
            have hi := ints_same k (by omega) (kindsL a l (l.getD ((0 : Int)).toNat default).Mirror D) (by have := kinds_len a l (l.getD ((0 : Int)).toNat default).Mirror D; omega)
            obtain ⟨q, q1, q2⟩ : ∃ q, ncoat_Allowed_l0_0 k a l D (f', 0) k [] 0 = some q ∧ q.2 = kindsL a l (l.getD ((0 : Int)).toNat default).Mirror D := by
              cases hq : ncoat_Allowed_l0_0 k a l D (f', 0) k [] 0 with
              | none => rw [hq] at p1; cases p1
              | some q => rw [hq] at p1; injection p1 with p1; exact ⟨q, rfl, p1⟩
            have hlo := law_loop k hk hk2 ha hl h1 D (kindsL a l (l.getD ((0 : Int)).toNat default).Mirror D) 0 (fun _ => rfl)
            have z1 : 0 < (l.length : Int) := by omega
            have z0 : (0 : Int) ≤ 0 ∧ 0 < (l.length : Int) := ⟨by omega, z1⟩
            simp only [r1, Option.bind_some, if_true, z1, z0, and_self, q1, q2, hlf, ha, h1, within_base, hD, href, hi, r2, hlo]
          · obtain ⟨p1, p2⟩ := allow_p1 k hk hk2 ha (by omega) h1 D (f', 0)
            have hnil : l = [] := List.length_eq_zero_iff.1 (by omega)
            have hk12 : kindsL a l (⟨#[97, 110, 121]⟩ : ByteArray) D = kindsL a l (⟨#[97]⟩ : ByteArray) D := by
              unfold kindsL
              rw [show okK a l (⟨#[97, 110, 121]⟩ : ByteArray) D = okK a l (⟨#[97]⟩ : ByteArray) D from funext fun kd => by rw [hnil]; exact okK_nil a D kd]
            rw [hk12] at p1
            have href : nspeculumref08_Allowed k a l D = some (kindsL a l (⟨#[97]⟩ : ByteArray) D) := by
              unfold nspeculumref08_Allowed
              rw [if_neg (by omega), p2]; rfl
            have hi := ints_same k (by omega) (kindsL a l (⟨#[97]⟩ : ByteArray) D) (by have := kinds_len a l (⟨#[97]⟩ : ByteArray) D; omega)
            obtain ⟨q, q1, q2⟩ : ∃ q, ncoat_Allowed_l0_1 k a l D (f', 0) k [] 0 = some q ∧ q.2 = kindsL a l (⟨#[97]⟩ : ByteArray) D := by
              cases hq : ncoat_Allowed_l0_1 k a l D (f', 0) k [] 0 with
              | none => rw [hq] at p1; cases p1
              | some q => rw [hq] at p1; injection p1 with p1; exact ⟨q, rfl, p1⟩
            have hlo := law_loop k hk hk2 ha hl h1 D (kindsL a l (⟨#[97]⟩ : ByteArray) D) 0 (fun h => absurd h hn)
            have z1 : ¬0 < (l.length : Int) := by omega
            simp only [r1, Option.bind_some, if_true, if_neg z1, q1, q2, hlf, ha, h1, within_base, hD, href, hi, r2, hlo]
        · have hr : ∃ f, ncoat_rightFilmOn k a l D = some (f, 2) := by
            unfold ncoat_rightFilmOn
            refine ⟨⟨⟨⟨0, 0⟩, ⟨0, 0⟩, ⟨0, 0⟩, 0⟩, false, 0, 0, ⟨0, 0⟩⟩, ?_⟩
            rw [history_coat k hk hk2 a l, Option.bind_some, if_pos ha, if_pos h1, day_coat k hk hk2, if_neg hD, Option.bind_some, if_neg (by decide)]
          obtain ⟨f, hr⟩ := hr
          rw [hr]
          simp only [Option.bind_some, ha, h1, if_true, within_base, hD]
          rfl
      · have hr : ∃ f, ncoat_rightFilmOn k a l D = some (f, (hiE a.Washes l).2) := by
          unfold ncoat_rightFilmOn
          refine ⟨⟨⟨⟨0, 0⟩, ⟨0, 0⟩, ⟨0, 0⟩, 0⟩, false, 0, 0, ⟨0, 0⟩⟩, ?_⟩
          rw [history_coat k hk hk2 a l, Option.bind_some, if_pos ha, if_neg h1]
        obtain ⟨f, hr⟩ := hr
        rw [hr]
        simp only [Option.bind_some, ha, if_neg h1, if_true]
        simp
    · have hr : ∃ f, ncoat_rightFilmOn k a l D = some (f, agE a) := by
        unfold ncoat_rightFilmOn
        refine ⟨⟨⟨⟨0, 0⟩, ⟨0, 0⟩, ⟨0, 0⟩, 0⟩, false, 0, 0, ⟨0, 0⟩⟩, ?_⟩
        rw [history_coat k hk hk2 a l, Option.bind_some, if_neg ha, if_neg ha]
      obtain ⟨f, hr⟩ := hr
      rw [hr]
      simp only [Option.bind_some, if_neg ha, if_true]
      simp
theorem vc_allowed (a : SAging) (l : List SCoatEvent) (D : Int) : VC Go.Proofs.Try.prog 3 [VV.ag (c_SAging a), VV.tr (l.flatMap c_SCoatEvent) l.length, vi D] (vb true) := nspeculumlaw08_CoatAllowed_ok _ _ _ _ _ (law_allowed 100000000 (by omega) (by omega) a l D)
end Go.Proofs.Ytdnaijdnhgpckaa.Vg

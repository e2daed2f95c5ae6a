/- Chapter 9, plain: mountings, targets, turns. -/
import Derived.Test.YtgacnndakgpaeaaCA
import Derived.Test.YtgacnndakgpaeaaB2
set_option linter.unusedVariables false
set_option linter.unusedSimpArgs false
namespace Go.Proofs.Ytgacnndakgpaeaa.Vg
open Go Go.Proofs.Ytgacnndakgpaeaa.Ev Go.Proofs.Ytgacnndakgpaeaa.Vv
/-- names. -/
def letB (n : Int) : Bool := decide (97 ≤ n ∧ n ≤ 122) || decide (65 ≤ n ∧ n ≤ 90)
def namB (n : Int) : Bool := letB n || decide (48 ≤ n ∧ n ≤ 57) || decide (n = 45)
theorem letter_point (k : Nat) (n : Int) : npoint_isLetter k n = some (letB n) := by
  unfold npoint_isLetter letB
  by_cases h1 : 97 ≤ n <;> by_cases h2 : n ≤ 122 <;> by_cases h3 : 65 ≤ n <;> simp [h1, h2, h3]
theorem foreign_point (k : Nat) (n : Int) : npoint_isForeign k n = some (!namB n) := by
  unfold npoint_isForeign namB
  rw [letter_point, Option.bind_some]
  cases letB n
  · by_cases h1 : 48 ≤ n <;> by_cases h2 : n ≤ 57 <;> simp [h1, h2]
  · rfl
def bt8 (s : ByteArray) (i : Nat) : Int := bat s (i : Int)
theorem bat_get {s : ByteArray} {i : Nat} (h : i < s.size) : bt8 s i = ((s.get! i).toNat : Int) := by
  unfold bt8 bat
  rw [show ((i : Int)).toNat = i from rfl, getElem?_pos s i h]
  dsimp only
  rw [show s.get! i = s[i] from by cases s; exact getElem!_pos _ i h]
theorem decode_low {s : ByteArray} {i : Nat} (h : i < s.size) (hb : bt8 s i < 128) : Go.Utf8.decode s i = ((bt8 s i).toNat, 1) := by
  rw [bat_get h] at hb ⊢
  unfold Go.Utf8.decode
  dsimp only
  rw [if_pos (by rw [Nat.add_zero]; omega)]
  simp
theorem decode_high {s : ByteArray} {i : Nat} (h : i < s.size) (hb : 128 ≤ bt8 s i) : 128 ≤ (Go.Utf8.decode s i).1 := by
  rw [bat_get h] at hb
  have he : 128 ≤ Go.Utf8.runeError := by decide
  unfold Go.Utf8.decode
  dsimp only
  rw [if_neg (by rw [Nat.add_zero]; omega)]
  split
  · split
    · dsimp only; omega
    · exact he
  · split
    · split
      · rename_i hh; simp only [Bool.and_eq_true, decide_eq_true_eq] at hh; dsimp only; omega
      · exact he
    · split
      · split
        · rename_i hh; simp only [Bool.and_eq_true, decide_eq_true_eq] at hh; dsimp only; omega
        · exact he
      · exact he
theorem namB_low {n : Int} (h : 128 ≤ n) : namB n = false := by
  unfold namB letB
  simp
  omega
/-- all bytes from i on are of a name. -/
def allN (s : ByteArray) : Nat → Nat → Bool
  | 0, _ => true
  | d + 1, i => namB (bt8 s i) && allN s d (i + 1)
theorem find_point (k : Nat) (s : ByteArray) : ∀ (d fuel i : Nat), s.size = i + d → d < fuel →
    ∃ j : Nat, nstrings_indexFunc_c1_point_isForeign_l0_0 k s true fuel (i : Int) = some (match allN s d i with | true => .inr () | false => .inl (j : Int)) := by
  intro d
  induction d with
  | zero =>
    intro fuel i h hf
    obtain ⟨g, rfl⟩ : ∃ g, fuel = g + 1 := ⟨fuel - 1, by omega⟩
    rw [nstrings_indexFunc_c1_point_isForeign_l0_0.eq_2, if_neg (by omega)]
    exact ⟨0, rfl⟩
  | succ d ih =>
    intro fuel i h hf
    obtain ⟨g, rfl⟩ : ∃ g, fuel = g + 1 := ⟨fuel - 1, by omega⟩
    obtain ⟨j, hj⟩ := ih g (i + 1) (by omega) (by omega)
    rw [nstrings_indexFunc_c1_point_isForeign_l0_0.eq_2, if_pos (by omega), if_pos (by omega), foreign_point, Option.bind_some]
    rw [show ((i : Int)).toNat = i from rfl]
    unfold allN
    by_cases hb : bt8 s i < 128
    · rw [decode_low (by omega) hb]
      have h0 : 0 ≤ bt8 s i := by rw [bat_get (by omega)]; omega
      dsimp only
      rw [show (((bt8 s i).toNat : Nat) : Int) = bt8 s i by omega]
      cases hn : namB (bt8 s i) with
      | true =>
        rw [if_neg (by decide), show (i : Int) + ((1 : Nat) : Int) = ((i + 1 : Nat) : Int) by omega, hj]
        exact ⟨j, rfl⟩
      | false => exact ⟨i, by rw [if_pos (by decide)]; rfl⟩
    · have := decode_high (s := s) (i := i) (by omega) (by omega)
      rw [namB_low (n := ((Go.Utf8.decode s i).1 : Int)) (by omega), namB_low (n := bt8 s i) (by omega)]
      exact ⟨i, by rw [if_pos (by decide)]; rfl⟩
def nameB (s : ByteArray) : Bool := match inR 1 12 (s.size : Int) with
  | true => letB (bt8 s 0) && allN s s.size 0
  | false => false
theorem name_point (k : Nat) (hk : 100 < k) (hk2 : k ≤ 100000000000000000000) (s : ByteArray) : npoint_isName k s = some (nameB s) := by
  unfold npoint_isName nameB
  rw [areWithin_1 k _ _ _ (by omega) hk2, Option.bind_some]
  cases h : inR 1 12 (s.size : Int) with
  | false => rfl
  | true =>
    have h := inR_t.1 h
    have h0 : bt8 s 0 = ((s.get! 0).toNat : Int) := bat_get (by omega)
    have hlt : (s.get! 0).toNat < 256 := (s.get! 0).toNat_lt
    rw [if_pos rfl, if_pos (by omega), letter_point, Option.bind_some]
    rw [show IntKind.i32.wrap (bat s 0) = bt8 s 0 by
      show IntKind.i32.wrap (bt8 s 0) = bt8 s 0
      rw [h0]
      unfold IntKind.wrap
      simp [IntKind.signed, IntKind.bits]
      omega]
    cases letB (bt8 s 0) with
    | false => rfl
    | true =>
      rw [if_pos rfl]
      unfold nstrings_ContainsFunc_c1_point_isForeign nstrings_IndexFunc_c1_point_isForeign nstrings_indexFunc_c1_point_isForeign
      obtain ⟨j, hj⟩ := find_point k s s.size k 0 (by omega) (by omega)
      rw [show nstrings_indexFunc_c1_point_isForeign_l0_0 k s true k 0 = _ from hj]
      cases allN s s.size 0 with
      | true => rfl
      | false =>
        simp only [Option.bind_some]
        rw [decide_eq_true (show (0 : Int) ≤ (j : Int) by omega)]; rfl
/-- mountings. -/
def mOK (m : SSkyMount) : Bool := inR (-25920000) 25920000 m.Least && (inR (-25920000) 25920000 m.Most && (inR 0 324000 m.Low && (inR 0 324000 m.High && inR 1 1000000 m.Speed)))
def mntE (m : SSkyMount) : Int := match mOK m with
  | true => if m.Most < m.Least then 9 else if m.High < m.Low then 9 else if tabE m.Refraction = 0 then tabE m.Drift else tabE m.Refraction
  | false => 2
theorem mount_point (k : Nat) (hk : 100 < k) (hk2 : k ≤ 100000000000000000000) (m : SSkyMount) (h1 : m.Refraction.length < k) (h2 : m.Drift.length < k) : npoint_CheckMount k m = some (mntE m) := by
  unfold npoint_CheckMount mntE mOK
  rw [areSmall_2 k _ _ _ (by decide) hk hk2, Option.bind_some]
  cases inR (-25920000) 25920000 m.Least with
  | false => rfl
  | true =>
    cases inR (-25920000) 25920000 m.Most with
    | false => rfl
    | true =>
      rw [show (true && true) = true from rfl, if_pos rfl, areWithin_2 k _ _ _ _ hk hk2, Option.bind_some]
      cases inR 0 324000 m.Low with
      | false => rfl
      | true =>
        cases inR 0 324000 m.High with
        | false => rfl
        | true =>
          rw [show (true && true) = true from rfl, if_pos rfl, areWithin_1 k _ _ _ hk hk2, Option.bind_some]
          cases inR 1 1000000 m.Speed with
          | false => rfl
          | true =>
            rw [if_pos rfl, table_point k hk hk2 _ h1, table_point k hk hk2 _ h2, Option.bind_some, Option.bind_some]
            show _ = some (if m.Most < m.Least then 9 else if m.High < m.Low then 9 else if tabE m.Refraction = 0 then tabE m.Drift else tabE m.Refraction)
            split
            · rfl
            · split
              · rfl
              · split <;> rfl
structure Mnt (m : SSkyMount) : Prop where
  lo : -25920000 ≤ m.Least
  mid : m.Least ≤ m.Most
  hi : m.Most ≤ 25920000
  h0 : 0 ≤ m.Low ∧ m.Low ≤ m.High ∧ m.High ≤ 324000
  sp : 1 ≤ m.Speed ∧ m.Speed ≤ 1000000
  re : Tab m.Refraction
  dr : Tab m.Drift
theorem Mnt.of {m : SSkyMount} (h : mntE m = 0) : Mnt m := by
  unfold mntE at h
  cases h1 : mOK m with
  | false => rw [h1] at h; cases h
  | true =>
    rw [h1] at h
    have h : (if m.Most < m.Least then (9 : Int) else if m.High < m.Low then 9 else if tabE m.Refraction = 0 then tabE m.Drift else tabE m.Refraction) = 0 := h
    simp only [mOK, Bool.and_eq_true, inR_t] at h1
    split at h
    · omega
    · split at h
      · omega
      · split at h
        · exact ⟨by omega, by omega, by omega, by omega, by omega, Tab.of ‹_›, Tab.of h⟩
        · omega
/-- targets. -/
def tOK (t : SSkyTarget) : Bool := inR 0 1295999 t.Azimuth && (inR 0 324000 t.Height && (inR 0 10000000 t.From && (inR 0 10000000 t.To && inR 1 10000 t.Dwell)))
def tgtE (t : SSkyTarget) : Int := match nameB t.Name with
  | true => match tOK t with
    | true => if t.To ≤ t.From then 9 else 0
    | false => 2
  | false => 4
theorem target_point (k : Nat) (hk : 100 < k) (hk2 : k ≤ 100000000000000000000) (t : SSkyTarget) : npoint_CheckTarget k t = some (tgtE t) := by
  unfold npoint_CheckTarget tgtE tOK
  rw [name_point k hk hk2, Option.bind_some]
  cases nameB t.Name with
  | false => rfl
  | true =>
    rw [if_pos rfl, areWithin_1 k _ _ _ hk hk2, Option.bind_some]
    cases inR 0 1295999 t.Azimuth with
    | false => rfl
    | true =>
      rw [if_pos rfl, areWithin_1 k _ _ _ hk hk2, Option.bind_some]
      cases inR 0 324000 t.Height with
      | false => rfl
      | true =>
        rw [if_pos rfl, areWithin_2 k _ _ _ _ hk hk2, Option.bind_some]
        cases inR 0 10000000 t.From with
        | false => rfl
        | true =>
          cases inR 0 10000000 t.To with
          | false => rfl
          | true =>
            rw [show (true && true) = true from rfl, if_pos rfl, areWithin_1 k _ _ _ hk hk2, Option.bind_some]
            cases inR 1 10000 t.Dwell with
            | false => rfl
            | true =>
              show (if t.To ≤ t.From then some 9 else some 0) = some (if t.To ≤ t.From then 9 else 0)
              split <;> rfl
structure Tgt (t : SSkyTarget) : Prop where
  az : 0 ≤ t.Azimuth ∧ t.Azimuth < 1296000
  he : 0 ≤ t.Height ∧ t.Height ≤ 324000
  fr : 0 ≤ t.From ∧ t.From < t.To ∧ t.To ≤ 10000000
  dw : 1 ≤ t.Dwell ∧ t.Dwell ≤ 10000
theorem Tgt.of {t : SSkyTarget} (h : tgtE t = 0) : Tgt t := by
  unfold tgtE at h
  cases h0 : nameB t.Name with
  | false => rw [h0] at h; cases h
  | true =>
    rw [h0] at h
    cases h1 : tOK t with
    | false => rw [h1] at h; cases h
    | true =>
      rw [h1] at h
      have h : (if t.To ≤ t.From then (9 : Int) else 0) = 0 := h
      simp only [tOK, Bool.and_eq_true, inR_t] at h1
      split at h
      · omega
      · exact ⟨by omega, by omega, by omega, by omega⟩
/-- where a target is. -/
def apA (m : SSkyMount) (t : SSkyTarget) (d : Int) : Int := (t.Azimuth + val m.Drift d) % 1296000
def apH (m : SSkyMount) (t : SSkyTarget) : Int := t.Height + val m.Refraction t.Height
theorem apA_bd (m : SSkyMount) (t : SSkyTarget) (d : Int) : 0 ≤ apA m t d ∧ apA m t d < 1296000 := by unfold apA; omega
theorem apparent_point (k : Nat) (hk : 100 < k) {m : SSkyMount} {t : SSkyTarget} {d : Int} (hm : Mnt m) (ht : Tgt t) (hd : 0 ≤ d ∧ d ≤ 100000) : npoint_apparent k m t d = some ⟨apA m t d, apH m t⟩ := by
  unfold npoint_apparent
  have hz := ht.az
  have hh := ht.he
  have v1 := val_bd hm.dr d
  have v2 := val_bd hm.re t.Height
  rw [value_point k hk hm.dr (by omega), Option.bind_some, w64_id (n := t.Azimuth + val m.Drift d) (by omega) (by omega), down_any k (by omega) (by decide), Option.bind_some, value_point k hk hm.re (by omega), Option.bind_some, w64_id (n := t.Height + _) (by omega) (by omega), w64_id (n := (t.Azimuth + val m.Drift d) / 1296000 * 1296000) (by omega) (by omega), w64_id (by omega) (by omega)]
  unfold apA apH
  rw [show t.Azimuth + val m.Drift d - (t.Azimuth + val m.Drift d) / 1296000 * 1296000 = (t.Azimuth + val m.Drift d) % 1296000 by omega]
theorem mod_any (k : Nat) {n d : Int} (hd : 0 < d) (hd2 : d ≤ 1000000000000) : nspeculumbase_Mod k n d = some (n % d) := by
  unfold nspeculumbase_Mod
  have h1 : n.tmod d < d := Int.tmod_lt_of_pos n hd
  have h2 : -d < n.tmod d := by
    have := Int.lt_tmod_of_pos n hd
    omega
  have h3 := Int.mul_tdiv_add_tmod n d
  rw [if_pos (by omega)]
  have key : ∀ r q : Int, d * q + r = n → 0 ≤ r → r < d → r = n % d := by
    intro r q e e1 e2
    rw [← e, Int.add_comm, Int.add_mul_emod_self_left, Int.emod_eq_of_lt e1 e2]
  split
  · rw [w64_id (by omega) (by omega), key (n.tmod d + d) (n.tdiv d - 1) (by rw [Int.mul_sub, Int.mul_one]; omega) (by omega) (by omega)]
  · rw [key (n.tmod d) (n.tdiv d) h3 (by omega) (by omega)]
/-- turns, upward from one of them; those of all. -/
def ups (a most : Int) : Nat → Int → List Int
  | 0, _ => []
  | d + 1, x => if a + x * 1296000 ≤ most then x :: ups a most d (x + 1) else []
def flt (a least most : Int) : Nat → Int → List Int
  | 0, _ => []
  | d + 1, x => match inR least most (a + x * 1296000) with
    | true => x :: flt a least most d (x + 1)
    | false => flt a least most d (x + 1)
theorem flt_none (a least most : Int) : ∀ (d : Nat) (x : Int), most < a + x * 1296000 → flt a least most d x = []
  | 0, x, _ => rfl
  | d + 1, x, h => by
    simp only [flt]
    rw [show inR least most (a + x * 1296000) = false from inR_f.2 (by omega)]
    exact flt_none a least most d (x + 1) (by omega)
theorem flt_ups (a least most : Int) : ∀ (d : Nat) (x : Int), least ≤ a + x * 1296000 → flt a least most d x = ups a most d x
  | 0, x, _ => rfl
  | d + 1, x, h => by
    simp only [flt, ups]
    by_cases c : a + x * 1296000 ≤ most
    · rw [if_pos c, show inR least most (a + x * 1296000) = true from inR_t.2 ⟨h, c⟩]
      show x :: _ = _
      rw [flt_ups a least most d (x + 1) (by omega)]
    · rw [if_neg c, show inR least most (a + x * 1296000) = false from inR_f.2 (by omega)]
      exact flt_none a least most d (x + 1) (by omega)
theorem flt_skip (a least most : Int) : ∀ (n d : Nat) (x : Int), a + (x + n - 1) * 1296000 < least → flt a least most (n + d) x = flt a least most d (x + n)
  | 0, d, x, _ => by rw [Nat.zero_add]; congr 1; omega
  | n + 1, d, x, h => by
    rw [show n + 1 + d = (n + d) + 1 by omega]
    simp only [flt]
    rw [show inR least most (a + x * 1296000) = false from inR_f.2 (by omega)]
    show flt a least most (n + d) (x + 1) = _
    rw [flt_skip a least most n d (x + 1) (by omega)]
    congr 1; omega
def trn (m : SSkyMount) (a : Int) : List Int := flt a m.Least m.Most 43 (-21)
theorem trn_ups {m : SSkyMount} (hm : Mnt m) {a : Int} (ha : 0 ≤ a ∧ a < 1296000) : trn m a = ups a m.Most (22 - -((a - m.Least) / 1296000)).toNat (-((a - m.Least) / 1296000)) := by
  have h1 := hm.lo
  have h2 := hm.hi
  have h3 := hm.mid
  obtain ⟨x, hx⟩ : ∃ x : Int, x = -((a - m.Least) / 1296000) := ⟨_, rfl⟩
  obtain ⟨n, hn⟩ : ∃ n : Nat, (n : Int) = x + 21 := ⟨(x + 21).toNat, by omega⟩
  rw [← hx]
  unfold trn
  rw [show 43 = n + (22 - x).toNat by omega, flt_skip a m.Least m.Most n _ (-21) (by omega), show (-21 : Int) + n = x by omega]
  exact flt_ups a m.Least m.Most _ x (by omega)
theorem stop_l (k : Nat) (m : SSkyMount) (t : SSkyTarget) (p : A29) (hm : Mnt m) (ha : 0 ≤ p.e0 ∧ p.e0 < 1296000) : ∀ (d fuel : Nat) (y6 y7 : List Int) (x : Int), x + d = 22 → -30 ≤ x → d < fuel → y6.length + d ≤ 1000 → y7.length + d ≤ 1000 →
    npoint_stopAt_l0_0 k m t p fuel y6 y7 x = some (y6 ++ ups p.e0 m.Most d x, y7 ++ (ups p.e0 m.Most d x).map fun x => p.e0 + x * 1296000) := by
  have h2 := hm.hi
  intro d
  induction d with
  | zero =>
    intro fuel y6 y7 x hx hx2 hf h6 h7
    obtain ⟨g, rfl⟩ : ∃ g, fuel = g + 1 := ⟨fuel - 1, by omega⟩
    rw [npoint_stopAt_l0_0.eq_2, w64_id (n := x * 1296000) (by omega) (by omega), w64_id (n := p.e0 + _) (by omega) (by omega), if_neg (by omega)]
    simp [ups]
  | succ d ih =>
    intro fuel y6 y7 x hx hx2 hf h6 h7
    obtain ⟨g, rfl⟩ : ∃ g, fuel = g + 1 := ⟨fuel - 1, by omega⟩
    rw [npoint_stopAt_l0_0.eq_2, w64_id (n := x * 1296000) (by omega) (by omega), w64_id (n := p.e0 + _) (by omega) (by omega)]
    simp only [ups]
    by_cases c : p.e0 + x * 1296000 ≤ m.Most
    · rw [if_pos c, if_pos (by simp; omega), if_pos (by simp; omega), w64_id (n := x + 1) (by omega) (by omega), ih g _ _ (x + 1) (by omega) (by omega) (by omega) (by simp; omega) (by simp; omega), if_pos c]
      simp
    · rw [if_neg c, if_neg c]; simp
/-- what a mounting does at a target. -/
def stpE (m : SSkyMount) (t : SSkyTarget) (d : Int) : Int := match inR m.Low m.High (apH m t) with
  | true => if (trn m (apA m t d)).length = 0 then 12 else 0
  | false => 26
def posL (m : SSkyMount) (t : SSkyTarget) (d : Int) : List Int := (trn m (apA m t d)).map fun x => apA m t d + x * 1296000
def noStop : Sstop := ⟨⟨ByteArray.empty, 0, 0, 0, 0, 0⟩, [], []⟩
theorem stopAt_any (k : Nat) (hk : 100 < k) (hk2 : k ≤ 100000000000000000000) {m : SSkyMount} {t : SSkyTarget} {d : Int} (hm : Mnt m) (ht : Tgt t) (hd : 0 ≤ d ∧ d ≤ 100000) :
    npoint_stopAt k m t d = some (if stpE m t d = 0 then (⟨t, trn m (apA m t d), posL m t d⟩, 0) else (noStop, stpE m t d)) := by
  unfold npoint_stopAt stpE
  rw [apparent_point k hk hm ht hd, Option.bind_some, areWithin_1 k _ _ _ hk hk2, Option.bind_some]
  cases inR m.Low m.High (apH m t) with
  | false => rfl
  | true =>
    have h1 := hm.lo
    have h2 := hm.hi
    have h3 := hm.mid
    have ha := apA_bd m t d
    unfold npoint_up
    dsimp only
    rw [if_pos rfl, w64_id (n := m.Least - _) (by omega) (by omega), w64_id (n := 0 - _) (by omega) (by omega), down_any k (by omega) (by decide), Option.bind_some, Option.bind_some, w64_id (by omega) (by omega)]
    have e : (0 : Int) - (0 - (m.Least - apA m t d)) / 1296000 = -((apA m t d - m.Least) / 1296000) := by
      rw [show (0 : Int) - (m.Least - apA m t d) = apA m t d - m.Least by omega]; omega
    rw [e, stop_l k m t ⟨apA m t d, apH m t⟩ hm ha (22 - -((apA m t d - m.Least) / 1296000)).toNat k [] [] _ (by omega) (by omega) (by omega) (by simp; omega) (by simp; omega), Option.bind_some]
    simp only [List.nil_append]
    rw [← trn_ups hm ha]
    by_cases c : (trn m (apA m t d)).length = 0
    · rw [if_pos (by omega)]
      simp only [if_pos c]
      rfl
    · rw [if_neg (by omega)]
      simp only [if_neg c]
      rfl
def lightB (m : SSkyMount) : Bool := rowsB m.Refraction && rowsB m.Drift
theorem light_any (k : Nat) (m : SSkyMount) : nspeculumlaw09_Light k m = some (lightB m) := by
  unfold nspeculumlaw09_Light lightB
  rw [rows_any, rows_any]
  cases rowsB m.Refraction <;> rfl
theorem light_len {m : SSkyMount} (h : lightB m = true) : m.Refraction.length ≤ 43 ∧ m.Drift.length ≤ 43 := by
  unfold lightB rowsB at h
  rw [Bool.and_eq_true, decide_eq_true_iff, decide_eq_true_iff] at h
  omega
theorem flt_len (a least most : Int) : ∀ (d : Nat) (x : Int), (flt a least most d x).length ≤ d
  | 0, x => Nat.le_refl _
  | d + 1, x => by
    simp only [flt]
    have := flt_len a least most d (x + 1)
    split
    · simp only [List.length_cons]; omega
    · omega
theorem trn_len (m : SSkyMount) (a : Int) : (trn m a).length ≤ 43 := flt_len _ _ _ _ _
end Go.Proofs.Ytgacnndakgpaeaa.Vg

/- Chapter 2, plain: tables and departures. -/
import Derived.Test.YtgaopkhkabbcfaaOPd
import Derived.Test.YtgaopkhkabbcfaaOT
set_option linter.unusedVariables false
set_option linter.unusedSimpArgs false
namespace Go.Proofs.Ytgaopkhkabbcfaa.Vg
open Go Go.Proofs.Ytgaopkhkabbcfaa.Ev Go.Proofs.Ytgaopkhkabbcfaa.Vv
noncomputable def sag1 (c : SConic) (r : Int) : SRange × Int := if plE c r = 0 then (sagV c r, 0) else (⟨0, 0⟩, plE c r)
/-- a table, or the first error. -/
noncomputable def tblF (c : SConic) (xs : List Int) : Nat → Nat → List SRange → Sum Int (List SRange)
  | 0, _, y => .inr y
  | d + 1, i, y => if (sag1 c (xs.getD i 0)).2 = 0 then tblF c xs d (i + 1) (y ++ [(sag1 c (xs.getD i 0)).1]) else .inl (sag1 c (xs.getD i 0)).2
theorem tbl_opt (k : Nat) (hk : 100000000000000000000 ≤ k) {c : SConic} (hc : IC c) (h : conE c = 0) (xs : List Int) (hl : xs.length ≤ 1000) : ∀ (d fuel i : Nat) (y : List SRange), xs.length = i + d → d < fuel → y.length = i →
    noptics_SagTable_l0_0 k c xs fuel (y ++ List.replicate d ⟨0, 0⟩) (i : Int) = some (tblF c xs d i y) := by
  intro d
  induction d with
  | zero =>
    intro fuel i y h1 hf hy
    obtain ⟨g, rfl⟩ : ∃ g, fuel = g + 1 := ⟨fuel - 1, by omega⟩
    rw [noptics_SagTable_l0_0.eq_2, if_neg (by omega)]
    simp [tblF]
  | succ d ih =>
    intro fuel i y h1 hf hy
    obtain ⟨g, rfl⟩ : ∃ g, fuel = g + 1 := ⟨fuel - 1, by omega⟩
    rw [noptics_SagTable_l0_0.eq_2, if_pos (by omega), if_pos (by omega), sag_opt k hk hc, Option.bind_some, if_pos h]
    simp only [Int.toNat_natCast]
    rw [show (if plE c (xs.getD i 0) = 0 then (sagV c (xs.getD i 0), (0 : Int)) else ((⟨0, 0⟩ : SRange), plE c (xs.getD i 0))) = sag1 c (xs.getD i 0) from rfl]
    simp only [tblF]
    by_cases e : (sag1 c (xs.getD i 0)).2 = 0
    · rw [if_pos e, if_pos e, if_pos (by simp; omega), w64_succ (by omega)]
      rw [show (y ++ List.replicate (d + 1) (⟨0, 0⟩ : SRange)).set i (sag1 c (xs.getD i 0)).1 = (y ++ [(sag1 c (xs.getD i 0)).1]) ++ List.replicate d ⟨0, 0⟩ from by
        rw [List.set_append_right _ _ (by omega), hy, Nat.sub_self, List.replicate_succ, List.set_cons_zero, List.append_assoc]; rfl]
      exact ih g (i + 1) _ (by omega) (by omega) (by simp; omega)
    · rw [if_neg e, if_neg e]
theorem tbl_ref (k : Nat) (hk : 100000000000000000002 ≤ k) {c : SConic} (h : RC c) (xs : List Int) (hl : xs.length ≤ 1000) : ∀ (d fuel i : Nat) (y : List SRange), xs.length = i + d → d < fuel → y.length = i →
    nspeculumref02_SagTable_l0_0 k c xs fuel y (i : Int) = some (tblF c xs d i y) := by
  intro d
  induction d with
  | zero =>
    intro fuel i y h1 hf hy
    obtain ⟨g, rfl⟩ : ∃ g, fuel = g + 1 := ⟨fuel - 1, by omega⟩
    rw [nspeculumref02_SagTable_l0_0.eq_2, if_neg (by omega)]
    simp [tblF]
  | succ d ih =>
    intro fuel i y h1 hf hy
    obtain ⟨g, rfl⟩ : ∃ g, fuel = g + 1 := ⟨fuel - 1, by omega⟩
    rw [nspeculumref02_SagTable_l0_0.eq_2, if_pos (by omega), if_pos (by omega), sag_ref k hk h, Option.bind_some]
    simp only [Int.toNat_natCast]
    rw [show (if plE c (xs.getD i 0) = 0 then (sagV c (xs.getD i 0), (0 : Int)) else ((⟨0, 0⟩ : SRange), plE c (xs.getD i 0))) = sag1 c (xs.getD i 0) from rfl]
    simp only [tblF]
    by_cases e : (sag1 c (xs.getD i 0)).2 = 0
    · rw [if_pos e, if_pos e, if_pos (by simp; omega), w64_succ (by omega)]
      exact ih g (i + 1) _ (by omega) (by omega) (by simp; omega)
    · rw [if_neg e, if_neg e]
theorem tblF_len (c : SConic) (xs : List Int) : ∀ (d i : Nat) (y z : List SRange), tblF c xs d i y = .inr z → z.length = y.length + d
  | 0, i, y, z, h => by simp [tblF] at h; subst h; rfl
  | d + 1, i, y, z, h => by
    simp only [tblF] at h
    split at h
    · have := tblF_len c xs d (i + 1) _ z h; simp at this; omega
    · cases h
theorem ranges_self (k : Nat) (l : List SRange) (hl : l.length < 1000000000) : ∀ (d fuel i : Nat), l.length = i + d → d < fuel → nspeculumbase_Ranges_l0_0 k l l fuel (i : Int) = some (.inr ()) := by
  intro d
  induction d with
  | zero =>
    intro fuel i h hf
    obtain ⟨g, rfl⟩ : ∃ g, fuel = g + 1 := ⟨fuel - 1, by omega⟩
    rw [nspeculumbase_Ranges_l0_0.eq_2, if_neg (by omega)]
  | succ d ih =>
    intro fuel i h hf
    obtain ⟨g, rfl⟩ : ∃ g, fuel = g + 1 := ⟨fuel - 1, by omega⟩
    rw [nspeculumbase_Ranges_l0_0.eq_2, if_pos (by omega), if_pos (by omega), if_pos (by omega), if_pos (by simp), w64_succ (by omega), ih g (i + 1) (by omega) (by omega)]
theorem ranges_any (k : Nat) (l : List SRange) (hl : l.length < 1000000) (hk : 1000000 ≤ k) : nspeculumbase_Ranges k l l = some true := by
  unfold nspeculumbase_Ranges
  rw [if_pos rfl, show nspeculumbase_Ranges_l0_0 k l l k 0 = _ from ranges_self k l (by omega) l.length k 0 (by omega) (by omega), Option.bind_some]
theorem tables_both (k : Nat) (hk : 100000000000000000002 ≤ k) {c : SConic} (hc : IC c) (h : conE c = 0) (xs : List Int) (hl : xs.length ≤ 1000) : ∃ r, noptics_SagTable k c xs = some r ∧ nspeculumref02_SagTable k c xs = some r ∧ r.1.length < 1000000 := by
  unfold noptics_SagTable nspeculumref02_SagTable
  rw [conic_opt k (by omega) hc, Option.bind_some, if_pos h]
  by_cases c1 : 40 < (xs.length : Int)
  · rw [if_pos c1, if_pos c1]; exact ⟨_, rfl, rfl, by decide⟩
  · have e1 := tbl_opt k (by omega) hc h xs hl xs.length k 0 [] (by omega) (by omega) rfl
    have e2 := tbl_ref k hk (RC.of h) xs hl xs.length k 0 [] (by omega) (by omega) rfl
    rw [List.nil_append] at e1
    rw [if_neg c1, if_neg c1, if_pos (by omega), Int.toNat_natCast, show noptics_SagTable_l0_0 k c xs k (List.replicate xs.length ⟨0, 0⟩) 0 = _ from e1, show nspeculumref02_SagTable_l0_0 k c xs k [] 0 = _ from e2, Option.bind_some]
    cases ht : tblF c xs xs.length 0 [] with
    | inl e => exact ⟨_, rfl, rfl, by simp⟩
    | inr z => exact ⟨_, rfl, rfl, by have := tblF_len c xs _ _ _ _ ht; simp at this; show z.length < _; omega⟩
theorem first4 (k : Nat) (hk : 10 ≤ k) (a b c d : Int) : noptics_firstError k [a, b, c, d] = some (if a = 0 then if b = 0 then if c = 0 then d else c else b else a) := by
  obtain ⟨g, rfl⟩ : ∃ g, k = g + 5 := ⟨k - 5, by omega⟩
  unfold noptics_firstError
  rw [noptics_firstError_l0_0.eq_2, if_pos (by simp), if_pos (by simp)]
  by_cases ha : a = 0
  · rw [if_pos (show List.getD [a, b, c, d] ((0 : Int)).toNat 0 = 0 from ha), if_pos ha, show w64 (0 + 1) = 1 from by decide, noptics_firstError_l0_0.eq_2, if_pos (by simp), if_pos (by simp)]
    by_cases hb : b = 0
    · rw [if_pos (show List.getD [a, b, c, d] ((1 : Int)).toNat 0 = 0 from hb), if_pos hb, show w64 (1 + 1) = 2 from by decide, noptics_firstError_l0_0.eq_2, if_pos (by simp), if_pos (by simp)]
      by_cases hc : c = 0
      · rw [if_pos (show List.getD [a, b, c, d] ((2 : Int)).toNat 0 = 0 from hc), if_pos hc, show w64 (2 + 1) = 3 from by decide, noptics_firstError_l0_0.eq_2, if_pos (by simp), if_pos (by simp)]
        by_cases hd : d = 0
        · rw [if_pos (show List.getD [a, b, c, d] ((3 : Int)).toNat 0 = 0 from hd), hd, show w64 (3 + 1) = 4 from by decide, noptics_firstError_l0_0.eq_2, if_neg (by simp)]; rfl
        · rw [if_neg (show ¬ List.getD [a, b, c, d] ((3 : Int)).toNat 0 = 0 from hd)]; rfl
      · rw [if_neg (show ¬ List.getD [a, b, c, d] ((2 : Int)).toNat 0 = 0 from hc), if_neg hc]; rfl
    · rw [if_neg (show ¬ List.getD [a, b, c, d] ((1 : Int)).toNat 0 = 0 from hb), if_neg hb]; rfl
  · rw [if_neg (show ¬ List.getD [a, b, c, d] ((0 : Int)).toNat 0 = 0 from ha), if_neg ha]; rfl
theorem plE_cases (c : SConic) (r : Int) : plE c r = 0 ∨ plE c r = 12 ∨ plE c r = 2 := by
  unfold plE; split
  · split <;> simp
  · simp
theorem dep_opt (k : Nat) (hk : 100000000000000000000 ≤ k) {a b : SConic} (ha : IC a) (hb : IC b) (r : Int) : ∃ x, noptics_Departure k a b r = some x ∧ (conE a ≠ 0 → x = (⟨0, 0⟩, conE a)) ∧ (conE a = 0 → conE b ≠ 0 → x = (⟨0, 0⟩, conE b)) ∧
    (conE a = 0 → conE b = 0 → x = if plE a r = 0 then (if plE b r = 0 then (⟨w64 ((sagV a r).Lo - (sagV b r).Hi), w64 ((sagV a r).Hi - (sagV b r).Lo)⟩, 0) else (⟨0, 0⟩, plE b r)) else (⟨0, 0⟩, plE a r)) := by
  unfold noptics_Departure
  rw [sag_opt k hk ha, Option.bind_some, sag_opt k hk hb, Option.bind_some, conic_opt k hk ha, Option.bind_some, conic_opt k hk hb, Option.bind_some]
  unfold noptics_beside_api_Range_
  rw [first4 k (by omega), Option.bind_some]
  by_cases h1 : conE a = 0
  · by_cases h2 : conE b = 0
    · rw [if_pos h1, if_pos h2, if_pos h1, if_pos h2]
      by_cases p1 : plE a r = 0
      · by_cases p2 : plE b r = 0
        · rw [if_pos p1, if_pos p2, if_pos rfl, if_pos rfl]
          exact ⟨_, rfl, fun h => absurd h1 h, fun _ h => absurd h2 h, fun _ _ => by rw [if_pos p1, if_pos p2]⟩
        · rw [if_pos p1, if_neg p2, if_pos rfl, if_neg p2]
          exact ⟨_, rfl, fun h => absurd h1 h, fun _ h => absurd h2 h, fun _ _ => by rw [if_pos p1, if_neg p2]⟩
      · rw [if_neg p1, if_neg p1, if_neg p1]
        exact ⟨_, rfl, fun h => absurd h1 h, fun _ h => absurd h2 h, fun _ _ => by rw [if_neg p1]⟩
    · rw [if_pos h1, if_neg h2, if_neg h2]
      exact ⟨_, rfl, fun h => absurd h1 h, fun _ _ => rfl, fun _ h => absurd h h2⟩
  · rw [if_neg h1, if_neg h1]
    exact ⟨_, rfl, fun _ => rfl, fun h => absurd h h1, fun h => absurd h h1⟩
theorem dep_ref (k : Nat) (hk : 100000000000000000002 ≤ k) {a b : SConic} (ha : RC a) (hb : RC b) (r : Int) : nspeculumref02_Departure k a b r = some (if plE a r = 0 then (if plE b r = 0 then (⟨w64 ((sagV a r).Lo - (sagV b r).Hi), w64 ((sagV a r).Hi - (sagV b r).Lo)⟩, 0) else (⟨0, 0⟩, plE b r)) else (⟨0, 0⟩, plE a r)) := by
  unfold nspeculumref02_Departure
  rw [sag_ref k hk ha, Option.bind_some]
  by_cases p1 : plE a r = 0
  · rw [if_pos p1, if_pos rfl, sag_ref k hk hb, Option.bind_some, if_pos p1]
    by_cases p2 : plE b r = 0
    · rw [if_pos p2, if_pos rfl, if_pos p2]
    · rw [if_neg p2, if_neg p2, if_neg p2]
  · rw [if_neg p1, if_neg p1, if_neg p1]
theorem law_tables (a b : SConic) (ha : IC a) (hb : IC b) (xs : List Int) : nspeculumlaw02_OpticsTables big2 a b xs = some true := by
  unfold nspeculumlaw02_OpticsTables
  rw [awake_big2, Option.bind_some, if_pos rfl]
  by_cases hl : 50 < (xs.length : Int)
  · rw [if_pos hl]
  have hcp : nspeculumbase_CopyInts big2 xs = some xs := by
    unfold nspeculumbase_CopyInts
    rw [if_pos (by simp; omega), List.nil_append]
  rw [if_neg hl, hcp, Option.bind_some, conic_ref _ (by decide) ha]
  by_cases h1 : conE a = 0
  · obtain ⟨t, t1, t2, t3⟩ := tables_both big2 (by decide) ha h1 xs (by omega)
    rw [t1, Option.bind_some, Option.bind_some, if_pos h1, t2, Option.bind_some, if_pos rfl, ranges_any _ _ t3 (by decide), Option.bind_some, if_pos rfl, conic_ref _ (by decide) hb, Option.bind_some]
    have fin : ∀ r : Int, ((noptics_Departure big2 a b r).bind fun r2493 => (if conE b = 0 then ((nspeculumref02_Departure big2 a b r).bind fun r2498 => (if r2493.2 = r2498.2 then (some ((r2493.1.Lo : Int) == r2498.1.Lo && ((r2493.1.Hi : Int) == r2498.1.Hi && true))) else (some false))) else (if r2493.2 = conE b then (some ((r2493.1.Lo : Int) == 0 && ((r2493.1.Hi : Int) == 0 && true))) else (some false)))) = some true := fun r => by
      obtain ⟨x, x1, x2, x3, x4⟩ := dep_opt big2 (by decide) ha hb r
      rw [x1, Option.bind_some]
      by_cases h2 : conE b = 0
      · rw [if_pos h2, dep_ref _ (by decide) (RC.of h1) (RC.of h2), Option.bind_some, ← x4 h1 h2, if_pos rfl]; simp
      · rw [if_neg h2, x3 h1 h2, if_pos rfl]; simp
    by_cases h0 : 0 < (xs.length : Int)
    · rw [if_pos h0, if_pos ⟨by decide, h0⟩]; exact fin _
    · rw [if_neg h0]; exact fin _
  · have ht : noptics_SagTable big2 a xs = some ([], conE a) := by
      unfold noptics_SagTable
      rw [conic_opt _ (by decide) ha, Option.bind_some, if_neg h1]
    rw [ht, Option.bind_some, Option.bind_some, if_neg h1]
    dsimp only
    rw [if_pos rfl, if_pos (by simp)]
    have fin : ∀ r : Int, ((noptics_Departure big2 a b r).bind fun r2542 => (if r2542.2 = conE a then (some ((r2542.1.Lo : Int) == 0 && ((r2542.1.Hi : Int) == 0 && true))) else (some false))) = some true := fun r => by
      obtain ⟨x, x1, x2, x3, x4⟩ := dep_opt big2 (by decide) ha hb r
      rw [x1, Option.bind_some, x2 h1, if_pos rfl]; simp
    by_cases h0 : 0 < (xs.length : Int)
    · rw [if_pos h0, if_pos ⟨by decide, h0⟩]; exact fin _
    · rw [if_neg h0]; exact fin _
theorem vc_tables (a b : SConic) (xs : List Int) (ha : ((Vv.In64 a.Radius) ∧ ((Vv.In64 a.K.Num) ∧ (Vv.In64 a.K.Den)))) (hb : ((Vv.In64 b.Radius) ∧ ((Vv.In64 b.K.Num) ∧ (Vv.In64 b.K.Den)))) : VC Go.Proofs.Try.prog 5 [VV.ag (c_SConic a), VV.ag (c_SConic b), VV.tr (xs.map vi) xs.length] (vb true) := nspeculumlaw02_OpticsTables_ok _ _ _ _ _ (law_tables a b ⟨ha.1, ha.2.1, ha.2.2⟩ ⟨hb.1, hb.2.1, hb.2.2⟩ xs)
end Go.Proofs.Ytgaopkhkabbcfaa.Vg

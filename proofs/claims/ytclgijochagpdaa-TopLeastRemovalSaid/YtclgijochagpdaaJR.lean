import Derived.Test.YtclgijochagpdaaJQ
set_option linter.unusedVariables false
set_option linter.unusedSimpArgs false
namespace Go.Proofs.Ytclgijochagpdaa.Vg
open Go Go.Proofs.Ytclgijochagpdaa.Ev Go.Proofs.Ytclgijochagpdaa.Vv
def pr (m : SMeasured) (i : Nat) : A43 := m.Pairs.getD i default
def er (m : SMeasured) (i : Nat) : A43 := m.Errors.getD i default
def df (m : SMeasured) (i : Nat) : Int := gx m.Heights (pr m i).e1.toNat - gx m.Heights (pr m i).e0.toNat
def rdg (m : SMeasured) (part : Int) (i : Nat) : SHeightReading := ⟨(pr m i).e0, (pr m i).e1, ⟨df m i - (er m i).e0.tdiv part, df m i + (er m i).e1.tdiv part⟩⟩
def rds (m : SMeasured) (part : Int) (n : Nat) : List SHeightReading := (List.range n).map (rdg m part)
theorem rds_len (m : SMeasured) (part : Int) (n : Nat) : (rds m part n).length = n := by simp [rds]
def okP (m : SMeasured) (i : Nat) : Prop := (0 <= (pr m i).e0 /\ (pr m i).e0 < (m.Heights.length : Int)) /\ (0 <= (pr m i).e1 /\ (pr m i).e1 < (m.Heights.length : Int)) /\ (pr m i).e0 ≠ (pr m i).e1 /\ (0 <= (er m i).e0 /\ (er m i).e0 <= 100000) /\ 0 <= (er m i).e1 /\ (er m i).e1 <= 100000
structure V (m : SMeasured) : Prop where
 n : 1 <= m.Heights.length /\ m.Heights.length <= 8
 np : m.Pairs.length <= 12
 ne : m.Errors.length = m.Pairs.length
 h : ∀ j, j < m.Heights.length -> -100000 <= gx m.Heights j /\ gx m.Heights j <= 100000
 p : ∀ i, i < m.Pairs.length -> okP m i
section
variable {k : Nat} {m : SMeasured} {part : Int}
theorem heights_l (m : SMeasured) (part : Int) (hn : m.Heights.length <= 8) : ∀ (d fuel i : Nat), m.Heights.length = i + d -> d < fuel -> ∃ r, n_speculumtop_Measured_readings_l0_0 k m part fuel (i : Int) = some r /\ (r = .inl () \/ r = .inr () /\ ∀ j, i <= j -> j < m.Heights.length -> -100000 <= gx m.Heights j /\ gx m.Heights j <= 100000) := by
 intro d
 induction d with
 | zero =>
   intro fuel i he hf
   obtain ⟨f, rfl⟩ : ∃ f, fuel = f + 1 := ⟨fuel - 1, by omega⟩
   exact ⟨_, by rw [n_speculumtop_Measured_readings_l0_0.eq_2, if_neg (by omega)], .inr ⟨rfl, fun j h1 h2 => by omega⟩⟩
 | succ d ih =>
   intro fuel i he hf
   obtain ⟨f, rfl⟩ : ∃ f, fuel = f + 1 := ⟨fuel - 1, by omega⟩
   rw [n_speculumtop_Measured_readings_l0_0.eq_2, if_pos (by omega), if_pos (by omega), within_base, Option.bind_some, Int.toNat_natCast]
   by_cases c : inR (-100000) 100000 (m.Heights.getD i 0) = true
   ·rw [if_pos c, w64_succ (by omega)]
    obtain ⟨r, e1, e2⟩ := ih f (i + 1) (by omega) (by omega)
    refine ⟨r, e1, ?_⟩
    rcases e2 with e2 | ⟨e2, e3⟩
    ·exact .inl e2
    ·refine .inr ⟨e2, fun j h1 h2 => ?_⟩
     by_cases e : j = i
     ·rw [e]; exact inR_t.1 c
     ·exact e3 j (by omega) h2
   ·rw [if_neg c]; exact ⟨_, rfl, .inl rfl⟩
theorem tdiv_bd {e : Int} (he : 0 <= e /\ e <= 100000) (hp : part = 1 \/ part = 2) : 0 <= e.tdiv part /\ e.tdiv part <= e := by
 have h1 : 0 <= e.tdiv part := Int.tdiv_nonneg he.1 (by omega)
 have h2 : (e.tdiv part).natAbs <= e.natAbs := by rw [Int.natAbs_tdiv]; exact Nat.div_le_self _ _
 omega
theorem pairs_l (hp : part = 1 \/ part = 2) (hn : m.Heights.length <= 8) (hne : m.Errors.length = m.Pairs.length) (hnp : m.Pairs.length <= 12) (hh : ∀ j, j < m.Heights.length -> -100000 <= gx m.Heights j /\ gx m.Heights j <= 100000) :
 ∀ (d fuel i : Nat), m.Pairs.length = i + d -> d < fuel -> ∃ r, n_speculumtop_Measured_readings_l1_0 k m part fuel (rds m part i) (i : Int) = some r /\ (r = .inl () \/ r = .inr (rds m part m.Pairs.length) /\ ∀ j, i <= j -> j < m.Pairs.length -> okP m j) := by
 intro d
 induction d with
 | zero =>
   intro fuel i he hf
   obtain ⟨f, rfl⟩ : ∃ f, fuel = f + 1 := ⟨fuel - 1, by omega⟩
   exact ⟨_, by rw [n_speculumtop_Measured_readings_l1_0.eq_2, if_neg (by omega)], .inr ⟨by rw [show m.Pairs.length = i by omega], fun j h1 h2 => by omega⟩⟩
 | succ d ih =>
   intro fuel i he hf
   obtain ⟨f, rfl⟩ : ∃ f, fuel = f + 1 := ⟨fuel - 1, by omega⟩
   rw [n_speculumtop_Measured_readings_l1_0.eq_2, if_pos (by omega), if_pos (by omega), if_pos (show 0 <= (i : Int) /\ (i : Int) < (m.Errors.length : Int) by omega), within_base, within_base, within_base, within_base, Int.toNat_natCast, Option.bind_some, Option.bind_some, Option.bind_some, Option.bind_some]
   rw [show m.Pairs.getD i default = pr m i from rfl, show m.Errors.getD i default = er m i from rfl]
   by_cases c1 : inR 0 (w64 ((m.Heights.length : Int) - 1)) (pr m i).e0 = true
   case neg => rw [if_neg c1]; exact ⟨_, rfl, .inl rfl⟩
   rw [if_pos c1]
   by_cases c2 : inR 0 (w64 ((m.Heights.length : Int) - 1)) (pr m i).e1 = true
   case neg => rw [if_neg c2]; exact ⟨_, rfl, .inl rfl⟩
   rw [if_pos c2]
   by_cases c3 : (pr m i).e0 = (pr m i).e1
   ·rw [if_pos c3]; exact ⟨_, rfl, .inl rfl⟩
   rw [if_neg c3]
   by_cases c4 : inR 0 100000 (er m i).e0 = true
   case neg => rw [if_neg c4]; exact ⟨_, rfl, .inl rfl⟩
   rw [if_pos c4]
   by_cases c5 : inR 0 100000 (er m i).e1 = true
   case neg => rw [if_neg c5]; exact ⟨_, rfl, .inl rfl⟩
   rw [if_pos c5]
   rw [w64_id (n := (m.Heights.length : Int) - 1) (by omega) (by omega), inR_t] at c1 c2
   rw [inR_t] at c4 c5
   have g1 := hh (pr m i).e1.toNat (by omega)
   have g0 := hh (pr m i).e0.toNat (by omega)
   have t0 := tdiv_bd c4 hp
   have t1 := tdiv_bd c5 hp
   rw [if_pos (show 0 <= (pr m i).e1 /\ (pr m i).e1 < (m.Heights.length : Int) by omega), if_pos (show 0 <= (pr m i).e0 /\ (pr m i).e0 < (m.Heights.length : Int) by omega), if_pos (show part ≠ 0 by omega), if_pos (by rw [rds_len]; simp; omega)]
   rw [show m.Heights.getD (pr m i).e1.toNat 0 = gx m.Heights (pr m i).e1.toNat from rfl, show m.Heights.getD (pr m i).e0.toNat 0 = gx m.Heights (pr m i).e0.toNat from rfl]
   rw [w64_id (n := gx m.Heights (pr m i).e1.toNat - gx m.Heights (pr m i).e0.toNat) (by omega) (by omega), w64_id (n := (er m i).e0.tdiv part) (by omega) (by omega), w64_id (n := (er m i).e1.tdiv part) (by omega) (by omega), w64_id (n := gx m.Heights (pr m i).e1.toNat - gx m.Heights (pr m i).e0.toNat - (er m i).e0.tdiv part) (by omega) (by omega), w64_id (n := gx m.Heights (pr m i).e1.toNat - gx m.Heights (pr m i).e0.toNat + (er m i).e1.tdiv part) (by omega) (by omega), w64_succ (by omega)]
   have ea : rds m part i ++ [rdg m part i] = rds m part (i + 1) := by simp [rds, List.range_succ]
   obtain ⟨r, e1, e2⟩ := ih f (i + 1) (by omega) (by omega)
   rw [<- ea] at e1
   refine ⟨r, e1, ?_⟩
   rcases e2 with e2 | ⟨e2, e3⟩
   ·exact .inl e2
   ·refine .inr ⟨e2, fun j h1 h2 => ?_⟩
    by_cases e : j = i
    ·rw [e]; exact ⟨by omega, by omega, c3, c4, c5⟩
    ·exact e3 j (by omega) h2
theorem readings_p (hk : 2000 < k) (m : SMeasured) (hp : part = 1 \/ part = 2) : ∃ r, n_speculumtop_Measured_readings k m part = some r /\ (r.2 = false \/ r = (rds m part m.Pairs.length, true) /\ V m) := by
 unfold n_speculumtop_Measured_readings
 rw [within_base, Option.bind_some]
 by_cases c1 : inR 1 8 (m.Heights.length : Int) = true
 case neg => rw [if_neg c1]; exact ⟨_, rfl, .inl rfl⟩
 rw [if_pos c1]
 rw [inR_t] at c1
 by_cases c2 : 12 < (m.Pairs.length : Int)
 ·rw [if_pos c2]; exact ⟨_, rfl, .inl rfl⟩
 rw [if_neg c2]
 by_cases c3 : (m.Errors.length : Int) = (m.Pairs.length : Int)
 case neg => rw [if_neg c3]; exact ⟨_, rfl, .inl rfl⟩
 rw [if_pos c3]
 obtain ⟨r, e1, e2⟩ := heights_l (k := k) m part (by omega) m.Heights.length k 0 (by omega) (by omega)
 rw [show n_speculumtop_Measured_readings_l0_0 k m part k 0 = _ from e1, Option.bind_some]
 rcases e2 with rfl | ⟨rfl, hh⟩
 ·exact ⟨_, rfl, .inl rfl⟩
 obtain ⟨r, e3, e4⟩ := pairs_l (k := k) (m := m) hp (by omega) (by omega) (by omega) (fun j hj => hh j (by omega) hj) m.Pairs.length k 0 (by omega) (by omega)
 have e3' : n_speculumtop_Measured_readings_l1_0 k m part k ([] : List SHeightReading) 0 = some r := e3
 dsimp only
 rw [e3', Option.bind_some]
 rcases e4 with rfl | ⟨rfl, hp⟩
 ·exact ⟨_, rfl, .inl rfl⟩
 ·exact ⟨_, rfl, .inr ⟨rfl, ⟨by omega, by omega, by omega, fun j hj => hh j (by omega) hj, fun i hi => hp i (by omega) hi⟩⟩⟩
theorem firstE_all {α : Type} {f : α -> Int} : ∀ {l : List α}, (∀ x, x ∈ l -> f x = 0) -> firstE f l = 0
 | [], _ => rfl
 | x :: l, h => by rw [firstE, if_pos (h x (by simp))]; exact firstE_all (fun y hy => h y (by simp [hy]))
theorem rds_mem {r : SHeightReading} {n : Nat} (h : r ∈ rds m part n) : ∃ i, i < n /\ r = rdg m part i := by
 obtain ⟨i, h1, h2⟩ := List.mem_map.1 h
 exact ⟨i, List.mem_range.1 h1, h2.symm⟩
theorem rds_chk (v : V m) (hp : part = 1 \/ part = 2) : chkE (m.Heights.length : Int) (rds m part m.Pairs.length) = 0 := by
 have hn := v.n
 have hnp := v.np
 unfold chkE
 rw [if_pos (inR_t.2 (by omega)), if_neg (by rw [rds_len]; omega)]
 refine firstE_all fun r hr => ?_
 obtain ⟨i, hi, rfl⟩ := rds_mem hr
 obtain ⟨p1, p2, p3, p4, p5⟩ := v.p i hi
 have g1 := v.h (pr m i).e1.toNat (by omega)
 have g0 := v.h (pr m i).e0.toNat (by omega)
 have t0 := tdiv_bd p4 hp
 have t1 := tdiv_bd p5 hp
 unfold rdE
 rw [if_pos (by rw [Bool.and_eq_true, inR_t, inR_t]; show (0 <= (pr m i).e0 /\ (pr m i).e0 <= _) /\ 0 <= (pr m i).e1 /\ (pr m i).e1 <= _; omega), if_neg (show ¬ (rdg m part i).From = (rdg m part i).To from p3), if_pos (by
  rw [Bool.and_eq_true, inR_t, inR_t]
  show (_ <= df m i - (er m i).e0.tdiv part /\ df m i - (er m i).e0.tdiv part <= _) /\ _ <= df m i + (er m i).e1.tdiv part /\ df m i + (er m i).e1.tdiv part <= _
  unfold df; omega), if_neg (show ¬ (rdg m part i).Diff.Hi < (rdg m part i).Diff.Lo from (show ¬ df m i + (er m i).e1.tdiv part < df m i - (er m i).e0.tdiv part by omega))]
theorem rds_keep (v : V m) (hp : part = 1 \/ part = 2) : ∀ r ∈ rds m part m.Pairs.length, keep m.Heights r = true := by
 intro r hr
 obtain ⟨i, hi, rfl⟩ := rds_mem hr
 obtain ⟨p1, p2, p3, p4, p5⟩ := v.p i hi
 have t0 := tdiv_bd p4 hp
 have t1 := tdiv_bd p5 hp
 refine inR_t.2 ?_
 show df m i - (er m i).e0.tdiv part <= df m i /\ df m i <= df m i + (er m i).e1.tdiv part
 omega
end
end Go.Proofs.Ytclgijochagpdaa.Vg

/- Walks: changes of signs in Sturm's chain; roots between fractions. -/
import Derived.Test.YtdlddfmodbcnmaaW17
set_option linter.unusedVariables false
set_option linter.unusedSimpArgs false
namespace Go.Proofs.Ytdlddfmodbcnmaa
open Go.RowKit

theorem cmpI_bd (a b : Int) : -1 ≤ cmpI a b ∧ cmpI a b ≤ 1 := by unfold cmpI; split <;> (try split) <;> omega
theorem sgBehind_bd (N D : Int) : ∀ (n : Nat) (z : Row), -1 ≤ sgBehind N D n z ∧ sgBehind N D n z ≤ 1
  | 0, _ => by show -1 ≤ (0 : Int) ∧ (0 : Int) ≤ 1; omega
  | n + 1, z => by
    unfold sgBehind
    split
    · exact cmpI_bd _ _
    · exact sgBehind_bd N D n (dRow z)

/-- A list of polynomials in memory. -/
def ST (w : World) (A : Option Addr) (l : List (Nat × Row)) (L : Nat) : Prop :=
  0 < l.length → ∃ g, A = some ⟨g, 0, none⟩ ∧ g < w.heap.size ∧ ∀ i p, l[i]? = some p → ∃ Ai ci, w.cell? ⟨g, i, none⟩ = some (.slice Ai p.1 ci) ∧ PA w Ai p.1 p.2 L ∧ p.1 ≤ 100
theorem ST.below {w w' : World} {A : Option Addr} {l : List (Nat × Row)} {L B : Nat} (h : ST w A l L) (hB : w.heap.size ≤ B) (hb : Below B w w') : ST w' A l L := fun hl => by
  obtain ⟨g, e, hg, hi⟩ := h hl
  refine ⟨g, e, Nat.lt_of_lt_of_le hg hb.size, fun i p hp => ?_⟩
  obtain ⟨Ai, ci, h1, h2, h3⟩ := hi i p hp
  exact ⟨Ai, ci, (hb.cell (p := ⟨g, i, none⟩) (by show g < B; omega)).trans h1, h2.below hB hb, h3⟩

def chgL (N D : Int) (l : List (Nat × Row)) : Int × Int := l.foldl (chgStep N D) (0, 0)
theorem chgL_snoc (N D : Int) (l : List (Nat × Row)) (p : Nat × Row) : chgL N D (l ++ [p]) = chgStep N D (chgL N D l) p := by simp [chgL]
theorem chg_bd (N D : Int) : ∀ (l : List (Nat × Row)) (s : Int × Int), -1 ≤ s.2 → s.2 ≤ 1 → s.1 ≤ (l.foldl (chgStep N D) s).1 ∧ (l.foldl (chgStep N D) s).1 ≤ s.1 + l.length ∧ -1 ≤ (l.foldl (chgStep N D) s).2 ∧ (l.foldl (chgStep N D) s).2 ≤ 1
  | [], s, h1, h2 => by simp only [List.foldl_nil, List.length_nil]; omega
  | p :: l, s, h1, h2 => by
    obtain ⟨b1, b2⟩ := sgBehind_bd N D p.1 p.2
    have h := chg_bd N D l (chgStep N D s p) b1 b2
    have e : s.1 ≤ (chgStep N D s p).1 ∧ (chgStep N D s p).1 ≤ s.1 + 1 := by unfold chgStep; dsimp only; split <;> omega
    simp only [List.foldl_cons, List.length_cons]
    omega
theorem chgL_bd (N D : Int) (l : List (Nat × Row)) : 0 ≤ (chgL N D l).1 ∧ (chgL N D l).1 ≤ l.length ∧ -1 ≤ (chgL N D l).2 ∧ (chgL N D l).2 ≤ 1 := by
  have := chg_bd N D l (0, 0) (by decide) (by decide)
  unfold chgL
  simpa using this

set_option maxRecDepth 100000 in
set_option maxHeartbeats 1000000 in
theorem changesBehind_any (A : Option Addr) (l : List (Nat × Row)) (n c : Nat) (L : Nat) (N D : Int) (w : World) (hA : ST w A l L) (hl : l.length = n) (hn : n ≤ 1000) (hL : L ≤ 999999800) (hN : I64 N) (hD : I64 D) :
    Calls Try.prog 134 #[.slice A n c, .int .i64 N, .int .i64 D] w fun e w' => e = .returned (.int .i64 (chgR N D l)) ∧ Below w.heap.size w w' := by
  have HL := Lib.hid hl
  clear hl
  go_enter Try.func134, Try.ntmps134
  go_wp2
  go_loopw [7, 8, 14] (fun ch bf i wr => ∃ k : Nat, k ≤ n ∧ i = .int .i64 k ∧ ch = .int .i64 (chgL N D (l.take k)).1 ∧ bf = .int .i64 (chgL N D (l.take k)).2 ∧ Below w.heap.size w wr) (fun _ _ i _ => n - (intOf i).toNat)
  case atStart => exact ⟨0, by omega, rfl, rfl, rfl, Below.refl _ _⟩
  case round =>
    obtain ⟨k, hk, rfl, rfl, rfl, hB⟩ := hrel
    by_cases hlt : k < n
    · have hlt' : (k : Int) < n := by omega
      obtain ⟨g, rfl, hg, hi⟩ := (hA.below (Nat.le_refl _) hB) (by rw [HL.out]; omega)
      obtain ⟨p, hp⟩ : ∃ p, l[k]? = some p := ⟨_, List.getElem?_eq_getElem (by rw [HL.out]; exact hlt)⟩
      obtain ⟨Ai, ci, c0, hPA, hpn⟩ := hi k p hp
      have HT := Lib.hid (show chgL N D (l.take (k + 1)) = chgStep N D (chgL N D (l.take k)) p by rw [List.take_add_one, hp, Option.toList_some, chgL_snoc])
      have hbd := chgL_bd N D (l.take k)
      have hlen : ((l.take k).length : Int) ≤ 1000 := by rw [List.length_take]; omega
      have hsb := sgBehind_bd N D p.1 p.2
      obtain ⟨pn, pz⟩ := p
      dsimp only at *
      clear hi hp
      generalize hcc : chgL N D (l.take k) = cc at *
      clear hcc
      have hmul := mul_bd (x := cc.2) (y := sgBehind N D pn pz) (A := 1) (B := 1) (by omega) (by omega) (by omega) (by omega)
      obtain ⟨h1, h2, h3, h4⟩ := hbd
      by_cases hneg : cc.2 * sgBehind N D pn pz < 0
      · have HS := Lib.hid (show chgStep N D cc (pn, pz) = (cc.1 + 1, sgBehind N D pn pz) by unfold chgStep; rw [if_pos hneg])
        go_wp2_with (go_at_call 148; refine (signBehind_any Ai pn ci pz L N D _ hPA hpn hL hN hD).mono ?_; rintro e w1 ⟨rfl, B1⟩)
        go_roundw
        case rel => exact ⟨k + 1, by omega, by go_num, by rw [HT.out, HS.out], by rw [HT.out, HS.out], hB.trans (B1.mono hB.size)⟩
        case measure => simp [intOf]; omega
      · have HS := Lib.hid (show chgStep N D cc (pn, pz) = (cc.1, sgBehind N D pn pz) by unfold chgStep; rw [if_neg hneg])
        go_wp2_with (go_at_call 148; refine (signBehind_any Ai pn ci pz L N D _ hPA hpn hL hN hD).mono ?_; rintro e w1 ⟨rfl, B1⟩)
        go_roundw
        case rel => exact ⟨k + 1, by omega, by go_num, by rw [HT.out, HS.out], by rw [HT.out, HS.out], hB.trans (B1.mono hB.size)⟩
        case measure => simp [intOf]; omega
    · obtain rfl : k = n := by omega
      go_wp2
      go_ret
      exact ⟨ret_int (by rw [List.take_of_length_le (by rw [HL.out]; omega)]; rfl), hB⟩

end Go.Proofs.Ytdlddfmodbcnmaa

/- Walks: the reference's error of a polynomial; equal lists of ints. -/
import Derived.Test.YtfnmnnbmhfbkbaaP1
set_option linter.unusedVariables false
set_option linter.unusedSimpArgs false
namespace Go.Proofs.Ytfnmnnbmhfbkbaa
open Go.RowKit

theorem wtB_yes {n lo hi : Int} (h1 : lo ≤ n) (h2 : n ≤ hi) : wtB n lo hi = true := by unfold wtB; simp [h1, h2]
theorem wtB_no {n lo hi : Int} (h : n < lo ∨ hi < n) : wtB n lo hi = false := by
  unfold wtB
  rcases h with h | h
  · have : ¬ lo ≤ n := by omega
    simp [this]
  · have : ¬ n ≤ hi := by omega
    simp [this]

set_option maxRecDepth 100000 in
set_option maxHeartbeats 2000000 in
theorem checkPolyR_any (A : Option Addr) (n c : Nat) (p : Row) (w : World) (hA : IS w A n p) (hn : n ≤ 1000000) :
    Calls Try.prog 66 #[.slice A n c] w fun e w' => e = .returned (.int .i64 (ckP n p)) ∧ w = w' := by
  by_cases h1 : n < 1 ∨ 7 < n
  · have HR := Bx.mk (show ckP n p = 10 by unfold ckP; rw [if_pos h1])
    have HW := Bx.mk (show wtB n 1 7 = false from wtB_no (by omega))
    go_enter Try.func66, Try.ntmps66
    go_wp2_with (go_at_call 35; refine (within_any n 1 7 _).mono ?_; rw [HW.out]; rintro e wx ⟨rfl, rfl⟩)
    go_ret
    exact ⟨ret_int HR.out.symm, rfl⟩
  · have HR := Bx.mk (show ckP n p = if okP p n = false then 2 else if p (n - 1) = 0 then 3 else 0 by unfold ckP; rw [if_neg h1])
    have HW := Bx.mk (show wtB n 1 7 = true from wtB_yes (by omega) (by omega))
    obtain ⟨b, off, rfl, hb, hc⟩ := hA.2 (by omega)
    have hI := hA.1
    have n1 : 1 ≤ n := by omega
    have n7 : n ≤ 7 := by omega
    clear h1
    go_enter Try.func66, Try.ntmps66
    go_wp2_with (go_at_call 35; refine (within_any n 1 7 _).mono ?_; rw [HW.out]; rintro e wx ⟨rfl, rfl⟩)
    go_loop [2, 3] (fun r i => ∃ k : Nat, k ≤ n ∧ i = .int .i64 k ∧ r = .int .i64 0 ∧ Bx (okP p k = true)) (fun _ i => n - (intOf i).toNat)
    case atStart => exact ⟨0, by omega, rfl, rfl, ⟨rfl⟩⟩
    case round =>
      obtain ⟨k, hk, rfl, rfl, HK⟩ := hrel
      by_cases hlt : k < n
      · have hlt' : (k : Int) < n := by omega
        have hcx := hc k hlt
        by_cases hs : sz (p k) ≤ 1000000
        · have HV := Bx.mk (show wtB (p k) (-1000000) 1000000 = true from wtB_yes (by unfold sz at hs; omega) (by unfold sz at hs; omega))
          have HO := Bx.mk (show okP p (k + 1) = true by unfold okP; rw [HK.out]; simpa using hs)
          clear hs
          go_wp2_with (go_at_call 35; refine (within_any _ (-1000000) 1000000 _).mono ?_; rw [HV.out]; rintro e wx ⟨rfl, rfl⟩)
          go_round
          case rel => exact ⟨k + 1, by omega, by go_num, rfl, HO⟩
          case measure => simp [intOf]; omega
        · have HV := Bx.mk (show wtB (p k) (-1000000) 1000000 = false from wtB_no (by unfold sz at hs; omega))
          have HO := Bx.mk (okP_not hlt hs)
          clear hs
          go_wp2_with (go_at_call 35; refine (within_any _ (-1000000) 1000000 _).mono ?_; rw [HV.out]; rintro e wx ⟨rfl, rfl⟩)
          go_ret
          exact ⟨ret_int (by rw [HR.out, if_pos HO.out]), rfl⟩
      · obtain rfl : k = n := by omega
        have hcx := hc (k - 1) (by omega)
        have hidx : ((k : Int) - 1).toNat = k - 1 := by omega
        by_cases hz : p (k - 1) = 0
        · have HZ := Bx.mk (show ckP k p = 3 by rw [HR.out, if_neg (by rw [HK.out]; simp), if_pos hz])
          rw [hz] at hcx
          clear hz
          go_wp2
          go_ret
          exact ⟨ret_int HZ.out.symm, rfl⟩
        · have HZ := Bx.mk (show ckP k p = 0 by rw [HR.out, if_neg (by rw [HK.out]; simp), if_neg hz])
          have hz' : (p (k - 1) == 0) = false := by simpa using hz
          clear hz
          go_wp2
          go_ret
          exact ⟨ret_int HZ.out.symm, rfl⟩

/-- The first n are the same. -/
def eqR (p q : Row) : Nat → Bool
  | 0 => true
  | k + 1 => eqR p q k && (p k == q k)
theorem eqR_not {p q : Row} {k : Nat} (h : ¬ p k = q k) : ∀ {n : Nat}, k < n → eqR p q n = false
  | 0, hk => by omega
  | n + 1, hk => by
    unfold eqR
    rcases Nat.eq_or_lt_of_le (Nat.le_of_lt_succ hk) with e | e
    · subst e; rw [show (p k == q k) = false by simpa using h]; simp
    · rw [eqR_not h e]; rfl
def eqL (n : Nat) (p : Row) (m : Nat) (q : Row) : Bool := n == m && eqR p q n

set_option maxRecDepth 100000 in
set_option maxHeartbeats 2000000 in
theorem ints_any (A B : Option Addr) (n c m d : Nat) (p q : Row) (w : World) (hA : IS w A n p) (hB : IS w B m q) (hn : n ≤ 1000000) (hm : m ≤ 1000000) :
    Calls Try.prog 69 #[.slice A n c, .slice B m d] w fun e w' => e = .returned (.bool (eqL n p m q)) ∧ ∃ k, w' = w.drewN k := by
  by_cases h1 : n = m
  · subst h1
    have HR := Bx.mk (show eqL n p n q = eqR p q n by unfold eqL; simp)
    go_enter Try.func69, Try.ntmps69
    go_wp2
    go_loopw [4, 5] (fun r i wr => ∃ k : Nat, k ≤ n ∧ i = .int .i64 k ∧ r = .bool false ∧ Bx (eqR p q k = true) ∧ ∃ j, wr = w.drewN j) (fun _ i _ => n - (intOf i).toNat)
    case atStart => exact ⟨0, by omega, rfl, rfl, ⟨rfl⟩, 0, rfl⟩
    case round =>
      obtain ⟨k, hk, rfl, rfl, HK, j, rfl⟩ := hrel
      by_cases hlt : k < n
      · have hlt' : (k : Int) < n := by omega
        obtain ⟨b, off, rfl, hb, hc⟩ := hA.2 (by omega)
        obtain ⟨b2, off2, rfl, hb2, hc2⟩ := hB.2 (by omega)
        have hcx := hc k hlt
        have hcy := hc2 k hlt
        clear hc hc2
        have hk0 : (0 : Int) ≤ k := by omega
        by_cases hs : p k = q k
        · have HO := Bx.mk (show eqR p q (k + 1) = true by unfold eqR; rw [HK.out]; simpa using hs)
          have hs' : (p k != q k) = false := by simpa using hs
          clear hs
          go_wp2
          go_quiet (fail)
          go_wp2
          go_roundw
          case rel => exact ⟨k + 1, by omega, by go_num, rfl, HO, by first | exact ⟨_, rfl⟩ | exact ⟨_, World.drewN_drewN _ _ _⟩⟩
          case measure => simp [intOf]; omega
        · have HO := Bx.mk (eqR_not hs hlt)
          have hs' : (p k != q k) = true := by simpa using hs
          clear hs
          go_wp2
          go_quiet (fail)
          go_wp2
          go_ret
          exact ⟨ret_bool (by rw [HR.out, HO.out]), by first | exact ⟨_, rfl⟩ | exact ⟨_, World.drewN_drewN _ _ _⟩⟩
      · obtain rfl : k = n := by omega
        go_wp2
        go_ret
        exact ⟨ret_bool (by rw [HR.out, HK.out]), _, rfl⟩
  · have HR := Bx.mk (show eqL n p m q = false by unfold eqL; simp [h1])
    have h1' : ((n : Int) != m) = true := by simp; omega
    go_enter Try.func69, Try.ntmps69
    go_wp2
    go_ret
    exact ⟨ret_bool HR.out.symm, 0, rfl⟩

end Go.Proofs.Ytfnmnnbmhfbkbaa

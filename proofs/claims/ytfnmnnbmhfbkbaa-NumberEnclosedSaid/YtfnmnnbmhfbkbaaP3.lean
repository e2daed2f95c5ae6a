/- Walks: the derivative of a polynomial. -/
import Derived.Test.YtfnmnnbmhfbkbaaP2
set_option linter.unusedVariables false
set_option linter.unusedSimpArgs false
namespace Go.Proofs.Ytfnmnnbmhfbkbaa
open Go.RowKit

/-- The coefficients of the derivative. -/
def dvR (p : Row) : Row := fun i => ((i : Int) + 1) * p (i + 1)
/-- Its length and the error, if the polynomial is right. -/
def derO (n : Nat) (p : Row) : Nat × Int := if n = 1 then (0, 11) else if ckP (n - 1) (dvR p) ≠ 0 then (0, 8) else (n - 1, 0)
def derN (n : Nat) (p : Row) : Nat × Int := if ckP n p ≠ 0 then (0, ckP n p) else derO n p
theorem ckP_zeroB {n : Nat} {p : Row} (h : ckP n p = 0) : 1 ≤ n ∧ n ≤ 7 ∧ ∀ i, i < n → -1000000 ≤ p i ∧ p i ≤ 1000000 := by
  unfold ckP at h
  split at h
  · omega
  · split at h
    · omega
    · rename_i h1 h2
      refine ⟨by omega, by omega, fun i hi => ?_⟩
      have := okP_all (p := p) (n := n) (by simpa using h2) i hi
      unfold sz at this; omega
theorem dvR_bd {n : Nat} {p : Row} (h : ckP n p = 0) {i : Nat} (hi : i + 1 < n) : -6000000 ≤ ((i : Int) + 1) * p (i + 1) ∧ ((i : Int) + 1) * p (i + 1) ≤ 6000000 := by
  obtain ⟨_, h7, hp⟩ := ckP_zeroB h
  obtain ⟨a, b⟩ := hp (i + 1) hi
  have := mul_bd (x := (i : Int) + 1) (y := p (i + 1)) (A := 6) (B := 1000000) (by omega) (by omega) a b
  omega

set_option maxHeartbeats 1000000 in
theorem validPoly_ok (A : Option Addr) (n c : Nat) (p : Row) (w : World) (hA : IS w A n p) (hn : n ≤ 1000000) (h : ckP n p = 0) :
    Calls Try.prog 104 #[.slice A n c] w fun e w' => e = .returned (.tuple #[.slice A n c, .int .i64 0]) ∧ Below w.heap.size w w' := by
  have HE := Bx.mk h
  clear h
  go_enter Try.func104, Try.ntmps104
  go_wp2_with (go_at_call 67; refine (checkPoly_any A n c p _ hA hn).mono ?_; rw [HE.out]; rintro e w1 ⟨rfl, B1⟩)
  go_ret2
  exact ⟨rfl, B1⟩
set_option maxHeartbeats 1000000 in
theorem validPoly_no (A : Option Addr) (n c : Nat) (p : Row) (w : World) (hA : IS w A n p) (hn : n ≤ 1000000) (h : ckP n p ≠ 0) :
    Calls Try.prog 104 #[.slice A n c] w fun e w' => e = .returned (.tuple #[.slice none 0 0, .int .i64 8]) ∧ Below w.heap.size w w' := by
  have HE := Bx.mk h
  have hE : (ckP n p != 0) = true := by simpa using h
  clear h
  go_enter Try.func104, Try.ntmps104
  go_wp2_with (go_at_call 67; refine (checkPoly_any A n c p _ hA hn).mono ?_; rintro e w1 ⟨rfl, B1⟩)
  go_ret2
  exact ⟨rfl, B1⟩

set_option maxRecDepth 100000 in
set_option maxHeartbeats 4000000 in
theorem pDerivative_any (A : Option Addr) (n c : Nat) (p : Row) (w : World) (hA : IS w A n p) (hn : n ≤ 1000000) :
    Calls Try.prog 64 #[.slice A n c] w fun e w' => ∃ D d, e = .returned (.tuple #[.slice D (derN n p).1 d, .int .i64 (derN n p).2]) ∧ IS w' D (derN n p).1 (dvR p) ∧ Below w.heap.size w w' := by
  by_cases h0 : ckP n p = 0
  · obtain ⟨n1, n7, hp⟩ := ckP_zeroB h0
    have HN := Bx.mk (show derN n p = derO n p by unfold derN; rw [if_neg (by simpa using h0)])
    have HZ := Bx.mk h0
    have hbd := Bx.mk (fun (i : Nat) (hi : i + 1 < n) => dvR_bd h0 hi)
    clear h0
    by_cases h1 : n = 1
    · subst h1
      have HO := Bx.mk (show derO 1 p = (0, 11) by unfold derO; rw [if_pos rfl])
      go_enter Try.func64, Try.ntmps64
      go_wp2_with (go_at_call 67; refine (checkPoly_any A 1 c p _ hA hn).mono ?_; rw [HZ.out]; rintro e w1 ⟨rfl, B1⟩)
      go_ret2
      exact ⟨none, 0, by rw [HN.out, HO.out]; rfl, by rw [HN.out, HO.out]; exact ⟨fun i hi => by omega, fun h => by omega⟩, B1⟩
    · have h1' : ((n : Int) == 1) = false := by simp; omega
      obtain ⟨b, off, rfl, hb, hc⟩ := hA.2 (by omega)
      have HC := Bx.mk hc
      obtain ⟨m, rfl⟩ : ∃ m, n = m + 1 := ⟨n - 1, by omega⟩
      have em : ((m + 1 : Nat) : Int) - 1 = (m : Int) := by omega
      have hmk := run_make_row' (P := Try.prog) 63 3 (.int .i64 0) 8 Try.underlying63 info_intc rfl .i64 .i64 m (by omega) (by omega)
      clear hc hp
      go_enter Try.func64, Try.ntmps64
      go_wp2_with (go_at_call 67; refine (checkPoly_any _ (m + 1) c p _ hA hn).mono ?_; rw [HZ.out]; rintro e w1 ⟨rfl, B1⟩)
      have hrow := World.rowIs_made w1 (.int .i64 0) m 3
      generalize hW : w1.alloc (.cells (madeCells #[.int .i64 0] m) 3) = W0 at *
      have hB0 : Below w.heap.size w W0 := by rw [← hW]; exact B1.alloc B1.size _
      have hg0 : w.heap.size ≤ w1.heap.size := B1.size
      have hW0 := Bx.mk hW
      clear hW
      go_loopw [21] (fun i wr => ∃ (k : Nat) (s : Row), k ≤ m ∧ i = .int .i64 k ∧ Bx (∀ j, j < k → s j = dvR p j) ∧ Bx (wr.rowIs w1.heap.size 3 m (fun j => .int .i64 (s j))) ∧ Below w.heap.size w wr) (fun i _ => m - (intOf i).toNat)
      case atStart => exact ⟨0, fun _ => 0, by omega, rfl, ⟨fun j hj => by omega⟩, ⟨hrow⟩, hB0⟩
      case round =>
        obtain ⟨k, s, hk, rfl, HS, HR, hB⟩ := hrel
        clear hrow hB0 hmk
        by_cases hlt : k < m
        · have hlt' : (k : Int) < m := by omega
          have hcx := (hB.cell (p := ⟨b, off + (k + 1), none⟩) hb).trans (HC.out (k + 1) (by omega))
          obtain ⟨m1, m2⟩ := hbd.out k (by omega)
          have hix : ((k : Int) + 1).toNat = k + 1 := by omega
          have hcell := HR.out.cell (i := k) (by omega)
          have hfr := HR.out.frozen k
          go_wp2
          go_roundw
          case rel =>
            refine ⟨k + 1, fun j => if j = k then ((k : Int) + 1) * p (k + 1) else s j, by omega, by go_num, ⟨fun j hj => ?_⟩, ⟨(HR.out.set k _).congr (fun i _ => by dsimp only; split <;> rfl)⟩, hB.setCell hg0 _⟩
            by_cases e : j = k
            · subst e; simp [dvR]
            · dsimp only; rw [if_neg e]; exact HS.out j (by omega)
          case measure => simp [intOf]; omega
        · obtain rfl : k = m := by omega
          have hIS : IS wr (some ⟨w1.heap.size, 0, none⟩) k (dvR p) := ⟨fun i hi => by
              obtain ⟨q1, q2⟩ := hbd.out i (by omega)
              unfold dvR I64; omega, fun h => ⟨w1.heap.size, 0, rfl, HR.out.lt, fun j hj => by rw [Nat.zero_add, HR.out.cell hj, HS.out j hj]⟩⟩
          have HI := Bx.mk hIS
          clear hIS
          by_cases hv : ckP k (dvR p) = 0
          · have HO := Bx.mk (show derO (k + 1) p = (k, 0) by unfold derO; rw [if_neg h1]; simp [hv])
            go_wp2_with (go_at_call 104; refine (validPoly_ok _ k _ (dvR p) _ HI.out (by omega) hv).mono ?_; rintro e w2 ⟨rfl, B2⟩)
            go_ret2
            exact ⟨_, _, by rw [HN.out, HO.out]; rfl, by rw [HN.out, HO.out]; exact HI.out.below (Nat.le_refl _) B2, hB.trans (B2.mono hB.size)⟩
          · have HO := Bx.mk (show derO (k + 1) p = (0, 8) by unfold derO; rw [if_neg h1]; simp [hv])
            go_wp2_with (go_at_call 104; refine (validPoly_no _ k _ (dvR p) _ HI.out (by omega) hv).mono ?_; rintro e w2 ⟨rfl, B2⟩)
            go_ret2
            exact ⟨none, 0, by rw [HN.out, HO.out]; rfl, by rw [HN.out, HO.out]; exact ⟨fun i hi => by omega, fun h => by omega⟩, hB.trans (B2.mono hB.size)⟩
  · have HN := Bx.mk (show derN n p = (0, ckP n p) by unfold derN; rw [if_pos h0])
    have hE : (ckP n p != 0) = true := by simpa using h0
    clear h0
    go_enter Try.func64, Try.ntmps64
    go_wp2_with (go_at_call 67; refine (checkPoly_any A n c p _ hA hn).mono ?_; rintro e w1 ⟨rfl, B1⟩)
    go_ret2
    exact ⟨none, 0, by rw [HN.out]; rfl, by rw [HN.out]; exact ⟨fun i hi => by omega, fun h => by omega⟩, B1⟩

end Go.Proofs.Ytfnmnnbmhfbkbaa

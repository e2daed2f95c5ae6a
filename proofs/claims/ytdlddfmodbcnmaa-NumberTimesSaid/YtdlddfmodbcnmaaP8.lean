/- Walks: the reference's products of polynomials. -/
import Derived.Test.YtdlddfmodbcnmaaP7
import Derived.StillTailTactics
set_option linter.unusedVariables false
set_option linter.unusedSimpArgs false
namespace Go.Proofs.Ytdlddfmodbcnmaa
open Go.RowKit

set_option maxRecDepth 100000 in
set_option maxHeartbeats 8000000 in
theorem timesR_any (A B : Option Addr) (n m c d : Nat) (p q : Row) (w : World) (hA : IS w A n p) (hB : IS w B m q) (h0 : ckP n p = 0) (h1 : ckP m q = 0) :
    Calls Try.prog 71 #[.slice A n c, .slice B m d] w fun e w' => ∃ D d', e = .returned (.tuple #[.slice D (timO n m p q).1 d', .int .i64 (timO n m p q).2]) ∧ IS w' D (timO n m p q).1 (cv m p q n) ∧ Below w.heap.size w w' := by
  obtain ⟨n1, n7, hp⟩ := ckP_zeroB h0
  obtain ⟨m1, m7, hq⟩ := ckP_zeroB h1
  have HP := Bx.mk (show Co n p from hp)
  have HQ := Bx.mk (show Co m q from hq)
  clear h0 h1 hp hq
  obtain ⟨b, off, rfl, hb, hcA⟩ := hA.2 (by omega)
  obtain ⟨b2, off2, rfl, hb2, hcB⟩ := hB.2 (by omega)
  have HCA := Bx.mk hcA
  have HCB := Bx.mk hcB
  clear hcA hcB hA hB
  obtain ⟨T, hT⟩ : ∃ T, n + m = T + 1 := ⟨n + m - 1, by omega⟩
  have hmk := run_make_row' (P := Try.prog) 63 3 (.int .i64 0) 8 Try.underlying63 info_intc rfl .i64 .i64 T (by omega) (by omega)
  have ec : ((T : Nat) : Int) = (n : Int) + m - 1 := by omega
  rw [ec] at hmk
  have HT := Bx.mk (show n + m - 1 = T by omega)
  clear ec
  go_enter Try.func71, Try.ntmps71
  go_wp2
  have hrow := World.rowIs_made w (.int .i64 0) T 3
  generalize hW : w.alloc (.cells (madeCells #[.int .i64 0] T) 3) = W0 at *
  have hB0 : Below w.heap.size w W0 := by rw [← hW]; exact (Below.refl _ _).alloc (Nat.le_refl _) _
  have hW0 := Bx.mk hW
  clear hW hmk
  go_loopw [7] (fun i wr => ∃ k : Nat, k ≤ n ∧ i = .int .i64 k ∧ Bx (wr.rowIs w.heap.size 3 T (fun t => .int .i64 (cv m p q k t))) ∧ Below w.heap.size w wr) (fun i _ => n - (intOf i).toNat)
  case atStart => exact ⟨0, by omega, rfl, ⟨hrow⟩, hB0⟩
  case round =>
    obtain ⟨k, hk, rfl, HR, hBk⟩ := hrel
    clear hrow hB0
    by_cases hlt : k < n
    · have hlt' : (k : Int) < n := by omega
      go_wp2
      go_loopw [8] (fun j wi => ∃ l : Nat, l ≤ m ∧ j = .int .i64 l ∧ Bx (wi.rowIs w.heap.size 3 T (fun t => .int .i64 (cvI p q (cv m p q k) k l t))) ∧ Below w.heap.size w wi) (fun j _ => m - (intOf j).toNat)
      case atStart => exact ⟨0, by omega, rfl, ⟨HR.out.congr (fun t _ => by rw [cvI_zero])⟩, hBk⟩
      case round =>
        obtain ⟨l, hl, rfl, HI, hBl⟩ := hrel
        by_cases hll : l < m
        · have hll' : (l : Int) < m := by omega
          have hcx := (hBl.cell (p := ⟨b, off + k, none⟩) hb).trans (HCA.out k hlt)
          have hcy := (hBl.cell (p := ⟨b2, off2 + l, none⟩) hb2).trans (HCB.out l hll)
          have hcell := HI.out.cell (i := k + l) (by omega)
          have hfr := HI.out.frozen (k + l)
          have hix : ((k : Int) + (l : Int)).toNat = k + l := by omega
          obtain ⟨x1, x2⟩ := co_mul HP.out HQ.out hlt hll
          obtain ⟨y1, y2⟩ := cvI_bd (l := l) (B := 1000000000000 * (k : Int)) HP.out HQ.out (cv_bd HP.out HQ.out (k := k) (by omega)) hlt hl (k + l)
          have HST := Bx.mk (fun t => cvI_step p q (cv m p q k) k l t)
          generalize hX : cvI p q (cv m p q k) k l (k + l) = X at *
          have HX := Bx.mk hX
          clear hX
          have hs0 : (0 : Int) ≤ (k : Int) + l := by omega
          have hs1 : (k : Int) + l < T := by omega
          have hw1 : IntKind.i64.wrap ((k : Int) + l) = (k : Int) + l := IntWalk.i64_in _ (by omega)
          have hw2 : IntKind.i64.wrap (p k * q l) = p k * q l := IntWalk.i64_in _ (by omega)
          have hw3 : IntKind.i64.wrap (X + p k * q l) = X + p k * q l := IntWalk.i64_in _ (by omega)
          go_wp2
          go_still_tail 21, (by kernel_rfl)
          go_wp2
          go_roundw
          case rel =>
            refine ⟨l + 1, by omega, by go_num, ⟨(HI.out.set (k + l) _).congr (fun t _ => ?_)⟩, by first | exact hBl.setCell (Nat.le_refl _) _ | exact (hBl.setCell (Nat.le_refl _) _).drew | exact hBl.drew.setCell (Nat.le_refl _) _⟩
            rw [HST.out t]
            by_cases e : t = k + l
            · rw [if_pos e, if_pos e]
            · rw [if_neg e, if_neg e]
          case measure => simp [intOf]; omega
        · obtain rfl : l = m := by omega
          go_wp2
          go_roundw
          case rel => exact ⟨k + 1, by omega, by go_num, ⟨HI.out⟩, hBl⟩
          case measure => simp [intOf]; omega
    · obtain rfl : k = n := by omega
      have hIS : IS wr (some ⟨w.heap.size, 0, none⟩) T (cv m p q k) := ⟨fun i _ => by
          have := cv_bd HP.out HQ.out (Nat.le_refl k) i
          unfold I64; omega, fun h => ⟨w.heap.size, 0, rfl, HR.out.lt, fun j hj => by rw [Nat.zero_add, HR.out.cell hj]⟩⟩
      have HI := Bx.mk hIS
      clear hIS
      by_cases hv : ckP T (cv m p q k) = 0
      · have HO := Bx.mk (show timO k m p q = (T, 0) by unfold timO; rw [HT.out]; simp [hv])
        have HK := Bx.mk hv
        clear hv
        go_wp2_with (go_at_call 66; refine (checkPolyR_any _ T _ (cv m p q k) _ HI.out (by omega)).mono ?_; rw [HK.out]; rintro e w3 ⟨rfl, rfl⟩)
        go_ret2
        exact ⟨_, _, by rw [HO.out]; rfl, by rw [HO.out]; exact HI.out, hBk⟩
      · have HO := Bx.mk (show timO k m p q = (0, 8) by unfold timO; rw [HT.out]; simp [hv])
        have hv' : (ckP T (cv m p q k) != 0) = true := by simpa using hv
        clear hv
        go_wp2_with (go_at_call 66; refine (checkPolyR_any _ T _ (cv m p q k) _ HI.out (by omega)).mono ?_; rintro e w3 ⟨rfl, rfl⟩)
        go_ret2
        exact ⟨none, 0, by rw [HO.out]; rfl, by rw [HO.out]; exact ⟨fun i hi => by omega, fun h => by omega⟩, hBk⟩

end Go.Proofs.Ytdlddfmodbcnmaa

/- Walks: products of polynomials. -/
import Derived.Test.YtdlddfmodbcnmaaP3
set_option linter.unusedVariables false
set_option linter.unusedSimpArgs false
namespace Go.Proofs.Ytdlddfmodbcnmaa
open Go.RowKit

/-- A row of the product, with l products of the k-th coefficient added. -/
def cvI (p q c : Row) (k l : Nat) : Row := fun t => c t + (if k ≤ t ∧ t < k + l then p k * q (t - k) else 0)
/-- The product's coefficients by the first k ones of p. -/
def cv (m : Nat) (p q : Row) : Nat → Row
  | 0 => fun _ => 0
  | k + 1 => cvI p q (cv m p q k) k m
theorem cvI_zero (p q c : Row) (k t : Nat) : cvI p q c k 0 t = c t := by unfold cvI; rw [if_neg (by omega)]; omega
theorem cvI_step (p q c : Row) (k l t : Nat) : cvI p q c k (l + 1) t = if t = k + l then cvI p q c k l (k + l) + p k * q l else cvI p q c k l t := by
  unfold cvI
  by_cases e : t = k + l
  · subst e
    rw [if_pos rfl, if_pos (by omega), if_neg (by omega), show k + l - k = l by omega]; omega
  · rw [if_neg e]
    by_cases h : k ≤ t ∧ t < k + l
    · rw [if_pos h, if_pos (by omega)]
    · rw [if_neg h, if_neg (by omega)]
def Co (n : Nat) (p : Row) : Prop := ∀ i, i < n → -1000000 ≤ p i ∧ p i ≤ 1000000
theorem co_mul {n m : Nat} {p q : Row} (hp : Co n p) (hq : Co m q) {i j : Nat} (hi : i < n) (hj : j < m) : -1000000000000 ≤ p i * q j ∧ p i * q j ≤ 1000000000000 := by
  obtain ⟨a1, a2⟩ := hp i hi
  obtain ⟨b1, b2⟩ := hq j hj
  exact mul_bd a1 a2 b1 b2
theorem cvI_bd {n m : Nat} {p q c : Row} {B : Int} (hp : Co n p) (hq : Co m q) (hc : ∀ t, -B ≤ c t ∧ c t ≤ B) {k l : Nat} (hk : k < n) (hl : l ≤ m) (t : Nat) : -(B + 1000000000000) ≤ cvI p q c k l t ∧ cvI p q c k l t ≤ B + 1000000000000 := by
  unfold cvI
  obtain ⟨c1, c2⟩ := hc t
  split
  · obtain ⟨a, b⟩ := co_mul hp hq hk (show t - k < m by omega)
    omega
  · omega
theorem cv_bd {n m : Nat} {p q : Row} (hp : Co n p) (hq : Co m q) : ∀ {k : Nat}, k ≤ n → ∀ t, -(1000000000000 * (k : Int)) ≤ cv m p q k t ∧ cv m p q k t ≤ 1000000000000 * (k : Int)
  | 0, _, t => by simp [cv]
  | k + 1, h, t => by
    have := cvI_bd (B := 1000000000000 * (k : Int)) hp hq (cv_bd hp hq (k := k) (by omega)) (show k < n by omega) (Nat.le_refl m) t
    show _ ≤ cvI p q (cv m p q k) k m t ∧ cvI p q (cv m p q k) k m t ≤ _
    omega

/-- Length and error of a product of right polynomials. -/
def timO (n m : Nat) (p q : Row) : Nat × Int := if ckP (n + m - 1) (cv m p q n) ≠ 0 then (0, 8) else (n + m - 1, 0)
def timN (n m : Nat) (p q : Row) : Nat × Int := if ckP n p ≠ 0 then (0, ckP n p) else if ckP m q ≠ 0 then (0, ckP m q) else timO n m p q

set_option maxRecDepth 100000 in
set_option maxHeartbeats 8000000 in
theorem pTimes_any (A B : Option Addr) (n m c d : Nat) (p q : Row) (w : World) (hA : IS w A n p) (hB : IS w B m q) (hn : n ≤ 1000000) (hm : m ≤ 1000000) :
    Calls Try.prog 70 #[.slice A n c, .slice B m d] w fun e w' => ∃ D d', e = .returned (.tuple #[.slice D (timN n m p q).1 d', .int .i64 (timN n m p q).2]) ∧ IS w' D (timN n m p q).1 (cv m p q n) ∧ Below w.heap.size w w' := by
  have HA := Bx.mk hA
  have HB := Bx.mk hB
  by_cases h0 : ckP n p = 0
  · by_cases h1 : ckP m q = 0
    · have HN := Bx.mk (show timN n m p q = timO n m p q by unfold timN; rw [if_neg (by simpa using h0), if_neg (by simpa using h1)])
      obtain ⟨n1, n7, hp⟩ := ckP_zeroB h0
      obtain ⟨m1, m7, hq⟩ := ckP_zeroB h1
      have HP := Bx.mk (show Co n p from hp)
      have HQ := Bx.mk (show Co m q from hq)
      have HZ := Bx.mk h0
      have HY := Bx.mk h1
      clear h0 h1 hp hq
      obtain ⟨b, off, rfl, hb, hcA⟩ := hA.2 (by omega)
      obtain ⟨b2, off2, rfl, hb2, hcB⟩ := hB.2 (by omega)
      have HCA := Bx.mk hcA
      have HCB := Bx.mk hcB
      clear hcA hcB hA hB
      obtain ⟨T, hT⟩ : ∃ T, n + m = T + 1 := ⟨n + m - 1, by omega⟩
      have hmk := run_make_row' (P := Try.prog) 63 3 (.int .i64 0) 8 Try.underlying63 info_intc rfl .i64 .i64 T (by omega) (by omega)
      have ec : ((T : Nat) : Int) = (n : Int) + m - 1 := by omega
      rw [ec] at hmk
      have HT := Bx.mk (show n + m - 1 = T by omega)
      clear ec
      go_enter Try.func70, Try.ntmps70
      go_wp2_with (first
        | (go_at_call 67; (with_reducible refine (checkPoly_any (some ⟨b, off, none⟩) n c p _ HA.out hn).mono ?_); rw [HZ.out]; rintro e w1 ⟨rfl, B1⟩; have A1 := Bx.mk (HB.out.below (Nat.le_refl _) B1))
        | (go_at_call 67; (with_reducible refine (checkPoly_any (some ⟨b2, off2, none⟩) m d q _ A1.out hm).mono ?_); rw [HY.out]; rintro e w2 ⟨rfl, B2⟩; have M2 := below_call0 B1 B2))
      have hrow := World.rowIs_made w2 (.int .i64 0) T 3
      generalize hW : w2.alloc (.cells (madeCells #[.int .i64 0] T) 3) = W0 at *
      have hB0 : Below w.heap.size w W0 := by rw [← hW]; exact M2.alloc M2.size _
      have hg0 : w.heap.size ≤ w2.heap.size := M2.size
      have hW0 := Bx.mk hW
      clear hW hmk
      generalize hG : w2.heap.size = G at *
      have hG0 := Bx.mk hG
      clear hG
      go_loopw [32] (fun i wr => ∃ k : Nat, k ≤ n ∧ i = .int .i64 k ∧ Bx (wr.rowIs G 3 T (fun t => .int .i64 (cv m p q k t))) ∧ Below w.heap.size w wr) (fun i _ => n - (intOf i).toNat)
      case atStart => exact ⟨0, by omega, rfl, ⟨hrow⟩, hB0⟩
      case round =>
        obtain ⟨k, hk, rfl, HR, hBk⟩ := hrel
        clear hrow hB0
        by_cases hlt : k < n
        · have hlt' : (k : Int) < n := by omega
          have hcx := (hBk.cell (p := ⟨b, off + k, none⟩) hb).trans (HCA.out k hlt)
          go_wp2
          go_loopw [39] (fun j wi => ∃ l : Nat, l ≤ m ∧ j = .int .i64 l ∧ Bx (wi.rowIs G 3 T (fun t => .int .i64 (cvI p q (cv m p q k) k l t))) ∧ Below w.heap.size w wi) (fun j _ => m - (intOf j).toNat)
          case atStart => exact ⟨0, by omega, rfl, ⟨HR.out.congr (fun t _ => by rw [cvI_zero])⟩, hBk⟩
          case round =>
            obtain ⟨l, hl, rfl, HI, hBl⟩ := hrel
            by_cases hll : l < m
            · have hll' : (l : Int) < m := by omega
              have hcy := (hBl.cell (p := ⟨b2, off2 + l, none⟩) hb2).trans (HCB.out l hll)
              have hcell := HI.out.cell (i := k + l) (by omega)
              have hfr := HI.out.frozen (k + l)
              have hix : ((k : Int) + (l : Int)).toNat = k + l := by omega
              obtain ⟨x1, x2⟩ := co_mul HP.out HQ.out hlt hll
              obtain ⟨y1, y2⟩ := cvI_bd (l := l) (B := 1000000000000 * (k : Int)) HP.out HQ.out (cv_bd HP.out HQ.out (k := k) (by omega)) hlt hl (k + l)
              have HST := Bx.mk (fun t => cvI_step p q (cv m p q k) k l t)
              generalize hX : cvI p q (cv m p q k) k l (k + l) = X at *
              have HX := Bx.mk hX
              clear hX
              go_wp2
              go_roundw
              case rel =>
                refine ⟨l + 1, by omega, by go_num, ⟨(HI.out.set (k + l) _).congr (fun t _ => ?_)⟩, hBl.setCell hg0 _⟩
                rw [HST.out t]
                by_cases e : t = k + l
                · rw [if_pos e, if_pos e]
                · rw [if_neg e, if_neg e]
              case measure => simp [intOf]; omega
            · obtain rfl : l = m := by omega
              go_wp2
              go_roundw
              case rel => exact ⟨k + 1, by omega, by go_num, ⟨HI.out⟩, hBl⟩
              case measure => simp [intOf]; omega
        · obtain rfl : k = n := by omega
          have hIS : IS wr (some ⟨G, 0, none⟩) T (cv m p q k) := ⟨fun i _ => by
              have := cv_bd HP.out HQ.out (Nat.le_refl k) i
              unfold I64; omega, fun h => ⟨G, 0, rfl, HR.out.lt, fun j hj => by rw [Nat.zero_add, HR.out.cell hj]⟩⟩
          have HI := Bx.mk hIS
          clear hIS
          by_cases hv : ckP T (cv m p q k) = 0
          · have HO := Bx.mk (show timO k m p q = (T, 0) by unfold timO; rw [HT.out]; simp [hv])
            go_wp2_with (go_at_call 104; refine (validPoly_ok _ T _ (cv m p q k) _ HI.out (by omega) hv).mono ?_; rintro e w3 ⟨rfl, B3⟩)
            go_ret2
            exact ⟨_, _, by rw [HN.out, HO.out]; rfl, by rw [HN.out, HO.out]; exact HI.out.below (Nat.le_refl _) B3, hBk.trans (B3.mono hBk.size)⟩
          · have HO := Bx.mk (show timO k m p q = (0, 8) by unfold timO; rw [HT.out]; simp [hv])
            go_wp2_with (go_at_call 104; refine (validPoly_no _ T _ (cv m p q k) _ HI.out (by omega) hv).mono ?_; rintro e w3 ⟨rfl, B3⟩)
            go_ret2
            exact ⟨none, 0, by rw [HN.out, HO.out]; rfl, by rw [HN.out, HO.out]; exact ⟨fun i hi => by omega, fun h => by omega⟩, hBk.trans (B3.mono hBk.size)⟩
    · have HN := Bx.mk (show timN n m p q = (0, ckP m q) by unfold timN; rw [if_neg (by simpa using h0), if_pos h1])
      have HZ := Bx.mk h0
      have hE : (ckP m q != 0) = true := by simpa using h1
      clear h0 h1 hA hB
      go_enter Try.func70, Try.ntmps70
      go_wp2_with (first
        | (go_at_call 67; (with_reducible refine (checkPoly_any A n c p _ HA.out hn).mono ?_); rw [HZ.out]; rintro e w1 ⟨rfl, B1⟩; have A1 := Bx.mk (HB.out.below (Nat.le_refl _) B1))
        | (go_at_call 67; (with_reducible refine (checkPoly_any B m d q _ A1.out hm).mono ?_); rintro e w2 ⟨rfl, B2⟩; have M2 := below_call0 B1 B2))
      go_ret2
      exact ⟨none, 0, by rw [HN.out]; rfl, by rw [HN.out]; exact ⟨fun i hi => by omega, fun h => by omega⟩, M2⟩
  · have HN := Bx.mk (show timN n m p q = (0, ckP n p) by unfold timN; rw [if_pos h0])
    have hE : (ckP n p != 0) = true := by simpa using h0
    clear h0 hA hB
    go_enter Try.func70, Try.ntmps70
    go_wp2_with (go_at_call 67; (with_reducible refine (checkPoly_any A n c p _ HA.out hn).mono ?_); rintro e w1 ⟨rfl, B1⟩)
    go_ret2
    exact ⟨none, 0, by rw [HN.out]; rfl, by rw [HN.out]; exact ⟨fun i hi => by omega, fun h => by omega⟩, B1⟩

end Go.Proofs.Ytdlddfmodbcnmaa

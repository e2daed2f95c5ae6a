/- The library's walk over a slice of words from its end on, as a contract for every loop body. -/
import Derived.RangeFuncNested
import Derived.RangeFuncBound
import Derived.RangeFuncCalls
import Derived.RangeFuncLeaves
import Derived.RangeFuncBox
import Derived.Shelf.Abstract
import Derived.Shelf.RegionOpen
import Derived.OwnWalkIn
import Derived.TacticsInMore
import Derived.LoopNIn
import Derived.LoopIn
import Derived.Test.YtdlddfmodbcnmaaW10
set_option linter.unusedVariables false
set_option linter.unusedSimpArgs false
namespace Go.Proofs.Ytdlddfmodbcnmaa
open Go.RowKit Go.Shelf
attribute [local go_sem] Oper.semAt_some

/-- The places from the last one to the first. -/
def bk (n : Nat) : List (Fin n) := (List.finRange n).reverse
theorem bk_length (n : Nat) : (bk n).length = n := by simp [bk]
theorem bk_take {n k : Nat} (h : k < n) : (bk n).take (k + 1) = (bk n).take k ++ [⟨n - 1 - k, by omega⟩] := by
  rw [List.take_succ_eq_append_getElem (by rw [bk_length]; exact h)]
  congr 2
  simp [bk, List.getElem_reverse]

theorem bk_mem {n : Nat} (i : Fin n) : i ∈ bk n := by simp [bk]
/-- What has come ahead of a place that came are the places above it. -/
theorem bk_prefix {n : Nat} {ini : List (Fin n)} {last : Fin n} (h : ini ++ [last] <+: bk n) (i : Fin n) (hi : last.1 < i.1) : i ∈ ini := by
  obtain ⟨rest, hr⟩ := h
  have hl : ini.length < n := by have := congrArg List.length hr; simp [bk_length] at this; omega
  have e1 : ini = (bk n).take ini.length := by rw [← hr]; simp
  have e2 : ini ++ [last] = (bk n).take (ini.length + 1) := by rw [← hr]; exact (List.take_left' (by simp)).symm
  rw [bk_take hl, ← e1] at e2
  have e3 : last = ⟨n - 1 - ini.length, by omega⟩ := by simpa using e2
  have e4 : n - 1 - ini.length = last.1 := by rw [e3]
  rw [e1]
  have hb : (bk n)[n - 1 - i.1]'(by rw [bk_length]; omega) = i := by
    apply Fin.ext; simp [bk, List.getElem_reverse]; omega
  rw [← hb]
  exact List.mem_take_iff_getElem.2 ⟨n - 1 - i.1, by rw [bk_length]; omega, rfl⟩

set_option maxRecDepth 100000 in
set_option maxHeartbeats 2000000 in
theorem backU1_in (F : Fence) (nn : Nat) (h8 : F.fn 154) (hro : F.round = none) (hn : 1 ≤ nn) (l Bs n₀ : Nat) (A : Option Addr) (n cap : Nat) (f : Nat → Int) (hreach : n ≤ 1000000000000) (J Jx : List (Fin n) → World → Prop)
    (hY : ∀ (pre : List (Fin n)) (x : Fin n) (W : World), J pre W → pre.length < n → YieldAt F (nn - 1) Try.prog l #[.int .i64 (x.1 : Int), .int .u64 (f x.1)] W fun e W' =>
      (e = .returned (.bool true) ∧ J (pre ++ [x]) W' ∧ Below n₀ W W') ∨ (e = .returned (.bool false) ∧ Jx (pre ++ [x]) W'))
    (W : World) (hBl : Bs < n₀) (hBs : W.cell? ⟨Bs, 0, none⟩ = some (.slice A n cap)) (hc : 0 < n → ∃ b, A = some ⟨b, 0, none⟩ ∧ b < n₀ ∧ ∀ j, j < n → W.cell? ⟨b, j, none⟩ = some (.int .u64 (f j))) (h0 : J [] W) :
    CallsIn F nn Try.prog 154 #[.func (.yield l) #[] #[], .pointer (some ⟨Bs, 0, none⟩)] W fun e W' => (∃ v, e = .returned v) ∧
      ((∃ ys, ys = bk n ∧ J ys W') ∨ (∃ pre, pre <+: bk n ∧ Jx pre W')) := by
  refine callsIn_of_wp Try.func154 rfl h8 ?_ hro
  simp only [Try.ntmps154, List.size_toArray, List.length_cons, List.length_nil, Nat.reduceAdd, Nat.reduceSub, Array.replicate_succ, Array.replicate_zero, List.push_toArray, List.append_toArray, List.nil_append, List.cons_append]
  gi_wp2
  gi_loopw [3] (fun i wr => ∃ r k : Nat, Hid (k + r = n) ∧ k ≤ n ∧ i = .int .i64 ((r : Int) - 1) ∧ Hid (J ((bk n).take k) wr) ∧ Below n₀ W wr)
    (fun i _ => (intOf i + 1).toNat)
  case atStart => exact ⟨n, 0, by simp [Hid], by omega, rfl, by simpa [Hid] using h0, Below.refl _ _⟩
  case round =>
    obtain ⟨r, k, HK, hk, rfl, HJ, hnx⟩ := hrel
    have hBs' := (hnx.cell (p := ⟨Bs, 0, none⟩) hBl).trans hBs
    rcases Nat.eq_zero_or_pos r with hr | hr
    · subst hr
      rw [show ((0 : Nat) : Int) - 1 = -1 from rfl]
      gi_wp2
      go_end0
      refine ⟨⟨_, rfl⟩, .inl ⟨_, rfl, ?_⟩⟩
      have h1 := HJ.out
      rw [List.take_of_length_le (by rw [bk_length]; have := HK.out; omega)] at h1
      exact h1
    · obtain ⟨r, rfl⟩ : ∃ q, r = q + 1 := ⟨r - 1, by omega⟩
      rw [show ((r + 1 : Nat) : Int) - 1 = (r : Int) by omega]
      have hkn : k < n := by have := HK.out; omega
      have hrn : r < n := by have := HK.out; omega
      obtain ⟨b, rfl, hb, hcs⟩ := hc (by omega)
      have hcx := (hnx.cell (p := ⟨b, r, none⟩) hb).trans (hcs r hrn)
      have hrr : n - 1 - k = r := by have := HK.out; omega
      have hJ1 := hY ((bk n).take k) ⟨r, hrn⟩ wr HJ.out (by rw [List.length_take, bk_length]; omega)
      have HT := Lib.hid (show (bk n).take (k + 1) = (bk n).take k ++ [⟨r, hrn⟩] by rw [bk_take hkn]; congr 2; simp [hrr])
      obtain ⟨fn, tmps, assign, body, hy, hR⟩ := hJ1
      dsimp only at hy
      clear hcs hrr
      gi_wp2
      refine hR.mono ?_
      rintro e W3 (⟨rfl, hJ3, hk3⟩ | ⟨rfl, hJx3⟩)
      · have HJ3 := Lib.hid hJ3
        clear hJ3
        gi_wp2
        go_roundw
        case rel => exact ⟨r, k + 1, by have := HK.out; simp only [Hid]; omega, by omega, rfl, by simp only [Hid]; rw [HT.out]; exact HJ3.out, hnx.trans hk3⟩
        case measure => simp [intOf]
      · have HJ3 := Lib.hid hJx3
        clear hJx3
        gi_wp2
        refine bodyPost_ret (results_none rfl _ _ _) rfl ?_
        exact ⟨⟨_, rfl⟩, .inr ⟨_, by rw [← HT.out]; exact List.take_prefix _ _, HJ3.out⟩⟩

set_option maxHeartbeats 1000000 in
theorem backU_in (F : Fence) (nn : Nat) (h5 : F.fn 151) (hro : F.round = none) (a : Option Addr) (len cap : Nat) (w : World) :
    CallsIn F nn Try.prog 151 #[.slice a len cap] w fun e w' => e = .returned (.func (.func 154) #[] #[.pointer (some ⟨w.heap.size, 0, none⟩)]) ∧ w' = w.alloc (.cells #[.slice a len cap] 128) := by
  refine callsIn_of_wp Try.func151 rfl h5 ?_ hro
  simp only [Try.ntmps151, List.size_toArray, List.length_cons, List.length_nil, Nat.reduceAdd, Nat.reduceSub, Array.replicate_succ, Array.replicate_zero, List.push_toArray, List.append_toArray, List.nil_append, List.cons_append]
  gi_wp2
  go_ret
  exact ⟨rfl, rfl⟩

theorem backU_stops (F : Fence) (nn : Nat) (h8 : F.fn 154) (hro : F.round = none) (hn : 1 ≤ nn) (Bs n₀ : Nat) (A : Option Addr) (n cap : Nat) (f : Nat → Int) (hreach : n ≤ 1000000000000) (w : World) (hBs : Bs < n₀) (hn₀ : n₀ ≤ w.heap.size)
    (hc : w.cell? ⟨Bs, 0, none⟩ = some (.slice A n cap)) (hI : 0 < n → ∃ b, A = some ⟨b, 0, none⟩ ∧ b < n₀ ∧ ∀ j, j < n → w.cell? ⟨b, j, none⟩ = some (.int .u64 (f j))) :
    SeqStopsK F nn Try.prog 154 #[.pointer (some ⟨Bs, 0, none⟩)] (fun x : Fin n => #[Value.int .i64 (x.1 : Int), Value.int .u64 (f x.1)]) (Below n₀) (fun ys => ys = bk n) (fun pre => pre <+: bk n) n w := fun l J Jx W hW _ _ hY h0 => by
  have hc' := (hW.cell (p := ⟨Bs, 0, none⟩) (by show Bs < _; omega)).trans hc
  exact backU1_in F nn h8 hro hn l Bs n₀ A n cap f hreach J Jx hY W hBs hc' (fun h => by
    obtain ⟨b, e, hb, hcs⟩ := hI h
    exact ⟨b, e, hb, fun j hj => (hW.cell (p := ⟨b, j, none⟩) (by show b < _; omega)).trans (hcs j hj)⟩) h0

end Go.Proofs.Ytdlddfmodbcnmaa

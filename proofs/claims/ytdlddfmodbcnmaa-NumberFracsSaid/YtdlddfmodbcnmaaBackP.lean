/- The library's walk over a polynomial from its end on, as a contract for every loop body. -/
import Derived.Test.YtdlddfmodbcnmaaW14
set_option linter.unusedVariables false
set_option linter.unusedSimpArgs false
namespace Go.Proofs.Ytdlddfmodbcnmaa
open Go.RowKit Go.Shelf
attribute [local go_sem] Oper.semAt_some

/-- What a round keeps: what lay below, and the slice's own box. -/
def KpB (n₀ Bs : Nat) (A B : World) : Prop := Below n₀ A B ∧ B.cell? ⟨Bs, 0, none⟩ = A.cell? ⟨Bs, 0, none⟩
theorem KpB.t {n₀ Bs : Nat} {A B C : World} (h : KpB n₀ Bs A B) (k : KpB n₀ Bs B C) : KpB n₀ Bs A C := ⟨h.1.trans k.1, k.2.trans h.2⟩
theorem kpB_b {n₀ Bs : Nat} {w : World} (hn : n₀ ≤ w.heap.size) (hb : Bs < w.heap.size) (W : World) (l : Nat) (o o' : Obj) (hl : w.heap.size ≤ l) (h : W.heap[l]? = some o) (h1 : o.isCells = false) (h2 : o.isWalk = false) : KpB n₀ Bs W (W.putObj l o') :=
  ⟨belowK_b hn W l o o' hl h h1 h2, (belowK_b (n₀ := w.heap.size) (w := w) (Nat.le_refl _) W l o o' hl h h1 h2).cell (p := ⟨Bs, 0, none⟩) hb⟩

set_option maxRecDepth 100000 in
set_option maxHeartbeats 2000000 in
theorem backPoly1_in (F : Fence) (nn : Nat) (h8 : F.fn 138) (hro : F.round = none) (hn : 1 ≤ nn) (l Bs n₀ : Nat) (A : Option Addr) (n cap : Nat) (bf : Nat → Bool) (sf : Nat → Value) (hreach : n ≤ 1000000000000) (J Jx : List (Fin n) → World → Prop)
    (hY : ∀ (pre : List (Fin n)) (x : Fin n) (W : World), J pre W → pre.length < n → YieldAt F (nn - 1) Try.prog l #[.int .i64 (x.1 : Int), .agg #[.bool (bf x.1), sf x.1]] W fun e W' =>
      (e = .returned (.bool true) ∧ J (pre ++ [x]) W' ∧ KpB n₀ Bs W W') ∨ (e = .returned (.bool false) ∧ Jx (pre ++ [x]) W'))
    (W : World) (hBs : W.cell? ⟨Bs, 0, none⟩ = some (.slice A n cap)) (hc : 0 < n → ∃ b, A = some ⟨b, 0, none⟩ ∧ b < n₀ ∧ ∀ j, j < n → W.cell? ⟨b, j * 2, none⟩ = some (.bool (bf j)) ∧ W.cell? ⟨b, j * 2 + 1, none⟩ = some (sf j)) (h0 : J [] W) :
    CallsIn F nn Try.prog 138 #[.func (.yield l) #[] #[], .pointer (some ⟨Bs, 0, none⟩)] W fun e W' => (∃ v, e = .returned v) ∧
      ((∃ ys, ys = bk n ∧ J ys W') ∨ (∃ pre, pre <+: bk n ∧ Jx pre W')) := by
  refine callsIn_of_wp Try.func138 rfl h8 ?_ hro
  simp only [Try.ntmps138, List.size_toArray, List.length_cons, List.length_nil, Nat.reduceAdd, Nat.reduceSub, Array.replicate_succ, Array.replicate_zero, List.push_toArray, List.append_toArray, List.nil_append, List.cons_append]
  gi_wp2
  gi_loopw [3] (fun i wr => ∃ r k : Nat, Hid (k + r = n) ∧ k ≤ n ∧ i = .int .i64 ((r : Int) - 1) ∧ Hid (J ((bk n).take k) wr) ∧ Below n₀ W wr ∧ wr.cell? ⟨Bs, 0, none⟩ = W.cell? ⟨Bs, 0, none⟩)
    (fun i _ => (intOf i + 1).toNat)
  case atStart => exact ⟨n, 0, by simp [Hid], by omega, rfl, by simpa [Hid] using h0, Below.refl _ _, rfl⟩
  case round =>
    obtain ⟨r, k, HK, hk, rfl, HJ, hnx, hbx⟩ := hrel
    have hBs' := hbx.trans hBs
    have HBX := Lib.hid hbx
    clear hbx
    rcases Nat.eq_zero_or_pos r with hr | hr
    · subst hr
      rw [show ((0 : Nat) : Int) - 1 = -1 from rfl]
      gi_wp2
      go_end0
      refine ⟨⟨_, rfl⟩, .inl ⟨_, rfl, ?_⟩⟩
      have h1 := HJ.out
      rw [List.take_of_length_le (by rw [bk_length]; have := HK.out; omega)] at h1
      exact h1
    · obtain ⟨r, rfl⟩ : ∃ q, r = q + 1 := ⟨r - 1, by omega⟩
      rw [show ((r + 1 : Nat) : Int) - 1 = (r : Int) by omega]
      have hkn : k < n := by have := HK.out; omega
      have hrn : r < n := by have := HK.out; omega
      obtain ⟨b, rfl, hb, hcs⟩ := hc (by omega)
      have hcx := (hnx.cell (p := ⟨b, r * 2, none⟩) hb).trans (hcs r hrn).1
      have hcy := (hnx.cell (p := ⟨b, r * 2 + 1, none⟩) hb).trans (hcs r hrn).2
      have hrr : n - 1 - k = r := by have := HK.out; omega
      have hJ1 := hY ((bk n).take k) ⟨r, hrn⟩ wr HJ.out (by rw [List.length_take, bk_length]; omega)
      have HT := Lib.hid (show (bk n).take (k + 1) = (bk n).take k ++ [⟨r, hrn⟩] by rw [bk_take hkn]; congr 2; simp [hrr])
      obtain ⟨fn, tmps, assign, body, hy, hR⟩ := hJ1
      dsimp only at hy
      clear hcs hrr
      gi_wp2
      refine hR.mono ?_
      rintro e W3 (⟨rfl, hJ3, hk3, hk4⟩ | ⟨rfl, hJx3⟩)
      · have HJ3 := Lib.hid hJ3
        have HK4 := Lib.hid hk4
        clear hJ3 hk4
        gi_wp2
        go_roundw
        case rel => exact ⟨r, k + 1, by have := HK.out; simp only [Hid]; omega, by omega, rfl, by simp only [Hid]; rw [HT.out]; exact HJ3.out, hnx.trans hk3, HK4.out.trans HBX.out⟩
        case measure => simp [intOf]
      · have HJ3 := Lib.hid hJx3
        clear hJx3
        gi_wp2
        refine bodyPost_ret (results_none rfl _ _ _) rfl ?_
        exact ⟨⟨_, rfl⟩, .inr ⟨_, by rw [← HT.out]; exact List.take_prefix _ _, HJ3.out⟩⟩

set_option maxHeartbeats 1000000 in
theorem backPoly_in (F : Fence) (nn : Nat) (h5 : F.fn 122) (hro : F.round = none) (a : Option Addr) (len cap : Nat) (w : World) :
    CallsIn F nn Try.prog 122 #[.slice a len cap] w fun e w' => e = .returned (.func (.func 138) #[] #[.pointer (some ⟨w.heap.size, 0, none⟩)]) ∧ w' = w.alloc (.cells #[.slice a len cap] 111) := by
  refine callsIn_of_wp Try.func122 rfl h5 ?_ hro
  simp only [Try.ntmps122, List.size_toArray, List.length_cons, List.length_nil, Nat.reduceAdd, Nat.reduceSub, Array.replicate_succ, Array.replicate_zero, List.push_toArray, List.append_toArray, List.nil_append, List.cons_append]
  gi_wp2
  go_ret
  exact ⟨rfl, rfl⟩

theorem backPoly_stops (F : Fence) (nn : Nat) (h8 : F.fn 138) (hro : F.round = none) (hn : 1 ≤ nn) (Bs n₀ : Nat) (A : Option Addr) (n cap : Nat) (bf : Nat → Bool) (sf : Nat → Value) (hreach : n ≤ 1000000000000) (w : World) (hBs : Bs < w.heap.size) (hn₀ : n₀ ≤ w.heap.size)
    (hc : w.cell? ⟨Bs, 0, none⟩ = some (.slice A n cap)) (hI : 0 < n → ∃ b, A = some ⟨b, 0, none⟩ ∧ b < n₀ ∧ ∀ j, j < n → w.cell? ⟨b, j * 2, none⟩ = some (.bool (bf j)) ∧ w.cell? ⟨b, j * 2 + 1, none⟩ = some (sf j)) :
    SeqStopsK F nn Try.prog 138 #[.pointer (some ⟨Bs, 0, none⟩)] (fun x : Fin n => #[Value.int .i64 (x.1 : Int), Value.agg #[.bool (bf x.1), sf x.1]]) (KpB n₀ Bs) (fun ys => ys = bk n) (fun pre => pre <+: bk n) n w := fun l J Jx W hW _ _ hY h0 => by
  have hc' := (hW.cell (p := ⟨Bs, 0, none⟩) hBs).trans hc
  exact backPoly1_in F nn h8 hro hn l Bs n₀ A n cap bf sf hreach J Jx hY W hc' (fun h => by
    obtain ⟨b, e, hb, hcs⟩ := hI h
    exact ⟨b, e, hb, fun j hj => ⟨(hW.cell (p := ⟨b, j * 2, none⟩) (by show b < _; omega)).trans (hcs j hj).1, (hW.cell (p := ⟨b, j * 2 + 1, none⟩) (by show b < _; omega)).trans (hcs j hj).2⟩⟩) h0

end Go.Proofs.Ytdlddfmodbcnmaa

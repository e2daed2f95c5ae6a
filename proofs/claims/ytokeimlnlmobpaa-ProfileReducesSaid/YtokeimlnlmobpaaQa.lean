/- Plain facts, and walks of what every chapter's law calls: profile. -/
import Derived.Laws.Bits64
import Derived.IntWalk
import Derived.Test.YtokeimlnlmobpaaChecked
import Derived.WalkKit
import Derived.WalkSpells
import Derived.WalkLawsBesides
import Derived.BigQuiet
import Derived.Deep.QuietTactic
import Derived.Lib.Hide
import Derived.Laws.ResultCell
import Derived.ChangeSame
import Derived.Shelf.RegionOpen
import Derived.Shelf.Abstract
import Derived.Deep.RegionHeld3
import Derived.Deep.RegionLaw
import Derived.Deep.AppendLies
import Derived.Maps.AppendAt
set_option linter.unusedVariables false
set_option linter.unusedSimpArgs false
namespace Go.Proofs.Ytokeimlnlmobpaa
open Go.RowKit

theorem ret_int {k : IntKind} {a b : Int} (h : a = b) : Ending.returned (.int k a) = .returned (.int k b) := by rw [h]
theorem ret_bool {a b : Bool} (h : a = b) : Ending.returned (.bool a) = .returned (.bool b) := by rw [h]
/-- A number of an int. -/
def I64 (n : Int) : Prop := -9223372036854775808 ≤ n ∧ n ≤ 9223372036854775807
abbrev Row := Nat → Int
theorem tdiv_bd {n g B : Int} (h1 : -B ≤ n) (h2 : n ≤ B) (hg : 1 ≤ g) : -B ≤ n.tdiv g ∧ n.tdiv g ≤ B := by
  have h : (n.tdiv g).natAbs ≤ n.natAbs := by rw [Int.natAbs_tdiv]; exact Nat.div_le_self _ _
  omega
theorem bcell {W w1 : World} (hb : Below W.heap.size W w1) : (∀ b o, b < W.heap.size → w1.cell? ⟨b, o, none⟩ = W.cell? ⟨b, o, none⟩) ∧ (∀ b o, b < W.heap.size → w1.frozen? ⟨b, o, none⟩ = W.frozen? ⟨b, o, none⟩) :=
  ⟨fun b o h => hb.cell (p := ⟨b, o, none⟩) h, fun b o h => hb.frozen (p := ⟨b, o, none⟩) h⟩
theorem _root_.Go.RowKit.Below.drewN' {B : Nat} {a w : World} (h : Below B a w) (n : Nat) : Below B a (w.drewN n) := ⟨h.os, h.tape, h.output, h.size, h.block⟩
theorem below_drewN {B : Nat} {a w : World} (h : Below B a w) (n : Nat) : Below B a (w.drewN n) := ⟨h.os, h.tape, h.output, h.size, h.block⟩
/-- A fact that no unfolding opens. -/
structure Bx (p : Prop) : Prop where
  out : p

theorem below_alloc1 (w : World) (o : Obj) : Below w.heap.size w (w.alloc o) := (Below.refl _ _).alloc (Nat.le_refl _) _
theorem below_call {w w1 w2 : World} {o : Obj} (M : Below w.heap.size w w1) (B : Below (w1.alloc o).heap.size (w1.alloc o) w2) : Below w.heap.size w w2 :=
  (M.alloc M.size o).trans (B.mono (M.alloc M.size o).size)
theorem below_call0 {w w1 w2 : World} (M : Below w.heap.size w w1) (B : Below w1.heap.size w1 w2) : Below w.heap.size w w2 := M.trans (B.mono M.size)
theorem below_step {B : Nat} {w w' : World} (h : B ≤ w.heap.size) (k : Below w.heap.size w w') : Below B w w' := k.mono h

theorem results_cell1 {fn : Func} {p : Tmp} {ty : TypeId} (h : fn.results = #[.cell p ty]) (tmps : Array Value) (P : Program) (w : World) :
    (results fn tmps).run P w = ((asAddr (tmps.getD p undef)).run P w).andThen fun a w₁ => ((loadVar ty a).run P w₁).andThen fun v w₂ => .ok v w₂ := by
  simp only [results, h]
  simp [Sem.run_bind, Result.andThen]
  cases (asAddr (tmps[p]?.getD undef)).run P w with
  | ok a w1 => simp only; cases (loadVar ty a).run P w1 <;> rfl
  | halt a w1 => rfl
/-- Two stores side by side. -/
theorem set2 {w : World} {b : Nat} {x y : Value} (u v : Value) (h0 : w.cell? ⟨b, 0, none⟩ = some x) (h1 : w.cell? ⟨b, 1, none⟩ = some y) :
    ((w.setCell ⟨b, 0, none⟩ u).setCell ⟨b, 1, none⟩ v).cell? ⟨b, 0, none⟩ = some u ∧ ((w.setCell ⟨b, 0, none⟩ u).setCell ⟨b, 1, none⟩ v).cell? ⟨b, 1, none⟩ = some v := by
  have e1 : (w.setCell ⟨b, 0, none⟩ u).cell? ⟨b, 0, none⟩ = some u := World.cell?_setCell_same' _ _ _ (by rw [h0]; rfl)
  have e2 : (w.setCell ⟨b, 0, none⟩ u).cell? ⟨b, 1, none⟩ = some y := by rw [World.cell?_setCell_other _ _ _ _ (by simp)]; exact h1
  exact ⟨by rw [World.cell?_setCell_other _ _ _ _ (by simp)]; exact e1, World.cell?_setCell_same' _ _ _ (by rw [e2]; rfl)⟩

/-- The ints in a slice. -/
def IS (w : World) (A : Option Addr) (n : Nat) (p : Row) : Prop :=
  (∀ i, i < n → I64 (p i)) ∧ (0 < n → ∃ b off, A = some ⟨b, off, none⟩ ∧ b < w.heap.size ∧ ∀ j, j < n → w.cell? ⟨b, off + j, none⟩ = some (.int .i64 (p j)))
theorem IS.below {w w' : World} {A : Option Addr} {n : Nat} {p : Row} {B : Nat} (h : IS w A n p) (hB : w.heap.size ≤ B) (hb : Below B w w') : IS w' A n p :=
  ⟨h.1, fun hn => by
    obtain ⟨b, off, e, hl, hc⟩ := h.2 hn
    exact ⟨b, off, e, Nat.lt_of_lt_of_le hl hb.size, fun j hj => (hb.cell (p := ⟨b, off + j, none⟩) (by show b < B; omega)).trans (hc j hj)⟩⟩

theorem info_intc : (Try.prog.info? 3).map (fun i => (i.zero, i.size, i.bytes)) = some (some (.int .i64 0), 1, 8) := by kernel_rfl
theorem info_intc_parts : ∃ i, Try.prog.info? 3 = some i ∧ i.zero = some (.int .i64 0) ∧ i.size = 1 ∧ i.bytes = 8 := by
  obtain ⟨i, hi, hzz⟩ := Option.map_eq_some_iff.1 info_intc
  simp only [Prod.mk.injEq] at hzz
  exact ⟨i, hi, hzz.1, hzz.2.1, hzz.2.2⟩

/-- A nil or empty list, or one at an address: what a list of ints may be. -/
def SV (A : Option Addr) (n c : Nat) : Prop := A = none → n = 0 ∧ c = 0

set_option maxRecDepth 100000 in
set_option maxHeartbeats 2000000 in
theorem copyInts_any (A : Option Addr) (n c : Nat) (p : Row) (w : World) (hA : IS w A n p) (hs : SV A n c) (hn : n ≤ 1000) :
    Calls Try.prog 23 #[.slice A n c] w fun e w' => ∃ g c', e = .returned (.slice (some ⟨g, 0, none⟩) n c') ∧ w.heap.size ≤ g ∧ n ≤ c' ∧ c' ≤ 9223372036854775807 ∧ IS w' (some ⟨g, 0, none⟩) n p ∧ Below w.heap.size w w' := by
  obtain ⟨i0, hi0, hz0, hz1, hz2⟩ := info_intc_parts
  by_cases h0 : n = 0
  · subst h0
    go_enter Try.func23, Try.ntmps23
    go_wp2_with (at_builtin; refine wpList_append_fits_any _ rfl _ _ _ rfl w.heap.size 3 i0 1 Try.underlying22 hi0 hz1 w.heap.size 0 0 [] rfl ⟨rfl, .inr ⟨w.heap.size, 0, #[], rfl, Nat.le_refl _, heap_alloc_new w _, Nat.le_refl _, by simp [maxLen], rfl, rfl⟩⟩ A 0 c [] rfl rfl (fun h => hs h) (fun _ _ _ _ h => by simp at h) (by simp) (by omega) ?_)
    intro w4 hown4 hgrow4
    have hBB : Below w.heap.size w w4 := ((Below.refl w.heap.size w).alloc (Nat.le_refl _) _).grown hgrow4 (by simp) (fun j hj => by simp at hj; omega)
    clear hown4 hgrow4
    go_wp2
    go_ret
    exact ⟨w.heap.size, 0, rfl, Nat.le_refl _, by omega, by omega, ⟨fun i hi => by omega, fun h => by omega⟩, hBB⟩
  · obtain ⟨b, off, rfl, hb, hc⟩ := hA.2 (by omega)
    have hI := hA.1
    obtain ⟨news, hnews⟩ : ∃ news : List Value, news = (List.range n).map (fun j => Value.int .i64 (p j)) := ⟨_, rfl⟩
    have HL := Bx.mk (show news.length = n * 1 by rw [hnews]; simp)
    have HG := Bx.mk (show ∀ j, j < n → news[j]? = some (.int .i64 (p j)) from fun j hj => by rw [hnews]; simp [hj])
    have HN1 := Bx.mk (show ∀ j u, news[j]? = some u → (w.alloc (.cells #[] 3)).cell? ((⟨b, off, none⟩ : Addr).add j) = some u from fun j u hu => by
      have hj : j < n := by
        rcases Nat.lt_or_ge j n with h1 | h1
        · exact h1
        · rw [List.getElem?_eq_none (by rw [HL.out]; omega)] at hu; cases hu
      obtain rfl := Option.some.inj (hu.symm.trans (HG.out j hj))
      have hadd : (⟨b, off, none⟩ : Addr).add j = ⟨b, off + j, none⟩ := by unfold Addr.add; split <;> simp_all
      rw [hadd, World.cell?_alloc_lt _ _ _ hb]; exact hc j hj)
    have HN2 := Bx.mk (show ∀ u ∈ news, u.oneCell' = true from fun u hu => by
      rw [hnews] at hu
      obtain ⟨j, _, rfl⟩ := List.mem_map.1 hu
      rfl)
    clear hnews
    go_enter Try.func23, Try.ntmps23
    go_wp2_with (at_builtin; refine wpList_append_lies _ rfl _ _ _ rfl w.heap.size 3 i0 _ 1 8 Try.underlying22 hi0 hz0 hz1 hz2 rfl (by omega) (.slice (some ⟨w.heap.size, 0, none⟩) 0 0) 0 [] rfl ⟨rfl, .inr ⟨w.heap.size, 0, #[], rfl, Nat.le_refl _, heap_alloc_new w _, Nat.le_refl _, by simp [maxLen], rfl, rfl⟩⟩ ⟨b, off, none⟩ n c news rfl HL.out HN1.out HN2.out (by omega) (by simp only [maxLen]; omega) (by omega) (by simp) (w.heap.size + 1) (by simp) ?_)
    intro gg cap w4 hown4 hgrow4 hat4 hlt4
    have HOW := Bx.mk hown4
    clear hown4
    have hBB : Below w.heap.size w w4 := ((Below.refl w.heap.size w).alloc (Nat.le_refl _) _).grown hgrow4 (by simp) (fun j hj => by simp [Value.ownBlock] at hj; omega)
    have hge : w.heap.size ≤ gg := by
      rcases hat4 with h | h
      · simp [Value.ownBlock] at h; omega
      · omega
    clear hgrow4 hat4
    go_wp2
    go_ret
    have hcap : n ≤ cap ∧ cap ≤ 9223372036854775807 := by
      rcases HOW.out.2 with ⟨h1, _⟩ | ⟨g', cap', cur', h1, _, _, h2, h3, _⟩
      · cases h1
      · injection h1 with _ _ h1
        subst h1
        exact ⟨h2, by simpa [maxLen] using h3⟩
    refine ⟨gg, cap, rfl, hge, hcap.1, hcap.2, ⟨hI, fun _ => ⟨gg, 0, rfl, hlt4, fun j hj => ?_⟩⟩, hBB⟩
    rw [Nat.zero_add, HOW.out.cellAt j (by omega)]
    exact HG.out j hj

set_option maxHeartbeats 400000 in
theorem floorB_any (n b : Int) (w : World) (hn : -9000000000000000000 ≤ n) (hn' : n ≤ 9000000000000000000) (hb : 1 ≤ b) (hb' : b ≤ 1000000000000000000) :
    Calls Try.prog 94 #[.int .i64 n, .int .i64 b] w fun e w' => e = .returned (.int .i64 (n / b)) ∧ w = w' := by
  have q := tdiv_bd hn hn' hb
  have HT := Lib.hid (Int.mul_tdiv_add_tmod n b)
  have r1 : n.tmod b < b := Int.tmod_lt_of_pos _ (by omega)
  have r2 : -b < n.tmod b := by have := Int.lt_tmod_of_pos n (show 0 < b by omega); omega
  by_cases hr : n.tmod b < 0
  · have HF := Lib.hid (show n / b = n.tdiv b - 1 by
      have h1 := HT.out
      rw [Int.ediv_eq_iff_of_pos (by omega)]
      rw [Int.sub_mul, Int.mul_comm (n.tdiv b) b]; omega)
    go_enter Try.func94, Try.ntmps94
    go_wp2
    go_ret
    exact ⟨ret_int HF.out.symm, rfl⟩
  · have HF := Lib.hid (show n / b = n.tdiv b by
      have h1 := HT.out
      rw [Int.ediv_eq_iff_of_pos (by omega)]
      rw [Int.mul_comm (n.tdiv b) b]; omega)
    go_enter Try.func94, Try.ntmps94
    go_wp2
    go_ret
    exact ⟨ret_int HF.out.symm, rfl⟩

set_option maxHeartbeats 400000 in
theorem ceilB_any (n b : Int) (w : World) (hn : -9000000000000000000 ≤ n) (hn' : n ≤ 9000000000000000000) (hb : 1 ≤ b) (hb' : b ≤ 1000000000000000000) :
    Calls Try.prog 95 #[.int .i64 n, .int .i64 b] w fun e w' => e = .returned (.int .i64 (-(-n / b))) ∧ w = w' := by
  have h1 : -9000000000000000000 ≤ -n / b ∧ -n / b ≤ 9000000000000000000 := by
    constructor
    · rw [Int.le_ediv_iff_mul_le (by omega)]
      have := Int.mul_le_mul_of_nonpos_left (a := -9000000000000000000) (b := b) (c := 1) (by omega) hb
      omega
    · have : -n / b < 9000000000000000001 := by
        rw [Int.ediv_lt_iff_lt_mul (by omega)]
        have := Int.mul_le_mul_of_nonneg_left (c := 9000000000000000001) (a := 1) (b := b) hb (by omega)
        omega
      omega
  go_enter Try.func95, Try.ntmps95
  go_wp2_with (go_at_call 94; refine (floorB_any _ _ _ (by omega) (by omega) hb hb').mono ?_; rintro e w' ⟨rfl, rfl⟩)
  go_ret
  exact ⟨rfl, rfl⟩

def wtB (n lo hi : Int) : Bool := decide (lo ≤ n) && decide (n ≤ hi)

theorem within_any (n lo hi : Int) (w : World) :
    Calls Try.prog 45 #[.int .i64 n, .int .i64 lo, .int .i64 hi] w fun e w' => e = .returned (.bool (wtB n lo hi)) ∧ w = w' := by
  by_cases h1 : lo ≤ n
  · by_cases h2 : n ≤ hi
    · have HR := Bx.mk (show wtB n lo hi = true by unfold wtB; simp [h1, h2])
      go_enter Try.func45, Try.ntmps45
      go_wp2
      go_ret
      exact ⟨ret_bool HR.out.symm, rfl⟩
    · have HR := Bx.mk (show wtB n lo hi = false by unfold wtB; simp [h2])
      go_enter Try.func45, Try.ntmps45
      go_wp2
      go_ret
      exact ⟨ret_bool HR.out.symm, rfl⟩
  · have HR := Bx.mk (show wtB n lo hi = false by unfold wtB; simp [h1])
    go_enter Try.func45, Try.ntmps45
    go_wp2
    go_ret
    exact ⟨ret_bool HR.out.symm, rfl⟩

theorem wtB_yes {n lo hi : Int} (h1 : lo ≤ n) (h2 : n ≤ hi) : wtB n lo hi = true := by unfold wtB; simp [h1, h2]

theorem wtB_no {n lo hi : Int} (h : n < lo ∨ hi < n) : wtB n lo hi = false := by
  unfold wtB
  rcases h with h | h
  · have : ¬ lo ≤ n := by omega
    simp [this]
  · have : ¬ n ≤ hi := by omega
    simp [this]


end Go.Proofs.Ytokeimlnlmobpaa

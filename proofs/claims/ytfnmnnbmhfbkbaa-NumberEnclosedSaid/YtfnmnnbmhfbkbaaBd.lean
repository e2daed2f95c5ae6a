/- Contracts of the program, joined: Poly0 PolyM W14 BackP W15 PolyO W16 W17 -/
import Derived.Test.YtfnmnnbmhfbkbaaBc
import Derived.Test.YtfnmnnbmhfbkbaaBb
import Derived.Deep.RegionLaw
import Derived.Deep.AppendLies
import Derived.Maps.AppendAt
/-! Poly0 -/
set_option linter.unusedVariables false
set_option linter.unusedSimpArgs false
namespace Go.Proofs.Ytfnmnnbmhfbkbaa

abbrev Row := Nat → Int
/-- The derivative. -/
def dRow (z : Row) : Row := fun i => z (i + 1) * ((i : Int) + 1)
/-- The values and powers behind the last places. -/
def vpStep (z : Row) (N D : Int) (s : Int × Int) (i : Nat) : Int × Int := (s.1 * N + z i * s.2, s.2 * D)
/-- The value at N / D times a power of D, from the last place on: k places. -/
def vpN (z : Row) (N D : Int) (n : Nat) : Nat → Int × Int
  | 0 => (0, 1)
  | k + 1 => vpStep z N D (vpN z N D n k) (n - 1 - k)
/-- The same along places that have come. -/
def vpL {n : Nat} (z : Row) (N D : Int) (pre : List (Fin n)) : Int × Int := pre.foldl (fun s i => vpStep z N D s i.1) (0, 1)
theorem vpL_snoc {n : Nat} (z : Row) (N D : Int) (pre : List (Fin n)) (x : Fin n) : vpL z N D (pre ++ [x]) = vpStep z N D (vpL z N D pre) x.1 := by simp [vpL]
def sgAt (n : Nat) (z : Row) (N D : Int) : Int := cmpI (vpN z N D n n).1 0
/-- The sign just behind N / D. -/
def sgBehind (N D : Int) : Nat → Row → Int
  | 0, _ => 0
  | n + 1, z => if sgAt (n + 1) z N D ≠ 0 then sgAt (n + 1) z N D else sgBehind N D n (dRow z)
/-- Zeros at the end taken away. -/
def trimN : Nat → Row → Nat
  | 0, _ => 0
  | m + 1, z => if z m = 0 then trimN m z else m + 1
theorem trimN_le : ∀ (m : Nat) (z : Row), trimN m z ≤ m
  | 0, _ => Nat.le_refl _
  | m + 1, z => by
    unfold trimN; split
    · have := trimN_le m z; omega
    · exact Nat.le_refl _
theorem trimN_of {m k : Nat} {z : Row} (hk : k ≤ m) (h0 : ∀ i, k ≤ i → i < m → z i = 0) (h1 : 0 < k → z (k - 1) ≠ 0) : trimN m z = k := by
  induction m with
  | zero => obtain rfl : k = 0 := by omega
            rfl
  | succ m ih =>
    unfold trimN
    split
    · rename_i hz
      rcases Nat.eq_or_lt_of_le hk with e | e
      · subst e; exact absurd hz (h1 (by omega))
      · exact ih (by omega) (fun i a b => h0 i a (by omega))
    · rename_i hz
      rcases Nat.eq_or_lt_of_le hk with e | e
      · exact e.symm
      · exact absurd (h0 m (by omega) (by omega)) hz
/-- The factor of a step of division. -/
def facR (m : Nat) (r : Row) (last : Int) : Int := if last < 0 then -r (m - 1) else r (m - 1)
/-- One step of division: r times the size of q's last one, less what takes away the first one. -/
def stepR (m : Nat) (r : Row) (nq : Nat) (q : Row) : Row := fun i =>
  if m - nq ≤ i then r i * sz (q (nq - 1)) - q (i - (m - nq)) * facR m r (q (nq - 1)) else r i * sz (q (nq - 1))
theorem stepR_hi {a b : Nat} {r q : Row} {j : Nat} (h : a - b ≤ j) : stepR (a + 1) r (b + 1) q j = r j * sz (q b) - q (j - (a - b)) * facR (a + 1) r (q b) := by
  unfold stepR
  rw [if_pos (by omega), show a + 1 - (b + 1) = a - b by omega, show b + 1 - 1 = b by omega]
theorem stepR_lo {a b : Nat} {r q : Row} {j : Nat} (h : ¬ a - b ≤ j) : stepR (a + 1) r (b + 1) q j = r j * sz (q b) := by
  unfold stepR
  rw [if_neg (by omega), show b + 1 - 1 = b by omega]
theorem stepR_top {m : Nat} {r : Row} {nq : Nat} {q : Row} (hm : nq ≤ m) (hq : 0 < nq) : stepR m r nq q (m - 1) = 0 := by
  unfold stepR facR sz
  rw [if_pos (by omega), show m - 1 - (m - nq) = nq - 1 by omega]
  split
  · rw [Int.mul_neg, show ((q (nq - 1)).natAbs : Int) = -q (nq - 1) by omega, Int.mul_neg, Int.mul_comm]; omega
  · rw [show ((q (nq - 1)).natAbs : Int) = q (nq - 1) by omega, Int.mul_comm]; omega
def restR (nq : Nat) (q : Row) : Nat → Nat → Row → Nat × Row
  | 0, m, r => (m, r)
  | f + 1, m, r => if nq ≤ m then restR nq q f (trimN m (stepR m r nq q)) (stepR m r nq q) else (m, r)
/-- Sturm's chain behind its first two. -/
def chainR : Nat → Nat → Row → Nat → Row → List (Nat × Row)
  | 0, _, _, _, _ => []
  | f + 1, n, z, m, y => if m = 0 then [] else (m, y) :: chainR f m y (restR m y n n z).1 (fun i => -(restR m y n n z).2 i)
def sturmR (n : Nat) (z : Row) : List (Nat × Row) := (n, z) :: chainR n n z (n - 1) (dRow z)
/-- Changes of signs: (the changes, the sign before). -/
def chgStep (N D : Int) (s : Int × Int) (p : Nat × Row) : Int × Int := (if s.2 * sgBehind N D p.1 p.2 < 0 then s.1 + 1 else s.1, sgBehind N D p.1 p.2)
def chgR (N D : Int) (l : List (Nat × Row)) : Int := (l.foldl (chgStep N D) (0, 0)).1
def rootsR (n : Nat) (z : Row) (a b c d : Int) : Int := chgR a b (sturmR n z) - chgR c d (sturmR n z)

example : rootsR 3 (fun i => if i = 0 then -2 else if i = 1 then 0 else 1) (-2) 1 2 1 = 2 := by decide +kernel

end Go.Proofs.Ytfnmnnbmhfbkbaa

/-! PolyM -/
namespace Go.Proofs.Ytfnmnnbmhfbkbaa
open Go.RowKit

theorem LG.setIn {w : World} {b : Bool} {sv : Value} {z : Int} {L g : Nat} {x : Bool} (h : LG w b sv z L) (hb : w.cell? ⟨g, 0, none⟩ = some (.bool x)) (i j : Nat) (u v : Value) : LG ((w.setCell ⟨g, i, none⟩ u).setCell ⟨g, j, none⟩ v) b sv z L := by
  obtain ⟨A, n, c, f, e, h1, h2, h3, h4⟩ := h
  refine ⟨A, n, c, f, e, ⟨h1.1, fun hn => ?_⟩, h2, h3, h4⟩
  obtain ⟨k, e, hl, hc⟩ := h1.2 hn
  have hne : g ≠ k := by rintro rfl; have h0 := hc 0 hn; rw [hb] at h0; cases h0
  refine ⟨k, e, by simpa [World.setCell] using hl, fun j' hj => ?_⟩
  rw [World.cell?_setCell_other _ _ _ _ (by simp <;> omega), World.cell?_setCell_other _ _ _ _ (by simp <;> omega)]
  exact hc j' hj

/-- Block g holds the n coefficients z. -/
def PR (w : World) (g n : Nat) (z : Row) (L : Nat) : Prop :=
  g < w.heap.size ∧ ∀ i, i < n → ∃ b sv, w.cell? ⟨g, i * 2, none⟩ = some (.bool b) ∧ w.cell? ⟨g, i * 2 + 1, none⟩ = some sv ∧ w.frozen? ⟨g, i * 2, none⟩ = false ∧ w.frozen? ⟨g, i * 2 + 1, none⟩ = false ∧ LG w b sv (z i) L
/-- The slice at A does. -/
def PA (w : World) (A : Option Addr) (n : Nat) (z : Row) (L : Nat) : Prop := 0 < n → ∃ g, A = some ⟨g, 0, none⟩ ∧ PR w g n z L
theorem PR.below {w w' : World} {g n : Nat} {z : Row} {L B : Nat} (h : PR w g n z L) (hB : w.heap.size ≤ B) (hb : Below B w w') : PR w' g n z L :=
  ⟨Nat.lt_of_lt_of_le h.1 hb.size, fun i hi => by
    have hg := h.1
    obtain ⟨b, sv, h1, h2, h3, h4, h5⟩ := h.2 i hi
    exact ⟨b, sv, (hb.cell (p := ⟨g, i * 2, none⟩) (by show g < B; omega)).trans h1, (hb.cell (p := ⟨g, i * 2 + 1, none⟩) (by show g < B; omega)).trans h2,
      (hb.frozen (p := ⟨g, i * 2, none⟩) (by show g < B; omega)).trans h3, (hb.frozen (p := ⟨g, i * 2 + 1, none⟩) (by show g < B; omega)).trans h4, h5.below hB hb⟩⟩
theorem PA.below {w w' : World} {A : Option Addr} {n : Nat} {z : Row} {L B : Nat} (h : PA w A n z L) (hB : w.heap.size ≤ B) (hb : Below B w w') : PA w' A n z L := fun hn => by
  obtain ⟨g, e, hp⟩ := h hn
  exact ⟨g, e, hp.below hB hb⟩
theorem PR.congr {w : World} {g n : Nat} {z y : Row} {L : Nat} (h : PR w g n z L) (e : ∀ i, i < n → z i = y i) : PR w g n y L :=
  ⟨h.1, fun i hi => by rw [← e i hi]; exact h.2 i hi⟩
theorem PR.more {w : World} {g n : Nat} {z : Row} {L L' : Nat} (h : PR w g n z L) (hL : L ≤ L') : PR w g n z L' :=
  ⟨h.1, fun i hi => by
    obtain ⟨b, sv, h1, h2, h3, h4, h5⟩ := h.2 i hi
    exact ⟨b, sv, h1, h2, h3, h4, h5.more hL⟩⟩
theorem PR.less {w : World} {g n m : Nat} {z : Row} {L : Nat} (h : PR w g n z L) (hm : m ≤ n) : PR w g m z L := ⟨h.1, fun i hi => h.2 i (by omega)⟩
theorem PA.more {w : World} {A : Option Addr} {n : Nat} {z : Row} {L L' : Nat} (h : PA w A n z L) (hL : L ≤ L') : PA w A n z L' := fun hn => by
  obtain ⟨g, e, hp⟩ := h hn
  exact ⟨g, e, hp.more hL⟩
theorem PA.of {w : World} {g n : Nat} {z : Row} {L : Nat} (h : PR w g n z L) : PA w (some ⟨g, 0, none⟩) n z L := fun _ => ⟨g, rfl, h⟩
/-- One coefficient set. -/
theorem PR.set {w : World} {g n : Nat} {z : Row} {L : Nat} (h : PR w g n z L) {k : Nat} (hk : k < n) {b : Bool} {sv : Value} {v : Int} (hv : LG w b sv v L) :
    PR ((w.setCell ⟨g, k * 2, none⟩ (.bool b)).setCell ⟨g, k * 2 + 1, none⟩ sv) g n (upd z k v) L := by
  obtain ⟨b0, sv0, c0, -, -, -, -⟩ := h.2 0 (by omega)
  have c0' : w.cell? ⟨g, 0, none⟩ = some (.bool b0) := c0
  refine ⟨by simpa [World.setCell] using h.1, fun i hi => ?_⟩
  obtain ⟨b1, sv1, h1, h2, h3, h4, h5⟩ := h.2 i hi
  obtain ⟨b2, sv2, k1, k2, k3, k4, k5⟩ := h.2 k hk
  have e1 : (w.setCell ⟨g, k * 2, none⟩ (.bool b)).cell? ⟨g, k * 2, none⟩ = some (.bool b) := World.cell?_setCell_same' _ _ _ (by rw [k1]; rfl)
  have e2 : (w.setCell ⟨g, k * 2, none⟩ (.bool b)).cell? ⟨g, k * 2 + 1, none⟩ = some sv2 := by rw [World.cell?_setCell_other _ _ _ _ (by simp)]; exact k2
  by_cases e : i = k
  · subst e
    refine ⟨b, sv, ?_, World.cell?_setCell_same' _ _ _ (by rw [e2]; rfl), by simp only [World.frozen?_setCell]; exact h3, by simp only [World.frozen?_setCell]; exact h4, ?_⟩
    · rw [World.cell?_setCell_other _ _ _ _ (by simp)]; exact e1
    · rw [upd_same]; exact hv.setIn c0' _ _ _ _
  · refine ⟨b1, sv1, ?_, ?_, by simp only [World.frozen?_setCell]; exact h3, by simp only [World.frozen?_setCell]; exact h4, ?_⟩
    · rw [World.cell?_setCell_other _ _ _ _ (by simp <;> omega), World.cell?_setCell_other _ _ _ _ (by simp <;> omega)]; exact h1
    · rw [World.cell?_setCell_other _ _ _ _ (by simp <;> omega), World.cell?_setCell_other _ _ _ _ (by simp <;> omega)]; exact h2
    · rw [upd_other e]; exact h5.setIn c0' _ _ _ _

theorem LG.form {w : World} {b : Bool} {sv : Value} {z : Int} {L : Nat} (h : LG w b sv z L) : ∃ A n c, sv = .slice A n c := by
  obtain ⟨A, n, c, f, e, _⟩ := h
  exact ⟨A, n, c, e⟩
theorem LG.drew {w : World} {b : Bool} {sv : Value} {z : Int} {L : Nat} (h : LG w b sv z L) : LG w.drew b sv z L := h
/-- A whole number in a block of its own. -/
def LB (w : World) (g : Nat) (z : Int) (L : Nat) : Prop := PR w g 1 (fun _ => z) L
theorem LB.open {w : World} {g : Nat} {z : Int} {L : Nat} (h : LB w g z L) : ∃ b A n c, w.cell? ⟨g, 0, none⟩ = some (.bool b) ∧ w.cell? ⟨g, 1, none⟩ = some (.slice A n c) ∧ w.frozen? ⟨g, 0, none⟩ = false ∧ w.frozen? ⟨g, 1, none⟩ = false ∧ LG w b (.slice A n c) z L := by
  obtain ⟨b, sv, h1, h2, h3, h4, h5⟩ := h.2 0 (by omega)
  obtain ⟨A, n, c, rfl⟩ := h5.form
  exact ⟨b, A, n, c, h1, h2, h3, h4, h5⟩
theorem LB.below {w w' : World} {g : Nat} {z : Int} {L B : Nat} (h : LB w g z L) (hB : w.heap.size ≤ B) (hb : Below B w w') : LB w' g z L := PR.below h hB hb
theorem LB.put {w : World} {g : Nat} {z v : Int} {L : Nat} {b : Bool} {sv : Value} (h : LB w g z L) (hv : LG w b sv v L) : LB ((w.setCell ⟨g, 0, none⟩ (.bool b)).setCell ⟨g, 1, none⟩ sv) g v L :=
  (PR.set h (k := 0) (by omega) hv).congr fun i hi => by obtain rfl : i = 0 := by omega
                                                         exact upd_same _ _ _
theorem LB.more' {w : World} {g : Nat} {z : Int} {L L' : Nat} (h : LB w g z L) (hL : L ≤ L') : LB w g z L' := PR.more h hL
theorem PR.other {w : World} {g k n : Nat} {z : Row} {y : Int} {L L' : Nat} (h : PR w g n z L) (hk : LB w k y L') (hne : g ≠ k) (i j : Nat) (u v : Value) : PR ((w.setCell ⟨k, i, none⟩ u).setCell ⟨k, j, none⟩ v) g n z L := by
  obtain ⟨b0, A0, n0, c0, k0, -, -, -, -⟩ := hk.open
  refine ⟨by simpa [World.setCell] using h.1, fun t ht => ?_⟩
  obtain ⟨b1, sv1, h1, h2, h3, h4, h5⟩ := h.2 t ht
  refine ⟨b1, sv1, ?_, ?_, by simp only [World.frozen?_setCell]; exact h3, by simp only [World.frozen?_setCell]; exact h4, h5.setIn k0 _ _ _ _⟩
  · rw [World.cell?_setCell_other _ _ _ _ (by simp <;> omega), World.cell?_setCell_other _ _ _ _ (by simp <;> omega)]; exact h1
  · rw [World.cell?_setCell_other _ _ _ _ (by simp <;> omega), World.cell?_setCell_other _ _ _ _ (by simp <;> omega)]; exact h2
theorem LB.new {w : World} {b : Bool} {sv : Value} {z : Int} {L : Nat} (h : LG w b sv z L) : LB (w.alloc (.cells #[.bool b, sv] 130)) w.heap.size z L := by
  refine ⟨by simp, fun i hi => ?_⟩
  obtain rfl : i = 0 := by omega
  exact ⟨b, sv, by simp [go_sem], by simp [go_sem], by simp [go_sem], by simp [go_sem], h.below (Nat.le_refl _) ((Below.refl _ _).alloc (Nat.le_refl _) _)⟩
theorem PR.alloc {w : World} {g n : Nat} {z : Row} {L : Nat} (h : PR w g n z L) (o : Obj) : PR (w.alloc o) g n z L := h.below (Nat.le_refl _) ((Below.refl _ _).alloc (Nat.le_refl _) o)
theorem LB.alloc {w : World} {g : Nat} {z : Int} {L : Nat} (h : LB w g z L) (o : Obj) : LB (w.alloc o) g z L := PR.alloc h o
theorem PA.alloc {w : World} {A : Option Addr} {n : Nat} {z : Row} {L : Nat} (h : PA w A n z L) (o : Obj) : PA (w.alloc o) A n z L := h.below (Nat.le_refl _) ((Below.refl _ _).alloc (Nat.le_refl _) o)
theorem LG.kept {w w' : World} {b : Bool} {sv : Value} {z : Int} {L : Nat} {row : Option Nat} (h : LG w b sv z L) (hg : w.grownBy w' row) (hr : ∀ r, row = some r → ∃ o : Obj, w.heap[r]? = some o ∧ o.isCells = false) : LG w' b sv z L := by
  obtain ⟨A, n, c, f, e, h1, h2, h3, h4⟩ := h
  refine ⟨A, n, c, f, e, ⟨h1.1, fun hn => ?_⟩, h2, h3, h4⟩
  obtain ⟨k, e, hl, hc⟩ := h1.2 hn
  exact ⟨k, e, Nat.lt_of_lt_of_le hl hg.size, fun j hj => cell_kept (hc j hj) hg hr⟩
theorem PR.kept {w w' : World} {g n : Nat} {z : Row} {L : Nat} {row : Option Nat} (h : PR w g n z L) (hg : w.grownBy w' row) (hr : ∀ r, row = some r → ∃ o : Obj, w.heap[r]? = some o ∧ o.isCells = false) : PR w' g n z L :=
  ⟨Nat.lt_of_lt_of_le h.1 hg.size, fun i hi => by
    obtain ⟨b, sv, h1, h2, h3, h4, h5⟩ := h.2 i hi
    exact ⟨b, sv, cell_kept h1 hg hr, cell_kept h2 hg hr, (frozen_kept h1 hg hr).trans h3, (frozen_kept h2 hg hr).trans h4, h5.kept hg hr⟩⟩
theorem keepsFrom_below {B : Nat} {W W' : World} (h : Below W.heap.size W W') : KeepsFrom B W W' := ⟨h.size, fun i o _ hi _ => (h.block i (by
  rcases Nat.lt_or_ge i W.heap.size with h1 | h1
  · exact h1
  · rw [Array.getElem?_eq_none h1] at hi; cases hi)).trans hi⟩

/-- The ints in a slice. -/
def IS (w : World) (A : Option Addr) (n : Nat) (p : Row) : Prop :=
  (∀ i, i < n → I64 (p i)) ∧ (0 < n → ∃ b off, A = some ⟨b, off, none⟩ ∧ b < w.heap.size ∧ ∀ j, j < n → w.cell? ⟨b, off + j, none⟩ = some (.int .i64 (p j)))
theorem IS.below {w w' : World} {A : Option Addr} {n : Nat} {p : Row} {B : Nat} (h : IS w A n p) (hB : w.heap.size ≤ B) (hb : Below B w w') : IS w' A n p :=
  ⟨h.1, fun hn => by
    obtain ⟨b, off, e, hl, hc⟩ := h.2 hn
    exact ⟨b, off, e, Nat.lt_of_lt_of_le hl hb.size, fun j hj => (hb.cell (p := ⟨b, off + j, none⟩) (by show b < B; omega)).trans (hc j hj)⟩⟩

theorem info_long : (Try.prog.info? 130).map (fun i => (i.zero, i.size, i.bytes)) = some (some (.agg #[.bool false, .slice none 0 0]), 2, 32) := by kernel_rfl

theorem run_make_rowN {P : Program} (t e : TypeId) (i : TypeInfo) (z : Value) (ht : P.underlying t = some (.slice e)) (hi : P.info? e = some i) (hz : i.zero = some z)
    (kl kc : IntKind) (n c : Nat) (hnc : n ≤ c) (hbytes : i.bytes * c ≤ 281474976710656) (h63 : c ≤ 9223372036854775807) (w : World) :
    (Instr.makeSlice t (.int kl (n : Int)) (.int kc (c : Int))).run P w = .ok (.slice (some ⟨w.heap.size, 0, none⟩) n c) (w.alloc (.cells (madeCells z.cells (c * i.size)) e)) := by
  have hb : (i.bytes : Int) * (c : Int) ≤ 281474976710656 := by
    have h : ((i.bytes * c : Nat) : Int) ≤ 281474976710656 := by omega
    rwa [Int.natCast_mul] at h
  have hr := run_make (P := P) w t e i z ht hi hz kl kc n c (by omega) (by omega) hb (by omega)
  simp only [Int.toNat_natCast] at hr
  exact hr
theorem run_make_poly (n : Nat) (hn : n ≤ 1000000) (w : World) :
    (Instr.makeSlice 111 (.int .i64 (n : Int)) (.int .i64 (n : Int))).run Try.prog w = .ok (.slice (some ⟨w.heap.size, 0, none⟩) n n) (w.alloc (.cells (madeCells #[.bool false, .slice none 0 0] (n * 2)) 130)) := by
  obtain ⟨i, hi, hzz⟩ := Option.map_eq_some_iff.1 info_long
  simp only [Prod.mk.injEq] at hzz
  obtain ⟨hz, hs, hb⟩ := hzz
  have := run_make_rowN (P := Try.prog) 111 130 i _ Try.underlying111 hi hz .i64 .i64 n n (Nat.le_refl _) (by rw [hb]; omega) (by omega) w
  rw [hs] at this
  exact this
theorem LG.zero (w : World) (L : Nat) : LG w false (.slice none 0 0) 0 L := ⟨none, 0, 0, fun _ => 0, rfl, ⟨fun _ h => by omega, fun h => by omega⟩, fun h => by omega, by omega, rfl⟩
/-- What make lays: zeros. -/
theorem PR.made (w : World) (n L : Nat) : PR (w.alloc (.cells (madeCells #[.bool false, .slice none 0 0] (n * 2)) 130)) w.heap.size n (fun _ => 0) L := by
  have hr : (w.alloc (.cells (madeCells #[.bool false, .slice none 0 0] (n * 2)) 130)).rowIs w.heap.size 130 (madeCells #[.bool false, .slice none 0 0] (n * 2)).size (fun j => if j % 2 = 0 then .bool false else .slice none 0 0) := by
    refine World.rowIs_alloc _ _ _ _ (fun i hi => ?_)
    have hi' : i < n * 2 := by rw [size_madeCells] at hi; exact hi
    simp only [madeCells, Array.getElem?_map, Array.getElem?_range]
    rcases Nat.mod_two_eq_zero_or_one i with h | h <;> simp [hi', h]
  rw [size_madeCells] at hr
  refine ⟨by simp, fun i hi => ⟨false, .slice none 0 0, ?_, ?_, hr.frozen _, hr.frozen _, LG.zero _ _⟩⟩
  · rw [hr.cell (by omega), if_pos (by omega)]
  · rw [hr.cell (by omega), if_neg (by omega)]

end Go.Proofs.Ytfnmnnbmhfbkbaa

/-! W14 -/
namespace Go.Proofs.Ytfnmnnbmhfbkbaa
open Go.RowKit

set_option maxHeartbeats 2000000 in
theorem longPoly_any (A : Option Addr) (n c : Nat) (p : Row) (w : World) (hA : IS w A n p) (hn : n ≤ 1000) :
    Calls Try.prog 105 #[.slice A n c] w fun e w' => ∃ g, e = .returned (.slice (some ⟨g, 0, none⟩) n n) ∧ PR w' g n p 1 ∧ Below w.heap.size w w' := by
  have hmk := run_make_poly n (by omega)
  go_enter Try.func105, Try.ntmps105
  go_wp2
  have hrow := PR.made w n 1
  generalize hW : w.alloc (.cells (madeCells #[.bool false, .slice none 0 0] (n * 2)) 130) = W0 at *
  have hB0 : Below w.heap.size w W0 := by rw [← hW]; exact (Below.refl _ _).alloc (Nat.le_refl _) _
  clear hW
  go_loopw [11] (fun i wr => ∃ (k : Nat) (z : Row), k ≤ n ∧ i = .int .i64 k ∧ Hid (∀ i, i < k → z i = p i) ∧ Hid (PR wr w.heap.size n z 1) ∧ Below w.heap.size w wr) (fun i _ => n - (intOf i).toNat)
  case atStart => exact ⟨0, _, by omega, rfl, fun _ h => by omega, hrow, hB0⟩
  case round =>
    obtain ⟨k, z, hk, rfl, HZ, HR, hB⟩ := hrel
    clear hrow hB0 hmk
    by_cases hlt : k < n
    · have hlt' : (k : Int) < n := by omega
      obtain ⟨b1, off, rfl, hb1, hcl1⟩ := hA.2 (by omega)
      have hcx := (hB.cell (p := ⟨b1, off + k, none⟩) hb1).trans (hcl1 k hlt)
      have hx := hA.1 k hlt
      clear hcl1
      obtain ⟨b0, sv0, c0, c1, f0, f1, _⟩ := HR.out.2 k hlt
      have hg := HR.out.1
      go_wp2_with (go_at_call 121; refine (longOf_any _ _ hx).mono ?_; rintro e w1 ⟨b2, s2, rfl, hL, hB1⟩; have d0 := (hB1.cell (p := ⟨w.heap.size, k * 2, none⟩) hg).trans c0; have d1 := (hB1.cell (p := ⟨w.heap.size, k * 2 + 1, none⟩) hg).trans c1; have d2 := (hB1.frozen (p := ⟨w.heap.size, k * 2, none⟩) hg).trans f0; have d3 := (hB1.frozen (p := ⟨w.heap.size, k * 2 + 1, none⟩) hg).trans f1; obtain ⟨A2, n2, c2, f2, rfl, _⟩ := id hL)
      go_roundw
      case rel =>
        exact ⟨k + 1, _, by omega, by go_num, fun i hi => by
          by_cases e : i = k
          · subst e; exact upd_same _ _ _
          · rw [upd_other e]; exact HZ.out i (by omega), (HR.out.below (Nat.le_refl _) hB1).set hlt hL, ((hB.trans (hB1.mono hB.size)).setCell (Nat.le_refl _) _).setCell (Nat.le_refl _) _⟩
      case measure => simp [intOf]; omega
    · obtain rfl : k = n := by omega
      go_wp2
      go_ret
      exact ⟨_, rfl, HR.out.congr HZ.out, hB⟩

end Go.Proofs.Ytfnmnnbmhfbkbaa

/-! BackP -/
namespace Go.Proofs.Ytfnmnnbmhfbkbaa
open Go.RowKit Go.Shelf
attribute [local go_sem] Oper.semAt_some

/-- What a round keeps: what lay below, and the slice's own box. -/
def KpB (n₀ Bs : Nat) (A B : World) : Prop := Below n₀ A B ∧ B.cell? ⟨Bs, 0, none⟩ = A.cell? ⟨Bs, 0, none⟩
theorem KpB.t {n₀ Bs : Nat} {A B C : World} (h : KpB n₀ Bs A B) (k : KpB n₀ Bs B C) : KpB n₀ Bs A C := ⟨h.1.trans k.1, k.2.trans h.2⟩
theorem kpB_b {n₀ Bs : Nat} {w : World} (hn : n₀ ≤ w.heap.size) (hb : Bs < w.heap.size) (W : World) (l : Nat) (o o' : Obj) (hl : w.heap.size ≤ l) (h : W.heap[l]? = some o) (h1 : o.isCells = false) (h2 : o.isWalk = false) : KpB n₀ Bs W (W.putObj l o') :=
  ⟨belowK_b hn W l o o' hl h h1 h2, (belowK_b (n₀ := w.heap.size) (w := w) (Nat.le_refl _) W l o o' hl h h1 h2).cell (p := ⟨Bs, 0, none⟩) hb⟩

set_option maxRecDepth 100000 in
set_option maxHeartbeats 2000000 in
theorem backPoly1_in (F : Fence) (nn : Nat) (h8 : F.fn 138) (hro : F.round = none) (hn : 1 ≤ nn) (l Bs n₀ : Nat) (A : Option Addr) (n cap : Nat) (bf : Nat → Bool) (sf : Nat → Value) (hreach : n ≤ 1000000000000) (J Jx : List (Fin n) → World → Prop)
    (hY : ∀ (pre : List (Fin n)) (x : Fin n) (W : World), J pre W → pre.length < n → YieldAt F (nn - 1) Try.prog l #[.int .i64 (x.1 : Int), .agg #[.bool (bf x.1), sf x.1]] W fun e W' =>
      (e = .returned (.bool true) ∧ J (pre ++ [x]) W' ∧ KpB n₀ Bs W W') ∨ (e = .returned (.bool false) ∧ Jx (pre ++ [x]) W'))
    (W : World) (hBs : W.cell? ⟨Bs, 0, none⟩ = some (.slice A n cap)) (hc : 0 < n → ∃ b, A = some ⟨b, 0, none⟩ ∧ b < n₀ ∧ ∀ j, j < n → W.cell? ⟨b, j * 2, none⟩ = some (.bool (bf j)) ∧ W.cell? ⟨b, j * 2 + 1, none⟩ = some (sf j)) (h0 : J [] W) :
    CallsIn F nn Try.prog 138 #[.func (.yield l) #[] #[], .pointer (some ⟨Bs, 0, none⟩)] W fun e W' => (∃ v, e = .returned v) ∧
      ((∃ ys, ys = bk n ∧ J ys W') ∨ (∃ pre, pre <+: bk n ∧ Jx pre W')) := by
  refine callsIn_of_wp Try.func138 rfl h8 ?_ hro
  simp only [Try.ntmps138, List.size_toArray, List.length_cons, List.length_nil, Nat.reduceAdd, Nat.reduceSub, Array.replicate_succ, Array.replicate_zero, List.push_toArray, List.append_toArray, List.nil_append, List.cons_append]
  gi_wp2
  gi_loopw [3] (fun i wr => ∃ r k : Nat, Hid (k + r = n) ∧ k ≤ n ∧ i = .int .i64 ((r : Int) - 1) ∧ Hid (J ((bk n).take k) wr) ∧ Below n₀ W wr ∧ wr.cell? ⟨Bs, 0, none⟩ = W.cell? ⟨Bs, 0, none⟩)
    (fun i _ => (intOf i + 1).toNat)
  case atStart => exact ⟨n, 0, by simp [Hid], by omega, rfl, by simpa [Hid] using h0, Below.refl _ _, rfl⟩
  case round =>
    obtain ⟨r, k, HK, hk, rfl, HJ, hnx, hbx⟩ := hrel
    have hBs' := hbx.trans hBs
    have HBX := Lib.hid hbx
    clear hbx
    rcases Nat.eq_zero_or_pos r with hr | hr
    · subst hr
      rw [show ((0 : Nat) : Int) - 1 = -1 from rfl]
      gi_wp2
      go_end0
      refine ⟨⟨_, rfl⟩, .inl ⟨_, rfl, ?_⟩⟩
      have h1 := HJ.out
      rw [List.take_of_length_le (by rw [bk_length]; have := HK.out; omega)] at h1
      exact h1
    · obtain ⟨r, rfl⟩ : ∃ q, r = q + 1 := ⟨r - 1, by omega⟩
      rw [show ((r + 1 : Nat) : Int) - 1 = (r : Int) by omega]
      have hkn : k < n := by have := HK.out; omega
      have hrn : r < n := by have := HK.out; omega
      obtain ⟨b, rfl, hb, hcs⟩ := hc (by omega)
      have hcx := (hnx.cell (p := ⟨b, r * 2, none⟩) hb).trans (hcs r hrn).1
      have hcy := (hnx.cell (p := ⟨b, r * 2 + 1, none⟩) hb).trans (hcs r hrn).2
      have hrr : n - 1 - k = r := by have := HK.out; omega
      have hJ1 := hY ((bk n).take k) ⟨r, hrn⟩ wr HJ.out (by rw [List.length_take, bk_length]; omega)
      have HT := Lib.hid (show (bk n).take (k + 1) = (bk n).take k ++ [⟨r, hrn⟩] by rw [bk_take hkn]; congr 2; simp [hrr])
      obtain ⟨fn, tmps, assign, body, hy, hR⟩ := hJ1
      dsimp only at hy
      clear hcs hrr
      gi_wp2
      refine hR.mono ?_
      rintro e W3 (⟨rfl, hJ3, hk3, hk4⟩ | ⟨rfl, hJx3⟩)
      · have HJ3 := Lib.hid hJ3
        have HK4 := Lib.hid hk4
        clear hJ3 hk4
        gi_wp2
        go_roundw
        case rel => exact ⟨r, k + 1, by have := HK.out; simp only [Hid]; omega, by omega, rfl, by simp only [Hid]; rw [HT.out]; exact HJ3.out, hnx.trans hk3, HK4.out.trans HBX.out⟩
        case measure => simp [intOf]
      · have HJ3 := Lib.hid hJx3
        clear hJx3
        gi_wp2
        refine bodyPost_ret (results_none rfl _ _ _) rfl ?_
        exact ⟨⟨_, rfl⟩, .inr ⟨_, by rw [← HT.out]; exact List.take_prefix _ _, HJ3.out⟩⟩

set_option maxHeartbeats 1000000 in
theorem backPoly_in (F : Fence) (nn : Nat) (h5 : F.fn 122) (hro : F.round = none) (a : Option Addr) (len cap : Nat) (w : World) :
    CallsIn F nn Try.prog 122 #[.slice a len cap] w fun e w' => e = .returned (.func (.func 138) #[] #[.pointer (some ⟨w.heap.size, 0, none⟩)]) ∧ w' = w.alloc (.cells #[.slice a len cap] 111) := by
  refine callsIn_of_wp Try.func122 rfl h5 ?_ hro
  simp only [Try.ntmps122, List.size_toArray, List.length_cons, List.length_nil, Nat.reduceAdd, Nat.reduceSub, Array.replicate_succ, Array.replicate_zero, List.push_toArray, List.append_toArray, List.nil_append, List.cons_append]
  gi_wp2
  go_ret
  exact ⟨rfl, rfl⟩

theorem backPoly_stops (F : Fence) (nn : Nat) (h8 : F.fn 138) (hro : F.round = none) (hn : 1 ≤ nn) (Bs n₀ : Nat) (A : Option Addr) (n cap : Nat) (bf : Nat → Bool) (sf : Nat → Value) (hreach : n ≤ 1000000000000) (w : World) (hBs : Bs < w.heap.size) (hn₀ : n₀ ≤ w.heap.size)
    (hc : w.cell? ⟨Bs, 0, none⟩ = some (.slice A n cap)) (hI : 0 < n → ∃ b, A = some ⟨b, 0, none⟩ ∧ b < n₀ ∧ ∀ j, j < n → w.cell? ⟨b, j * 2, none⟩ = some (.bool (bf j)) ∧ w.cell? ⟨b, j * 2 + 1, none⟩ = some (sf j)) :
    SeqStopsK F nn Try.prog 138 #[.pointer (some ⟨Bs, 0, none⟩)] (fun x : Fin n => #[Value.int .i64 (x.1 : Int), Value.agg #[.bool (bf x.1), sf x.1]]) (KpB n₀ Bs) (fun ys => ys = bk n) (fun pre => pre <+: bk n) n w := fun l J Jx W hW _ _ hY h0 => by
  have hc' := (hW.cell (p := ⟨Bs, 0, none⟩) hBs).trans hc
  exact backPoly1_in F nn h8 hro hn l Bs n₀ A n cap bf sf hreach J Jx hY W hc' (fun h => by
    obtain ⟨b, e, hb, hcs⟩ := hI h
    exact ⟨b, e, hb, fun j hj => ⟨(hW.cell (p := ⟨b, j * 2, none⟩) (by show b < _; omega)).trans (hcs j hj).1, (hW.cell (p := ⟨b, j * 2 + 1, none⟩) (by show b < _; omega)).trans (hcs j hj).2⟩⟩) h0

end Go.Proofs.Ytfnmnnbmhfbkbaa

/-! W15 -/
namespace Go.Proofs.Ytfnmnnbmhfbkbaa
open Go.RowKit Go.Shelf
attribute [local go_sem] Oper.semAt_some

theorem vpL_take (z : Row) (N D : Int) (n : Nat) : ∀ k, k ≤ n → vpL z N D ((bk n).take k) = vpN z N D n k
  | 0, _ => by simp [vpL, vpN]
  | k + 1, h => by rw [bk_take (by omega), vpL_snoc, vpL_take z N D n k (by omega)]; rfl
theorem vpL_bk (z : Row) (N D : Int) (n : Nat) : vpL z N D (bk n) = vpN z N D n n := by
  have h := vpL_take z N D n n (Nat.le_refl _)
  rwa [List.take_of_length_le (by rw [bk_length]; omega)] at h

set_option maxRecDepth 100000 in
set_option maxHeartbeats 1000000 in
theorem signAt_any (A : Option Addr) (n c : Nat) (z : Row) (L : Nat) (N D : Int) (w : World) (hA : PA w A n z L) (hn : n ≤ 100) (hL : L ≤ 1000000000) (hN : I64 N) (hD : I64 D) :
    Calls Try.prog 106 #[.slice A n c, .int .i64 N, .int .i64 D] w fun e w' => e = .returned (.int .i64 (sgAt n z N D)) ∧ Below w.heap.size w w' := by
  refine (callsIn_wide (n := 3)).1 ?_
  refine callsIn_of_wp_marks Try.func106 rfl trivial ?_ rfl
  simp only [Try.ntmps106, List.size_toArray, List.length_cons, List.length_nil, Nat.reduceAdd, Nat.reduceSub, Array.replicate_succ, Array.replicate_zero, List.push_toArray, List.append_toArray, List.nil_append, List.cons_append]
  gi_wp2_with (fail)
  refine ⟨trivial, ?_⟩
  refine (callsIn_wide.2 (longOf_any N _ hN)).mono ?_
  rintro e w1 ⟨b1, s1, rfl, L1, B1⟩
  obtain ⟨A1, n1, c1, rfl⟩ := L1.form
  gi_wp2_with (fail)
  refine ⟨trivial, ?_⟩
  refine (callsIn_wide.2 (longOf_any D _ hD)).mono ?_
  rintro e w2 ⟨b2, s2, rfl, L2, B2⟩
  obtain ⟨A2, n2, c2, rfl⟩ := L2.form
  gi_wp2_with (fail)
  refine ⟨trivial, ?_⟩
  have o7 := (LB.new (L1.below (Nat.le_refl _) B2)).alloc (.cells #[.bool b2, .slice A2 n2 c2] 130)
  have o8 := LB.new (L2.below (Nat.le_refl _) ((Below.refl _ _).alloc (Nat.le_refl _) (.cells #[.bool b1, .slice A1 n1 c1] 130)))
  rw [World.size_alloc] at o8
  refine (callsIn_wide.2 (longOf_any 1 _ ⟨by omega, by omega⟩)).mono ?_
  rintro e w3 ⟨b3, s3, rfl, L3, B3⟩
  obtain ⟨A3, n3, c3, rfl⟩ := L3.form
  gi_wp2_with (refine ⟨trivial, ?_⟩; gi_at_call 122; refine (backPoly_in Fence.wide _ trivial rfl _ _ _ _).mono ?_; rintro e w' ⟨rfl, rfl⟩)
  have o9 := (LB.new (LG.zero w3 (0 * (L + n + 3)))).alloc (.cells #[.bool b3, .slice A3 n3 c3] 130)
  have o10 := LB.new (L3.below (Nat.le_refl _) ((Below.refl _ _).alloc (Nat.le_refl _) (.cells #[.bool false, .slice none 0 0] 130)))
  rw [World.size_alloc] at o10
  have bN := Boxed.new ((w3.alloc (.cells #[.bool false, .slice none 0 0] 130)).alloc (.cells #[.bool b3, .slice A3 n3 c3] 130)) 111 (.slice A n c)
  simp only [World.size_alloc] at bN
  have q9 := o9.alloc (.cells #[.slice A n c] 111)
  have q10 := o10.alloc (.cells #[.slice A n c] 111)
  have p7 := (((o7.below (Nat.le_refl _) B3).alloc (.cells #[.bool false, .slice none 0 0] 130)).alloc (.cells #[.bool b3, .slice A3 n3 c3] 130)).alloc (.cells #[.slice A n c] 111)
  have p8 := (((o8.below (Nat.le_refl _) B3).alloc (.cells #[.bool false, .slice none 0 0] 130)).alloc (.cells #[.bool b3, .slice A3 n3 c3] 130)).alloc (.cells #[.slice A n c] 111)
  have z1 := B1.size
  have z2 := B2.size
  have z3 := B3.size
  simp only [World.size_alloc] at z3
  have hB0 : Below w.heap.size w (((w3.alloc (.cells #[.bool false, .slice none 0 0] 130)).alloc (.cells #[.bool b3, .slice A3 n3 c3] 130)).alloc (.cells #[.slice A n c] 111)) :=
    ((((((B1.trans (B2.mono z1)).alloc (by omega) _).alloc (by simp; omega) _).trans (B3.mono (by simp; omega))).alloc (by omega) _).alloc (by simp; omega) _).alloc (by simp; omega) _
  have hsz : (((w3.alloc (.cells #[.bool false, .slice none 0 0] 130)).alloc (.cells #[.bool b3, .slice A3 n3 c3] 130)).alloc (.cells #[.slice A n c] 111)).heap.size = w3.heap.size + 3 := by simp
  generalize hWX : (((w3.alloc (.cells #[.bool false, .slice none 0 0] 130)).alloc (.cells #[.bool b3, .slice A3 n3 c3] 130)).alloc (.cells #[.slice A n c] 111)) = WX at *
  clear hWX o7 o8 o9 o10
  generalize hB7 : w2.heap.size = B7 at *
  generalize hB9 : w3.heap.size = B9 at *
  have HSZ := Lib.hid hsz
  have H7 := Lib.hid hB7
  clear hsz hB7 hB9 L1 L2 L3 B2 B3 B1
  have hPA := hA.below (Nat.le_refl _) hB0
  obtain ⟨bf, sf, hbs⟩ : ∃ (bf : Nat → Bool) (sf : Nat → Value), 0 < n → ∃ g, A = some ⟨g, 0, none⟩ ∧ g < WX.heap.size ∧ ∀ j, j < n → (WX.cell? ⟨g, j * 2, none⟩ = some (.bool (bf j)) ∧ WX.cell? ⟨g, j * 2 + 1, none⟩ = some (sf j)) ∧ LG WX (bf j) (sf j) (z j) L := by
    rcases Nat.eq_zero_or_pos n with h0 | h0
    · exact ⟨fun _ => false, fun _ => .slice none 0 0, fun h => by omega⟩
    · obtain ⟨g, e, hp⟩ := hPA h0
      have h1 : ∀ j, ∃ p : Bool × Value, j < n → (WX.cell? ⟨g, j * 2, none⟩ = some (.bool p.1) ∧ WX.cell? ⟨g, j * 2 + 1, none⟩ = some p.2) ∧ LG WX p.1 p.2 (z j) L := fun j => by
        by_cases hj : j < n
        · obtain ⟨b, sv, c1, c2, _, _, hl⟩ := hp.2 j hj
          exact ⟨(b, sv), fun _ => ⟨⟨c1, c2⟩, hl⟩⟩
        · exact ⟨(false, .slice none 0 0), fun h => absurd h hj⟩
      obtain ⟨ff, hff⟩ := Classical.skolem.1 h1
      exact ⟨fun j => (ff j).1, fun j => (ff j).2, fun _ => ⟨g, e, hp.1, fun j hj => hff j hj⟩⟩
  refine wpIn_rangeFunc_ownH rfl (by omega) (gf := 138) (lb := #[.pointer (some ⟨B9 + 1 + 1, 0, none⟩)]) rfl trivial (enters_of Try.func138 (by kernel_rfl) rfl)
    (backPoly_stops Fence.wide _ trivial rfl (by omega) (B9 + 1 + 1) w.heap.size A n c bf sf (by omega) WX (by rw [HSZ.out]; omega) (by rw [HSZ.out]; omega) bN.cell (fun h => by
      obtain ⟨g, e, hg, hcs⟩ := hbs h
      obtain ⟨g', e', hp'⟩ := hA h
      rw [e] at e'; injection e' with e'; injection e' with e'; subst e'
      exact ⟨g, e, hp'.1, fun j hj => (hcs j hj).1⟩)) KpB.t (kpB_b (by rw [HSZ.out]; omega) (by rw [HSZ.out]; omega)) (Below.refl _ _) (fun _ => rfl)
    (fun pre W => (LB W B7 N 1 ∧ LB W (B7 + 1) D 1 ∧ LB W B9 (vpL z N D pre).1 (pre.length * (L + n + 3)) ∧ LB W (B9 + 1) (vpL z N D pre).2 (1 + pre.length)) ∧ (Below w.heap.size w W ∧ B9 + 1 + 1 < W.heap.size) ∧ (∀ j, j < n → LG W (bf j) (sf j) (z j) L))
    (fun _ _ _ => False)
    (OwnFrom.and (Own.from (fun s A B row hs hg hr => ⟨PR.kept hs.1 hg hr, PR.kept hs.2.1 hg hr, PR.kept hs.2.2.1 hg hr, PR.kept hs.2.2.2 hg hr⟩) _) (OwnFrom.and (OwnFrom.and (ownFrom_below (Nat.le_refl _) (by rw [HSZ.out]; omega)) (Own.from (fun s A B row hs hg hr => Nat.lt_of_lt_of_le hs hg.size) _)) (Own.from (fun s A B row hs hg hr => fun j hj => (hs j hj).kept hg hr) _)))
    (fun _ _ _ _ _ hs _ _ => hs)
    ⟨⟨p7, p8, q9, q10⟩, ⟨hB0, by rw [HSZ.out]; omega⟩, fun j hj => by
      obtain ⟨g, e, hg, hcs⟩ := hbs (by omega)
      exact (hcs j hj).2⟩
    (fun x a' W => ∃ Bx, B9 + 1 < Bx ∧ LB W Bx (z x.1) L ∧ a' = { tmps := #[.slice A n c, .int .i64 N, .int .i64 D, undef, undef, undef, .int .i64 0, .pointer (some ⟨B7, 0, none⟩), .pointer (some ⟨B7 + 1, 0, none⟩), .pointer (some ⟨B9, 0, none⟩), .pointer (some ⟨B9 + 1, 0, none⟩), undef, .pointer (some ⟨Bx, 0, none⟩), .int .i64 N, .agg #[.bool b1, .slice A1 n1 c1], .int .i64 D, .agg #[.bool b2, .slice A2 n2 c2], .agg #[.bool false, .slice none 0 0], .agg #[.bool b3, .slice A3 n3 c3], .slice A n c, .func (.func 138) #[] #[.pointer (some ⟨B9 + 1 + 1, 0, none⟩)], .int .i64 (x.1 : Int), .agg #[.bool (bf x.1), sf x.1], undef, undef, undef, undef, undef, undef, undef, undef, undef, undef, undef, undef], defers := [] })
    (fun x a' _ X Y row hs hg hr => by obtain ⟨Bx, h1, h2, h3⟩ := hs; exact ⟨Bx, h1, PR.kept h2 hg (fun r e => (hr r e).2), h3⟩)
    ?assign ?body ?done ?stop
  case assign =>
    rintro l pre ⟨x, hx⟩ W K ⟨⟨h7, h8, h9, h10⟩, ⟨hB, hbx⟩, hlg⟩ hK
    obtain ⟨Ax, nx, cx, hsf⟩ := (hlg x hx).form
    have hlx := hlg x hx
    have HK := Lib.hid hK
    clear hK
    dsimp only
    rw [hsf] at hlx ⊢
    have HSF := Lib.hid hsf
    have HLG := Lib.hid hlg
    clear hsf hlg
    gi_wp2
    refine HK.out _ _ ((KeepsOthers.alloc _ _).from _) ⟨(Below.refl _ W).alloc hB.size _, (Below.refl W.heap.size W).alloc (Nat.le_refl _) _ |>.cell (p := ⟨B9 + 1 + 1, 0, none⟩) hbx⟩ ⟨⟨h7.alloc _, h8.alloc _, h9.alloc _, h10.alloc _⟩, ⟨hB.alloc hB.size _, by simp; omega⟩, fun j hj => (HLG.out j hj).below (Nat.le_refl _) ((Below.refl _ _).alloc (Nat.le_refl _) _)⟩ ⟨W.heap.size, by omega, LB.new hlx, ?_⟩
    rw [HSF.out]
  case body =>
    rintro l pre ⟨x, hx⟩ a' W hl ⟨r, hr⟩ ⟨⟨h7, h8, h9, h10⟩, ⟨hB, hbx⟩, hlg⟩ ⟨Bx, hBx, hX, rfl⟩ hlt
    obtain ⟨b7, A7, n7, c7, c70, c71, f70, f71, g7⟩ := h7.open
    obtain ⟨b8, A8, n8, c8, c80, c81, f80, f81, g8⟩ := h8.open
    obtain ⟨b9, A9, n9, c9, c90, c91, f90, f91, g9⟩ := h9.open
    obtain ⟨b0, A0, n0, c0, c00, c01, f00, f01, g0⟩ := h10.open
    obtain ⟨bx, AX, nx, cx, cx0, cx1, fx0, fx1, gx⟩ := hX.open
    have e7 := h7.1
    have e9 := h9.1
    have e10 := h10.1
    have eX := hX.1
    have HLG := Lib.hid hlg
    clear hlg hr
    have hd : 1 ≤ 3 - 1 - 1 := by omega
    have hmx : Try.prog.follows .mixedOrders = true := by kernel_rfl
    have hLV : pre.length * (L + n + 3) ≤ 110000000000 := Nat.le_trans (Nat.mul_le_mul (show pre.length ≤ 100 by omega) (show L + n + 3 ≤ 1000000103 by omega)) (by omega)
    have hpl : pre.length < n := hlt
    have HLen := Lib.hid (show (pre ++ [(⟨x, hx⟩ : Fin n)]).length * (L + n + 3) = pre.length * (L + n + 3) + (L + n + 3) by rw [List.length_append, List.length_singleton, Nat.add_mul, Nat.one_mul])
    generalize hLVe : pre.length * (L + n + 3) = LV at *
    clear hLVe
    have HVS := Lib.hid (vpL_snoc z N D pre ⟨x, hx⟩)
    generalize hVP : vpL z N D pre = vp at *
    clear hVP
    gi_wp2
    rename_i K hKK
    have hcont : ∀ (v23 v24 v25 v26 v27 v28 v29 : Value) (b6 : Bool) (A6 : Option Addr) (n6 c6 : Nat) (w4 w5 w6 : World), Below W.drew.heap.size W.drew w4 → Below w4.heap.size w4 w5 → Below w5.heap.size w5 w6 → LG w6 b6 (.slice A6 n6 c6) (vp.1 * N + z x * vp.2) (LV + (L + n + 3)) →
        K { tmps := #[.slice A n c, .int .i64 N, .int .i64 D, undef, undef, undef, .int .i64 0, .pointer (some ⟨B7, 0, none⟩), .pointer (some ⟨B7 + 1, 0, none⟩), .pointer (some ⟨B9, 0, none⟩), .pointer (some ⟨B9 + 1, 0, none⟩), undef, .pointer (some ⟨Bx, 0, none⟩), .int .i64 N, .agg #[.bool b1, .slice A1 n1 c1], .int .i64 D, .agg #[.bool b2, .slice A2 n2 c2], .agg #[.bool false, .slice none 0 0], .agg #[.bool b3, .slice A3 n3 c3], .slice A n c, .func (.func 138) #[] #[.pointer (some ⟨B9 + 1 + 1, 0, none⟩)], .int .i64 (x : Int), .agg #[.bool (bf x), sf x], v23, v24, v25, v26, v27, v28, v29, undef, undef, undef, undef, undef], defers := [] } ((w6.setCell ⟨B9, 0, none⟩ (.bool b6)).setCell ⟨B9, 1, none⟩ (.slice A6 n6 c6)) := by
      intro v23 v24 v25 v26 v27 v28 v29 b6 A6 n6 c6 w4 w5 w6 K4 K5 K6 G6
      have y4 := K4.size
      have y5 := K5.size
      have y6 := K6.size
      have yd : W.drew.heap.size = W.heap.size := rfl
      have KW : Below W.heap.size W w6 := ((Below.refl _ W).drew.trans (K4.mono (by omega))).trans ((K5.mono (by omega)).trans (K6.mono (by omega)))
      have i7 := h7.below (Nat.le_refl _) KW
      have i8 := h8.below (Nat.le_refl _) KW
      have i9 := h9.below (Nat.le_refl _) KW
      have i0 := h10.below (Nat.le_refl _) KW
      have iB := hB.trans (KW.mono hB.size)
      have HL6 := Lib.hid (fun j hj => (HLG.out j hj).below (Nat.le_refl _) KW)
      have ibx := (KW.cell (p := ⟨B9 + 1 + 1, 0, none⟩) hbx)
      have ikf : KeepsFrom WX.heap.size W w6 := keepsFrom_below KW
      have m7 := PR.other i7 i9 (by omega) 0 1 (.bool b6) (.slice A6 n6 c6)
      have m8 := PR.other i8 i9 (by omega) 0 1 (.bool b6) (.slice A6 n6 c6)
      have m0 := PR.other i0 i9 (by omega) 0 1 (.bool b6) (.slice A6 n6 c6)
      have m9 := LB.put (LB.more' i9 (show LV ≤ LV + (L + n + 3) by omega)) G6
      obtain ⟨bq9, Aq9, nq9, cq9, k9, _, _, _, _⟩ := i9.open
      have HL7 := Lib.hid (fun j hj => (HL6.out j hj).setIn k9 0 1 (.bool b6) (.slice A6 n6 c6))
      have mB := (iB.setCell (p := ⟨B9, 0, none⟩) (show w.heap.size ≤ B9 by omega) (.bool b6)).setCell (p := ⟨B9, 1, none⟩) (show w.heap.size ≤ B9 by omega) (.slice A6 n6 c6)
      have mkf : KeepsFrom WX.heap.size W ((w6.setCell ⟨B9, 0, none⟩ (.bool b6)).setCell ⟨B9, 1, none⟩ (.slice A6 n6 c6)) := ikf.trans (((KeepsOthers.setCell _ _ _).from _).trans ((KeepsOthers.setCell _ _ _).from _))
      have mbx : ((w6.setCell ⟨B9, 0, none⟩ (.bool b6)).setCell ⟨B9, 1, none⟩ (.slice A6 n6 c6)).cell? ⟨B9 + 1 + 1, 0, none⟩ = W.cell? ⟨B9 + 1 + 1, 0, none⟩ := by
        rw [World.cell?_setCell_other _ _ _ _ (by simp), World.cell?_setCell_other _ _ _ _ (by simp)]; exact ibx
      have mwB : Below w.heap.size W ((w6.setCell ⟨B9, 0, none⟩ (.bool b6)).setCell ⟨B9, 1, none⟩ (.slice A6 n6 c6)) := ((KW.mono hB.size).setCell (p := ⟨B9, 0, none⟩) (show w.heap.size ≤ B9 by omega) (.bool b6)).setCell (p := ⟨B9, 1, none⟩) (show w.heap.size ≤ B9 by omega) (.slice A6 n6 c6)
      have msz : W.heap.size ≤ ((w6.setCell ⟨B9, 0, none⟩ (.bool b6)).setCell ⟨B9, 1, none⟩ (.slice A6 n6 c6)).heap.size := mwB.size
      clear i7 i8 i9 i0 iB HL6 ibx ikf k9 KW K4 K5 K6 y4 y5 y6 yd G6 h7 h8 h9 h10 hX g7 g8 g9 g0 gx
      clear c70 c71 c80 c81 c90 c91 c00 c01 cx0 cx1 f70 f71 f80 f81 f90 f91 f00 f01 fx0 fx1
      generalize ((w6.setCell ⟨B9, 0, none⟩ (.bool b6)).setCell ⟨B9, 1, none⟩ (.slice A6 n6 c6)) = V at *
      obtain ⟨b8', A8', n8', c8', u80, u81, _, _, t8⟩ := LB.open m8
      obtain ⟨b0', A0', n0', c0', u00, u01, uf0, uf1, t0⟩ := LB.open m0
      have e0' := m0.1
      refine hKK _ _ ?_
      gi_wp2_with (refine ⟨trivial, ?_⟩; gi_at_call 123; refine (CallsIn.inRound l (callsIn_wide.2 (times_any b0' b8' _ _ _ _ _ _ _ (by exact t0) (by exact t8) (by omega) (by omega)))).mono ?_; rintro e w7 ⟨b7', s7', rfl, G7, K7⟩; obtain ⟨A7', n7', c7', rfl⟩ := G7.form; have j0 := LB.below m0 (Nat.le_refl _) K7; obtain ⟨bj, Aj, nj, cj, w00, w01, wf0, wf1, _⟩ := LB.open j0)
      have y7 := K7.size
      refine ⟨mkf.trans ((keepsFrom_below K7).trans (((KeepsOthers.setCell _ _ _).from _).trans ((KeepsOthers.setCell _ _ _).from _))), ⟨?_, ?_⟩, ⟨⟨?_, ?_, ?_, ?_⟩, ⟨?_, ?_⟩, ?_⟩⟩
      · exact ((mwB.trans (K7.mono (by omega))).setCell (p := ⟨B9 + 1, 0, none⟩) (show w.heap.size ≤ B9 + 1 by omega) _).setCell (p := ⟨B9 + 1, 1, none⟩) (show w.heap.size ≤ B9 + 1 by omega) _
      · rw [World.cell?_setCell_other _ _ _ _ (by simp), World.cell?_setCell_other _ _ _ _ (by simp)]; exact (K7.cell (p := ⟨B9 + 1 + 1, 0, none⟩) (show B9 + 1 + 1 < V.heap.size by omega)).trans mbx
      · exact PR.other (PR.below m7 (Nat.le_refl _) K7) j0 (by omega) _ _ _ _
      · exact PR.other (PR.below m8 (Nat.le_refl _) K7) j0 (by omega) _ _ _ _
      · rw [HVS.out, HLen.out]; exact PR.other (PR.below m9 (Nat.le_refl _) K7) j0 (by omega) _ _ _ _
      · rw [HVS.out]
        exact LB.put (LB.more' j0 (show 1 + pre.length ≤ 1 + (pre ++ [(⟨x, hx⟩ : Fin n)]).length by simp only [List.length_append, List.length_singleton]; omega)) (G7.more (by simp only [List.length_append, List.length_singleton]; omega))
      · exact ((mB.trans (K7.mono (by have := hB.size; omega))).setCell (p := ⟨B9 + 1, 0, none⟩) (show w.heap.size ≤ B9 + 1 by omega) _).setCell (p := ⟨B9 + 1, 1, none⟩) (show w.heap.size ≤ B9 + 1 by omega) _
      · simp [World.setCell]; omega
      · exact fun j hj => ((HL7.out j hj).below (Nat.le_refl _) K7).setIn w00 _ _ _ _
    have tok1 : True := trivial
    have tok2 : True := trivial
    gi_region_with_o (first
      | (have _t := tok1; refine ⟨trivial, ?_⟩; gi_at_call 123; refine (CallsIn.inRound l (callsIn_wide.2 (times_any b9 b7 _ _ _ _ _ _ _ (by exact g9.drew) (by exact g7.drew) (by omega) (by omega)))).mono ?_; clear tok1; rintro e w4 ⟨b4, s4, rfl, G4, K4⟩; obtain ⟨hcp, hfp⟩ := bcell K4; have p00 := (hcp (B9 + 1) 0 (by first | omega | (simp; omega))).trans c00; have p01 := (hcp (B9 + 1) 1 (by first | omega | (simp; omega))).trans c01; have px0 := (hcp Bx 0 (by first | omega | (simp; omega))).trans cx0; have px1 := (hcp Bx 1 (by first | omega | (simp; omega))).trans cx1; obtain ⟨A4, n4, c4, rfl⟩ := G4.form)
      | (have _t := tok2; refine ⟨trivial, ?_⟩; gi_at_call 123; refine (CallsIn.inRound l (callsIn_wide.2 (times_any bx b0 _ _ _ _ _ _ _ (by exact gx.drew.below (Nat.le_refl _) K4) (by exact g0.drew.below (Nat.le_refl _) K4) (by omega) (by omega)))).mono ?_; clear tok2; rintro e w5 ⟨b5, s5, rfl, G5, K5⟩; obtain ⟨A5, n5, c5, rfl⟩ := G5.form)
      | (refine ⟨trivial, ?_⟩; gi_at_call 124; refine (CallsIn.inRound l (callsIn_wide.2 (plus_any b4 b5 _ _ _ _ (LV + L + n + 2) _ (by exact (G4.below (Nat.le_refl _) K5).more (by omega)) (by exact G5.more (by omega)) (by omega)))).mono ?_; rintro e w6 ⟨b6, s6, rfl, G6, K6⟩; obtain ⟨A6, n6, c6, rfl⟩ := G6.form; have h96 := LB.below (LB.below (LB.below (show LB W.drew B9 _ _ from h9) (Nat.le_refl _) K4) (Nat.le_refl _) K5) (Nat.le_refl _) K6; obtain ⟨b96, A96, n96, c96, r90, r91, fr90, fr91, g96⟩ := h96.open))
    all_goals exact hcont _ _ _ _ _ _ _ _ _ _ _ _ _ _ K4 K5 K6 (G6.more (by omega))
  case done =>
    rintro D0 ys W hD rfl ⟨⟨h7, h8, h9, h10⟩, ⟨hB, hbx⟩, hlg⟩ hK
    obtain ⟨b9, A9, n9, c9, c90, c91, f90, f91, g9⟩ := h9.open
    have HV := Lib.hid (vpL_bk z N D n)
    have hbl : (bk n).length * (L + n + 3) ≤ 1000000000000 := by
      rw [bk_length]; exact Nat.le_trans (Nat.mul_le_mul (show n ≤ 100 by omega) (show L + n + 3 ≤ 1000000103 by omega)) (by omega)
    have hDlt : D0 < W.heap.size := by
      rcases Nat.lt_or_ge D0 W.heap.size with h1 | h1
      · exact h1
      · rw [Array.getElem?_eq_none h1] at hK; cases hK
    have HKK := Lib.hid hK
    clear hK hlg
    gi_wp2_with (refine ⟨trivial, ?_⟩; gi_at_call 125; refine (callsIn_wide.2 (sign_any b9 _ _ _ _ (by exact g9) hbl)).mono ?_; rintro e w7 ⟨rfl, K7⟩)
    have hK7 := (K7.block D0 hDlt).trans HKK.out
    refine ⟨by simp, .inl ⟨_, _, rfl, run_takeDeferred hK7, ?_⟩⟩
    refine ⟨_, results_tmp rfl _ _ _, ?_, (hB.trans (K7.mono hB.size)).trans (belowK_b (w := w) (Nat.le_refl _) _ D0 _ _ (by rw [HSZ.out] at hD; omega) hK7 rfl rfl)⟩
    exact ret_int (by rw [HV.out]; rfl)
  case stop =>
    rintro D0 cc pre W hD _ hf
    exact hf.elim

end Go.Proofs.Ytfnmnnbmhfbkbaa

/-! PolyO -/
namespace Go.Proofs.Ytfnmnnbmhfbkbaa
open Go.RowKit

theorem grownBy_below {w w' : World} (h : Below w.heap.size w w') (row : Option Nat) : w.grownBy w' row := ⟨h.os, h.tape, h.output, h.size, fun i hi _ => h.block i hi⟩
theorem owns_below {w w' : World} {base : Nat} {e : TypeId} {size : Nat} {v : Value} {n : Nat} {xs : List Value} (h : w.ownsRow base e size v n xs) (hb : Below w.heap.size w w') : w'.ownsRow base e size v n xs :=
  h.kept (grownBy_below hb none) (by cases hv : v.ownBlock with
    | none => exact Or.inl rfl
    | some g => exact Or.inr (by simp))
theorem LG.grown {w w' : World} {b : Bool} {sv : Value} {z : Int} {L : Nat} {row : Option Nat} (h : LG w b sv z L) (hg : w.grownBy w' row) (hr : ∀ g, row = some g → ∃ x, w.cell? ⟨g, 0, none⟩ = some (.bool x)) : LG w' b sv z L := by
  obtain ⟨A, n, c, f, e, h1, h2, h3, h4⟩ := h
  refine ⟨A, n, c, f, e, ⟨h1.1, fun hn => ?_⟩, h2, h3, h4⟩
  obtain ⟨k, e, hl, hc⟩ := h1.2 hn
  refine ⟨k, e, Nat.lt_of_lt_of_le hl hg.size, fun j hj => ?_⟩
  rw [hg.cell_far ⟨k, j, none⟩ hl (fun e => by
    obtain ⟨x, hx⟩ := hr k e.symm
    have h0 := hc 0 hn
    rw [hx] at h0; cases h0)]
  exact hc j hj

/-- The slice value dv owns the m coefficients z. -/
def PO (w : World) (base : Nat) (dv : Value) (m : Nat) (z : Row) (L : Nat) : Prop :=
  (m = 0 → dv = .slice none 0 0) ∧ ∃ xs, w.ownsRow base 130 2 dv m xs ∧ ∀ i, i < m → ∃ b sv, xs[i * 2]? = some (.bool b) ∧ xs[i * 2 + 1]? = some sv ∧ LG w b sv (z i) L
theorem PO.nil (w : World) (base : Nat) (z : Row) (L : Nat) : PO w base (.slice none 0 0) 0 z L := ⟨fun _ => rfl, [], ⟨by simp, .inl ⟨rfl, rfl⟩⟩, fun i h => by omega⟩
theorem PO.below {w w' : World} {base : Nat} {dv : Value} {m : Nat} {z : Row} {L : Nat} (h : PO w base dv m z L) (hb : Below w.heap.size w w') : PO w' base dv m z L := by
  obtain ⟨h0, xs, ho, hx⟩ := h
  refine ⟨h0, xs, owns_below ho hb, fun i hi => ?_⟩
  obtain ⟨b, sv, h1, h2, h3⟩ := hx i hi
  exact ⟨b, sv, h1, h2, h3.below (Nat.le_refl _) hb⟩
theorem PO.form {w : World} {base : Nat} {dv : Value} {m : Nat} {z : Row} {L : Nat} (h : PO w base dv m z L) : ∃ A c, dv = .slice A m c := by
  obtain ⟨h0, xs, ho, hx⟩ := h
  rcases ho.2 with ⟨rfl, rfl⟩ | ⟨g, cap, cur, rfl, _⟩
  · exact ⟨none, 0, rfl⟩
  · exact ⟨_, cap, rfl⟩
theorem PO.pa {w : World} {base : Nat} {A : Option Addr} {c m : Nat} {z : Row} {L : Nat} (h : PO w base (.slice A m c) m z L) : PA w A m z L := fun hm => by
  obtain ⟨h0, xs, ho, hx⟩ := h
  obtain ⟨g, cap, hv, hb, hlt⟩ := ho.form hm
  injection hv with hA _ hc
  subst hA; subst hc
  refine ⟨g, rfl, hlt, fun i hi => ?_⟩
  obtain ⟨b, sv, h1, h2, h3⟩ := hx i hi
  exact ⟨b, sv, by rw [ho.cellAt _ (by omega)]; exact h1, by rw [ho.cellAt _ (by omega)]; exact h2, ho.frozenAt _, ho.frozenAt _, h3⟩
/-- The row's first cell. -/
theorem PO.first {w : World} {base : Nat} {dv : Value} {m : Nat} {z : Row} {L : Nat} (h : PO w base dv m z L) : ∀ g, dv.ownBlock = some g → ∃ x, w.cell? ⟨g, 0, none⟩ = some (.bool x) := fun g hg => by
  obtain ⟨A, c, rfl⟩ := h.form
  rcases Nat.eq_zero_or_pos m with h0 | h0
  · have := h.1 h0; rw [this] at hg; simp [Value.ownBlock] at hg
  · obtain ⟨g', e, hp⟩ := h.pa h0
    subst e
    simp only [Value.ownBlock, Option.some.injEq] at hg
    subst hg
    obtain ⟨b, sv, h1, _⟩ := hp.2 0 h0
    exact ⟨b, h1⟩
/-- One more. -/
theorem PO.more1 {w w' : World} {base : Nat} {dv : Value} {m : Nat} {z : Row} {L g cap : Nat} {b : Bool} {sv : Value} {v : Int} (h : PO w base dv m z L) (hv : LG w b sv v L) (hz : z m = v) (xs : List Value) (ho : w.ownsRow base 130 2 dv m xs)
    (hx : ∀ i, i < m → ∃ b sv, xs[i * 2]? = some (.bool b) ∧ xs[i * 2 + 1]? = some sv ∧ LG w b sv (z i) L)
    (hown : w'.ownsRow base 130 2 (.slice (some ⟨g, 0, none⟩) (m + 1) cap) (m + 1) (xs ++ [.bool b, sv])) (hg : w.grownBy w' dv.ownBlock) : PO w' base (.slice (some ⟨g, 0, none⟩) (m + 1) cap) (m + 1) z L := by
  have hl := ho.1
  refine ⟨fun h => by omega, _, hown, fun i hi => ?_⟩
  rcases Nat.lt_or_ge i m with h1 | h1
  · obtain ⟨b1, sv1, k1, k2, k3⟩ := hx i h1
    exact ⟨b1, sv1, by rw [List.getElem?_append_left (by omega)]; exact k1, by rw [List.getElem?_append_left (by omega)]; exact k2, k3.grown hg h.first⟩
  · obtain rfl : i = m := by omega
    refine ⟨b, sv, by rw [List.getElem?_append_right (by omega), hl]; simp, by rw [List.getElem?_append_right (by omega), hl, show i * 2 + 1 - i * 2 = 1 by omega]; simp, ?_⟩
    rw [hz]; exact hv.grown hg h.first

theorem info_long_parts : ∃ i, Try.prog.info? 130 = some i ∧ i.zero = some (.agg #[.bool false, .slice none 0 0]) ∧ i.size = 2 ∧ i.bytes = 32 := by
  obtain ⟨i, hi, hzz⟩ := Option.map_eq_some_iff.1 info_long
  simp only [Prod.mk.injEq] at hzz
  exact ⟨i, hi, hzz.1, hzz.2.1, hzz.2.2⟩

end Go.Proofs.Ytfnmnnbmhfbkbaa

/-! W16 -/
namespace Go.Proofs.Ytfnmnnbmhfbkbaa
open Go.RowKit

theorem dRow_eq (z : Row) (k : Nat) (hk : 0 < k) : dRow z (k - 1) = z k * (k : Int) := by
  obtain ⟨j, rfl⟩ : ∃ j, k = j + 1 := ⟨k - 1, by omega⟩
  show z (j + 1) * ((j : Int) + 1) = _
  rw [show ((j + 1 : Nat) : Int) = (j : Int) + 1 by omega]

set_option maxRecDepth 100000 in
set_option maxHeartbeats 2000000 in
theorem derivative_any (A : Option Addr) (n c : Nat) (z : Row) (L : Nat) (w : World) (hA : PA w A n z L) (hn : n ≤ 1000) (hL : L ≤ 100000000000) :
    Calls Try.prog 131 #[.slice A n c] w fun e w' => ∃ A' c', e = .returned (.slice A' (n - 1) c') ∧ PA w' A' (n - 1) (dRow z) (L + 1) ∧ Below w.heap.size w w' := by
  obtain ⟨i0, hi0, hz0, hz1, hz2⟩ := info_long_parts
  go_enter Try.func131, Try.ntmps131
  go_wp2
  go_loopw [3, 8] (fun dv i wr => ∃ k : Nat, k ≤ n ∧ i = .int .i64 k ∧ Hid (PO wr w.heap.size dv (k - 1) (dRow z) (L + 1)) ∧ Below w.heap.size w wr) (fun _ i _ => n - (intOf i).toNat)
  case atStart => exact ⟨0, by omega, rfl, PO.nil _ _ _ _, Below.refl _ _⟩
  case round =>
    obtain ⟨k, hk, rfl, HO, hB⟩ := hrel
    obtain ⟨Ad, cd, rfl⟩ := HO.out.form
    by_cases hlt : k < n
    · have hlt' : (k : Int) < n := by omega
      obtain ⟨g, rfl, hg, hp⟩ := (hA.below (Nat.le_refl _) hB) (by omega)
      obtain ⟨b1, s1, c1, c2, _, _, hL1⟩ := hp k hlt
      obtain ⟨A1, n1, d1, rfl⟩ := hL1.form
      clear hp
      rcases Nat.eq_zero_or_pos k with h0 | h0
      · subst h0
        go_wp2
        go_roundw
        case rel => exact ⟨1, by omega, rfl, HO.out.below ((Below.refl _ _).alloc (Nat.le_refl _) _), hB.alloc hB.size _⟩
        case measure => simp [intOf]; omega
      · have h0' : 0 < (k : Int) := by omega
        obtain ⟨xs, ho, hx⟩ := HO.out.2
        have HX := Lib.hid hx
        have HOW := Lib.hid ho
        have hne : some wr.heap.size ≠ (Value.slice Ad (k - 1) cd).ownBlock := fun e => by have := (ho.lt _ e.symm).2; omega
        clear hx ho
        go_wp2
        go_region_held3 (fun w' => w'.cell? ⟨wr.heap.size, 0, none⟩ = some (.bool b1) ∧ w'.cell? ⟨wr.heap.size, 1, none⟩ = some (.slice A1 n1 d1))
          (first | (simp [go_sem, World.cell?_alloc_past]; done) | (exact ⟨y0, y1⟩) | (exact ⟨x0, x1⟩) | (exact ⟨v0, v1⟩) | (exact ⟨u0, u1⟩) | (refine ⟨?_, ?_⟩ <;> simp [go_sem, *]; done))
          (first
            | (go_at_call 121; refine (longOf_any (k : Int) _ ⟨by omega, by omega⟩).mono ?_; rintro e w1 ⟨b2, s2, rfl, L2, B2⟩; obtain ⟨hcK, hfK⟩ := bcell B2; have u0 : w1.cell? ⟨wr.heap.size, 0, none⟩ = some (.bool b1) := (by rw [hcK _ _ (by simp <;> omega)]; simp [go_sem]); have u1 : w1.cell? ⟨wr.heap.size, 1, none⟩ = some (.slice A1 n1 d1) := (by rw [hcK _ _ (by simp <;> omega)]; simp [go_sem]); obtain ⟨A2, n2, d2, rfl⟩ := L2.form; have zz1 : wr.heap.size + 1 ≤ w1.heap.size := (by have := B2.size; simp at this; omega); have KB1 : Below wr.heap.size wr w1 := (((by repeat (first | exact Below.refl _ _ | refine Below.drew ?_ | refine Below.drewN' ?_ _ | refine Below.alloc ?_ (by first | exact Nat.le_refl _ | (simp; done) | (simp; omega)) _)) : Below wr.heap.size wr _).trans (B2.mono (by simp))))
            | (go_at_call 123; refine (times_any b1 b2 _ _ _ _ _ _ _ (by exact hL1.below (Nat.le_refl _) KB1) (by exact L2) (by omega) (by omega)).mono ?_; rintro e w2 ⟨b3, s3, rfl, L3, B3⟩; obtain ⟨hcL, hfL⟩ := bcell B3; have v0 := (hcL wr.heap.size 0 (by omega)).trans u0; have v1 := (hcL wr.heap.size 1 (by omega)).trans u1; obtain ⟨A3, n3, d3, rfl⟩ := L3.form; have KB2 : Below wr.heap.size wr w2 := (KB1.trans (B3.mono (by omega))); have zz2 := B3.size; have x0 : (w2.alloc (.cells #[.bool b3, .slice A3 n3 d3] 130)).cell? ⟨wr.heap.size, 0, none⟩ = some (.bool b1) := (by rw [World.cell?_alloc_lt _ _ _ (by show wr.heap.size < _; omega)]; exact v0); have x1 : (w2.alloc (.cells #[.bool b3, .slice A3 n3 d3] 130)).cell? ⟨wr.heap.size, 1, none⟩ = some (.slice A1 n1 d1) := (by rw [World.cell?_alloc_lt _ _ _ (by show wr.heap.size < _; omega)]; exact v1))
            | ((refine step_append_lies _ (by rfl) _ _ _ (by rfl) w.heap.size 130 i0 _ 2 32 Try.underlying111 hi0 hz0 hz1 hz2 rfl (by omega) (.slice Ad (k - 1) cd) (k - 1) xs (by rfl) (owns_below HOW.out (KB2.alloc (by omega) _)) ⟨w2.heap.size, 0, none⟩ 1 1 [.bool b3, .slice A3 n3 d3] (by rfl) (by rfl) (World.news_of_block (cs := #[.bool b3, .slice A3 n3 d3]) (t := 130) (fr := (0, 0)) (heap_alloc_new w2 _)) (by simp [Value.oneCell']) (by omega) (by simp only [maxLen]; omega) (by omega) (by have := hB.size; simp; omega) (w2.heap.size + 1) (by simp) ?_; intro gg cap w4 hown4 hgrow4 hat4 hlt4; have y0 : w4.cell? ⟨wr.heap.size, 0, none⟩ = some (.bool b1) := (by rw [hgrow4.cell_far _ (by simp; omega) hne]; exact x0); have y1 : w4.cell? ⟨wr.heap.size, 1, none⟩ = some (.slice A1 n1 d1) := (by rw [hgrow4.cell_far _ (by simp; omega) hne]; exact x1))))
        have KA : Below wr.heap.size wr (w2.alloc (.cells #[.bool b3, .slice A3 n3 d3] 130)) := KB2.alloc (by omega) _
        have P4 := PO.more1 (HO.out.below KA) (L3.below (Nat.le_refl _) ((Below.refl _ _).alloc (Nat.le_refl _) _)) (dRow_eq z k h0) xs (owns_below HOW.out KA) (fun i hi => by
          obtain ⟨b, sv, k1, k2, k3⟩ := HX.out i hi
          exact ⟨b, sv, k1, k2, k3.below (Nat.le_refl _) KA⟩) hown4 hgrow4
        have HP4 := Lib.hid P4
        have hlt5 := HOW.out.lt
        have hB4 : Below w.heap.size w w4 := (hB.trans (KA.mono hB.size)).grown hgrow4 (by have := hB.size; simp; omega) (fun j hj => (hlt5 j hj).1)
        clear P4 hown4 hgrow4 hlt5 hat4
        go_wp2
        go_roundw
        case rel => exact ⟨k + 1, by omega, by go_num, by rw [show k + 1 - 1 = k - 1 + 1 by omega]; exact HP4.out, hB4⟩
        case measure => simp [intOf]; omega
    · obtain rfl : k = n := by omega
      go_wp2
      go_ret
      exact ⟨_, _, rfl, HO.out.pa, hB⟩

end Go.Proofs.Ytfnmnnbmhfbkbaa

/-! W17 -/
namespace Go.Proofs.Ytfnmnnbmhfbkbaa
open Go.RowKit

theorem sgBehind_zero (N D : Int) (z : Row) : sgBehind N D 0 z = 0 := rfl
theorem sgBehind_no {N D : Int} {m : Nat} {z : Row} (h : sgAt (m + 1) z N D = 0) : sgBehind N D (m + 1) z = sgBehind N D m (dRow z) := by
  show (if sgAt (m + 1) z N D ≠ 0 then _ else _) = _
  rw [if_neg (by simpa using h)]
theorem sgBehind_yes {N D : Int} {m : Nat} {z : Row} (h : sgAt (m + 1) z N D ≠ 0) : sgBehind N D (m + 1) z = sgAt (m + 1) z N D := by
  show (if sgAt (m + 1) z N D ≠ 0 then _ else _) = _
  rw [if_pos h]

set_option maxRecDepth 100000 in
set_option maxHeartbeats 1000000 in
theorem signBehind_any (A : Option Addr) (n c : Nat) (z : Row) (L : Nat) (N D : Int) (w : World) (hA : PA w A n z L) (hn : n ≤ 100) (hL : L ≤ 999999800) (hN : I64 N) (hD : I64 D) :
    Calls Try.prog 148 #[.slice A n c, .int .i64 N, .int .i64 D] w fun e w' => e = .returned (.int .i64 (sgBehind N D n z)) ∧ Below w.heap.size w w' := by
  go_enter Try.func148, Try.ntmps148
  go_wp2
  go_loopw [0] (fun x wr => ∃ (A' : Option Addr) (m c' : Nat) (y : Row), m ≤ n ∧ x = .slice A' m c' ∧ Hid (sgBehind N D m y = sgBehind N D n z) ∧ Hid (PA wr A' m y (L + (n - m))) ∧ Below w.heap.size w wr) (fun x _ => lenOfS x)
  case atStart => exact ⟨A, n, c, z, by omega, rfl, rfl, by simp only [Hid, Nat.sub_self]; exact hA, Below.refl _ _⟩
  case round =>
    obtain ⟨A', m, c', y, hm, rfl, HS, HP, hB⟩ := hrel
    rcases Nat.eq_zero_or_pos m with h0 | h0
    · subst h0
      go_wp2
      go_ret
      exact ⟨ret_int HS.out, hB⟩
    · obtain ⟨j, rfl⟩ : ∃ j, m = j + 1 := ⟨m - 1, by omega⟩
      by_cases hs : sgAt (j + 1) y N D = 0
      · have hs' : (sgAt (j + 1) y N D != 0) = false := by rw [hs]; rfl
        have HN := Lib.hid ((sgBehind_no hs).symm.trans HS.out)
        clear hs
        go_wp2_with (first
          | (go_at_call 106; refine (signAt_any A' (j + 1) c' y _ N D _ HP.out (by omega) (by omega) hN hD).mono ?_; rintro e w1 ⟨rfl, B1⟩)
          | (go_at_call 131; refine (derivative_any A' (j + 1) c' y _ _ (HP.out.below (Nat.le_refl _) B1) (by omega) (by omega)).mono ?_; rintro e w2 ⟨A2, c2, rfl, P2, B2⟩))
        go_roundw
        case rel => exact ⟨A2, j, c2, dRow y, by omega, rfl, HN.out, by simp only [Hid]; exact P2.more (by omega), (hB.trans (B1.mono hB.size)).trans (B2.mono (by have := hB.size; have := B1.size; omega))⟩
        case measure => simp [lenOfS]
      · have hs' : (sgAt (j + 1) y N D != 0) = true := by simpa using hs
        have HN := Lib.hid ((sgBehind_yes hs).symm.trans HS.out)
        clear hs
        go_wp2_with (go_at_call 106; refine (signAt_any A' (j + 1) c' y _ N D _ HP.out (by omega) (by omega) hN hD).mono ?_; rintro e w1 ⟨rfl, B1⟩)
        go_ret
        exact ⟨ret_int HN.out, hB.trans (B1.mono hB.size)⟩

end Go.Proofs.Ytfnmnnbmhfbkbaa

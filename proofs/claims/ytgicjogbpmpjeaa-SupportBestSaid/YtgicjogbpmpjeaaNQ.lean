/- The pairs of gears next to a ratio, yielded one after the other. -/
import Derived.Test.YtgicjogbpmpjeaaVv20
import Derived.Test.YtgicjogbpmpjeaaWa
set_option linter.unusedVariables false
set_option linter.unusedSimpArgs false
namespace Go.Proofs.Ytgicjogbpmpjeaa.Vg
open Go Go.Proofs.Ytgicjogbpmpjeaa.Ev Go.Proofs.Ytgicjogbpmpjeaa.Vv
/-- the pairs next to the ratio p / q with the driven gear y, in their order; with those of d driven gears from y on. -/
def nearF (p q y : Int) : Int := w64 ((w64 (y * p)).tdiv q)
def nearD (lo hi p q y n : Int) : Int × Int := (minI (maxI n lo) hi, y)
def near2 (lo hi p q y : Int) : List (Int × Int) := [nearD lo hi p q y (nearF p q y), nearD lo hi p q y (w64 (nearF p q y + 1))]
def nearL (lo hi p q : Int) (y : Int) : Nat → List (Int × Int)
  | 0 => []
  | d + 1 => near2 lo hi p q y ++ nearL lo hi p q (y + 1) d
theorem nearL_eq (lo hi p q y : Int) (d : Nat) : nearL lo hi p q y (d + 1) = near2 lo hi p q y ++ nearL lo hi p q (y + 1) d := rfl
def nearAll (x : Int × Int × Int × Int) : List (Int × Int) := nearL x.1 x.2.1 x.2.2.1 x.2.2.2 x.1 (x.2.1 + 1 - x.1).toNat
abbrev NearOK (x : Int × Int × Int × Int) : Prop := (-1000000000 ≤ x.1 ∧ x.1 ≤ 1000000000) ∧ (-1000000000 ≤ x.2.1 ∧ x.2.1 ≤ 1000000000) ∧ x.2.2.2 ≠ 0
def encG (x : Int × Int) : List Value := [.agg #[.int .i64 x.1, .int .i64 x.2]]
theorem w64_small {n : Int} (h1 : -9223372036854775808 ≤ n) (h2 : n ≤ 9223372036854775807) : w64 n = n := by
  unfold w64 IntKind.wrap
  simp [IntKind.signed, IntKind.bits]
  omega
theorem drop_head {α : Type} {xs : List α} {p : Nat} {x : α} {r : List α} (h : xs.drop p = x :: r) : xs[p]? = some x ∧ xs.drop (p + 1) = r := by
  have hlt : p < xs.length := by
    rcases Nat.lt_or_ge p xs.length with h' | h'
    · exact h'
    · rw [List.drop_eq_nil_of_le h'] at h; cases h
  rw [List.drop_eq_getElem_cons hlt] at h
  injection h with h1 h2
  exact ⟨by rw [List.getElem?_eq_getElem hlt, h1], h2⟩
theorem drop_none {α : Type} {xs : List α} {p : Nat} (h : xs.drop p = []) (hp : p ≤ xs.length) : p = xs.length := by
  have : xs.length ≤ p := List.drop_eq_nil_iff.1 h
  omega
set_option maxRecDepth 100000
set_option maxHeartbeats 4000000
section
variable {E : Env} {lo hi p q : Int}

/-- the rounds over the driven gears, from y on. -/
theorem near_outer (hE : E.OK) (hP : E.P = Go.Proofs.Try.prog) (hsz : E.sz = 40) (hcaps : E.caps = [.tp [vi lo] 0, .tp [vi hi] 0, .tp [vi p, vi q] 0]) (hlen : E.caps'.length = 3) (hlo : -1000000000 ≤ lo ∧ lo ≤ 1000000000) (hhi : -1000000000 ≤ hi ∧ hi ≤ 1000000000) (hq0 : q ≠ 0) (Post : Exit → SP)
    (hend : ∀ A, Post (.exit 0) A (some E.xs.length)) (hret : ∀ A, Post .ret A none) :
    ∀ (d : Nat) (y : Int) (n : Nat), lo ≤ y → y + d = max (hi + 1) lo → n ≤ E.xs.length → E.xs.drop n = (nearL lo hi p q y d).map encG →
      PLoop E (bodyOf Go.Proofs.Try.f33 0) (mkA [(0, VV.c (yv E.l)), (1, VV.tp [vi lo] 0), (2, VV.tp [vi hi] 0), (3, VV.tp [vi p, vi q] 0), (5, vi y)]) (some n) Post := by
  obtain ⟨P, sz, l, caps, caps', xs, J, R⟩ := E
  dsimp only at hP hsz hcaps hlen
  subst hP; subst hsz; subst hcaps
  dsimp only at hend ⊢
  intro d
  induction d with
  | zero =>
    intro y n hy hd hn hx
    have hlt : decide (y ≤ hi) = false := by simp; omega
    refine PLoop.step ?_
    refine PCode.seq ?_
    refine PCode.seq ?_
    refine PCode.region (by kernel_rfl) ?_
    refine POps.op (an := .n) (v := vi y) (q := True) hE pn (by kernel_rfl) (Array.mem_of_getElem? (i := 0) rfl) (by show okDst _ caps'.length = true; rw [hlen]; kernel_rfl) (by kernel_rfl) trivial ?_
    refine POps.op (an := .v (vi hi)) (v := vi hi) (q := loadL Go.Proofs.Try.prog 3 0 [vi hi] = some (vi hi)) hE pn (by kernel_rfl) (Array.mem_of_getElem? (i := 1) rfl) (by show okDst _ caps'.length = true; rw [hlen]; kernel_rfl) (by kernel_rfl) (by kernel_rfl) ?_
    refine POps.op (an := .n) (v := vb (decide (y ≤ hi))) (q := True) hE pn (by kernel_rfl) (Array.mem_of_getElem? (i := 2) rfl) (by show okDst _ caps'.length = true; rw [hlen]; kernel_rfl) (by kernel_rfl) trivial ?_
    refine POps.nil ?_
    refine PCode.cond (b := false) (by show VV.c (.bool (decide (y ≤ hi))) = _; rw [hlt]) (PCode.exit ?_)
    have hpe : n = xs.length := drop_none (by simpa [nearL] using hx) hn
    rw [hpe]
    exact hend _
  | succ d ih =>
    intro y n hy hd hn hx
    have hlt : decide (y ≤ hi) = true := by simp; omega
    have hw : w64 (y + 1) = y + 1 := w64_small (by omega) (by omega)
    have hx1 : xs.drop n = encG (nearD lo hi p q y (nearF p q y)) :: encG (nearD lo hi p q y (w64 (nearF p q y + 1))) :: (nearL lo hi p q (y + 1) d).map encG := by rw [hx, nearL_eq]; rfl
    obtain ⟨hx2, hx3⟩ := drop_head hx1
    obtain ⟨hx4, hx5⟩ := drop_head hx3
    have hn2 : n + 1 + 1 ≤ xs.length := by have := (List.getElem?_eq_some_iff.1 hx4).1; omega
    refine PLoop.step ?_
    refine PCode.seq ?_
    refine PCode.seq ?_
    refine PCode.region (by kernel_rfl) ?_
    refine POps.op (an := .n) (v := vi y) (q := True) hE pn (by kernel_rfl) (Array.mem_of_getElem? (i := 0) rfl) (by show okDst _ caps'.length = true; rw [hlen]; kernel_rfl) (by kernel_rfl) trivial ?_
    refine POps.op (an := .v (vi hi)) (v := vi hi) (q := loadL Go.Proofs.Try.prog 3 0 [vi hi] = some (vi hi)) hE pn (by kernel_rfl) (Array.mem_of_getElem? (i := 1) rfl) (by show okDst _ caps'.length = true; rw [hlen]; kernel_rfl) (by kernel_rfl) (by kernel_rfl) ?_
    refine POps.op (an := .n) (v := vb (decide (y ≤ hi))) (q := True) hE pn (by kernel_rfl) (Array.mem_of_getElem? (i := 2) rfl) (by show okDst _ caps'.length = true; rw [hlen]; kernel_rfl) (by kernel_rfl) trivial ?_
    refine POps.nil ?_
    refine PCode.cond (b := true) (by show VV.c (.bool (decide (y ≤ hi))) = _; rw [hlt]) (PCode.skip ?_)
    refine PCode.seq (PCode.block (PCode.seq ?_))
    refine PCode.region (by kernel_rfl) ?_
    refine POps.op (an := .n) (v := vi y) (q := True) hE pn (by kernel_rfl) (Array.mem_of_getElem? (i := 0) rfl) (by show okDst _ caps'.length = true; rw [hlen]; kernel_rfl) (by kernel_rfl) trivial ?_
    refine POps.op (an := .n) (v := VV.tp [vi p, vi q] 0) (q := True) hE pn (by kernel_rfl) (Array.mem_of_getElem? (i := 1) rfl) (by show okDst _ caps'.length = true; rw [hlen]; kernel_rfl) (by kernel_rfl) trivial ?_
    refine POps.op (an := .v (vi p)) (v := vi p) (q := loadL Go.Proofs.Try.prog 3 0 [vi p, vi q] = some (vi p)) hE pn (by kernel_rfl) (Array.mem_of_getElem? (i := 2) rfl) (by show okDst _ caps'.length = true; rw [hlen]; kernel_rfl) (by kernel_rfl) (by kernel_rfl) ?_
    refine POps.op (an := .n) (v := vi (w64 (y * p))) (q := True) hE pn (by kernel_rfl) (Array.mem_of_getElem? (i := 3) rfl) (by show okDst _ caps'.length = true; rw [hlen]; kernel_rfl) (by kernel_rfl) trivial ?_
    refine POps.op (an := .n) (v := VV.tp [vi p, vi q] 1) (q := True) hE pn (by kernel_rfl) (Array.mem_of_getElem? (i := 4) rfl) (by show okDst _ caps'.length = true; rw [hlen]; kernel_rfl) (by kernel_rfl) trivial ?_
    refine POps.op (an := .v (vi q)) (v := vi q) (q := loadL Go.Proofs.Try.prog 3 1 [vi p, vi q] = some (vi q)) hE pn (by kernel_rfl) (Array.mem_of_getElem? (i := 5) rfl) (by show okDst _ caps'.length = true; rw [hlen]; kernel_rfl) (by kernel_rfl) (by kernel_rfl) ?_
    refine POps.op (an := .n) (v := vi (nearF p q y)) (q := q ≠ 0) hE pn (by kernel_rfl) (Array.mem_of_getElem? (i := 6) rfl) (by show okDst _ caps'.length = true; rw [hlen]; kernel_rfl) (by kernel_rfl) hq0 ?_
    refine POps.op (an := .n) (v := vi (nearF p q y)) (q := True) hE pn (by kernel_rfl) (Array.mem_of_getElem? (i := 7) rfl) (by show okDst _ caps'.length = true; rw [hlen]; kernel_rfl) (by kernel_rfl) trivial ?_
    refine POps.nil ?_
    generalize nearF p q y = f at *
    refine PCode.seq ?_
    refine PCode.region (by kernel_rfl) ?_
    refine POps.op (an := .n) (v := vi f) (q := True) hE pn (by kernel_rfl) (Array.mem_of_getElem? (i := 0) rfl) (by show okDst _ caps'.length = true; rw [hlen]; kernel_rfl) (by kernel_rfl) trivial ?_
    refine POps.op (an := .n) (v := vi f) (q := True) hE pn (by kernel_rfl) (Array.mem_of_getElem? (i := 1) rfl) (by show okDst _ caps'.length = true; rw [hlen]; kernel_rfl) (by kernel_rfl) trivial ?_
    refine POps.op (an := .n) (v := vi (w64 (f + 1))) (q := True) hE pn (by kernel_rfl) (Array.mem_of_getElem? (i := 2) rfl) (by show okDst _ caps'.length = true; rw [hlen]; kernel_rfl) (by kernel_rfl) trivial ?_
    refine POps.op (an := .n) (v := VV.ag [vi f, vi (w64 (f + 1))]) (q := True) hE pn (by kernel_rfl) (Array.mem_of_getElem? (i := 3) rfl) (by show okDst _ caps'.length = true; rw [hlen]; kernel_rfl) (by kernel_rfl) trivial ?_
    refine POps.op (an := .n) (v := vi 0) (q := True) hE pn (by kernel_rfl) (Array.mem_of_getElem? (i := 4) rfl) (by show okDst _ caps'.length = true; rw [hlen]; kernel_rfl) (by kernel_rfl) trivial ?_
    refine POps.nil ?_
    refine PCode.block (PCode.loop ?_)
    refine PLoop.cut (ks := [(0, VV.c (yv l)), (1, VV.tp [vi lo] 0), (2, VV.tp [vi hi] 0), (3, VV.tp [vi p, vi q] 0), (5, vi y), (25, VV.ag [vi f, vi (w64 (f + 1))]), (26, vi 0)]) (by kernel_rfl) (by simp only [List.forall_mem_cons]; exact ⟨by kernel_rfl, by kernel_rfl, by kernel_rfl, by kernel_rfl, by kernel_rfl, by kernel_rfl, by kernel_rfl, fun _ h => by cases h⟩) ?_
    refine PLoop.step ?_
    refine PCode.seq ?_
    refine PCode.region (by kernel_rfl) ?_
    refine POps.op (an := .n) (v := vb true) (q := True) hE pn (by kernel_rfl) (Array.mem_of_getElem? (i := 0) rfl) (by show okDst _ caps'.length = true; rw [hlen]; kernel_rfl) (by kernel_rfl) trivial ?_
    refine POps.nil ?_
    refine PCode.seq (PCode.cond (b := true) (by kernel_rfl) (PCode.skip ?_))
    refine PCode.seq (PCode.block (PCode.seq ?_))
    refine PCode.region (by kernel_rfl) ?_
    refine POps.op (an := .v (vi (f))) (v := vi (f)) (q := (0 : Int) ≤ 0 ∧ (0 : Int) < ((2 : Nat) : Int) ∧ partV ((0 : Int).toNat * 1) none [vi f, vi (w64 (f + 1))] = some (vi (f))) hE pn (by kernel_rfl) (Array.mem_of_getElem? (i := 0) rfl) (by show okDst _ caps'.length = true; rw [hlen]; kernel_rfl) (by kernel_rfl) ⟨by decide, by decide, by kernel_rfl⟩ ?_
    refine POps.op (an := .n) (v := vi (f)) (q := True) hE pn (by kernel_rfl) (Array.mem_of_getElem? (i := 1) rfl) (by show okDst _ caps'.length = true; rw [hlen]; kernel_rfl) (by kernel_rfl) trivial ?_
    refine POps.nil ?_
    refine PCode.seq ?_
    refine PCode.region (by kernel_rfl) ?_
    refine POps.op (an := .n) (v := VV.c (yv l)) (q := True) hE pn (by kernel_rfl) (Array.mem_of_getElem? (i := 0) rfl) (by show okDst _ caps'.length = true; rw [hlen]; kernel_rfl) (by kernel_rfl) trivial ?_
    refine POps.op (an := .n) (v := vi (f)) (q := True) hE pn (by kernel_rfl) (Array.mem_of_getElem? (i := 1) rfl) (by show okDst _ caps'.length = true; rw [hlen]; kernel_rfl) (by kernel_rfl) trivial ?_
    refine POps.op (an := .v (vi lo)) (v := vi lo) (q := loadL Go.Proofs.Try.prog 3 0 [vi lo] = some (vi lo)) hE pn (by kernel_rfl) (Array.mem_of_getElem? (i := 2) rfl) (by show okDst _ caps'.length = true; rw [hlen]; kernel_rfl) (by kernel_rfl) (by kernel_rfl) ?_
    refine POps.op (an := .n) (v := vi (maxI (f) lo)) (q := True) hE pn (by kernel_rfl) (Array.mem_of_getElem? (i := 3) rfl) (by show okDst _ caps'.length = true; rw [hlen]; kernel_rfl) (by kernel_rfl) trivial ?_
    refine POps.op (an := .v (vi hi)) (v := vi hi) (q := loadL Go.Proofs.Try.prog 3 0 [vi hi] = some (vi hi)) hE pn (by kernel_rfl) (Array.mem_of_getElem? (i := 4) rfl) (by show okDst _ caps'.length = true; rw [hlen]; kernel_rfl) (by kernel_rfl) (by kernel_rfl) ?_
    refine POps.op (an := .n) (v := vi (minI (maxI (f) lo) hi)) (q := True) hE pn (by kernel_rfl) (Array.mem_of_getElem? (i := 5) rfl) (by show okDst _ caps'.length = true; rw [hlen]; kernel_rfl) (by kernel_rfl) trivial ?_
    refine POps.op (an := .n) (v := vi y) (q := True) hE pn (by kernel_rfl) (Array.mem_of_getElem? (i := 6) rfl) (by show okDst _ caps'.length = true; rw [hlen]; kernel_rfl) (by kernel_rfl) trivial ?_
    refine POps.op (an := .n) (v := VV.ag [vi (minI (maxI (f) lo) hi), vi y]) (q := True) hE pn (by kernel_rfl) (Array.mem_of_getElem? (i := 7) rfl) (by show okDst _ caps'.length = true; rw [hlen]; kernel_rfl) (by kernel_rfl) trivial ?_
    refine POps.yield (x := encG (nearD lo hi p q y (f))) hE (by kernel_rfl) (Array.mem_of_getElem? (i := 8) rfl) (by show okDst _ caps'.length = true; rw [hlen]; kernel_rfl) (by show caps'.length < 1000000; omega) rfl (by kernel_rfl) (by kernel_rfl) hx2 rfl ?_ ?_
    · 
      refine POps.op (an := .n) (v := vb (!true)) (q := True) hE pn (by kernel_rfl) (Array.mem_of_getElem? (i := 9) rfl) (by show okDst _ caps'.length = true; rw [hlen]; kernel_rfl) (by kernel_rfl) trivial ?_
      refine POps.nil ?_
      refine PCode.cond (b := false) (by kernel_rfl) (PCode.skip ?_)
      refine PCode.region (by kernel_rfl) ?_
      refine POps.op (an := .n) (v := vi (w64 (0 + 1))) (q := True) hE pn (by kernel_rfl) (Array.mem_of_getElem? (i := 0) rfl) (by show okDst _ caps'.length = true; rw [hlen]; kernel_rfl) (by kernel_rfl) trivial ?_
      refine POps.op (an := .n) (v := vi (w64 (0 + 1))) (q := True) hE pn (by kernel_rfl) (Array.mem_of_getElem? (i := 1) rfl) (by show okDst _ caps'.length = true; rw [hlen]; kernel_rfl) (by kernel_rfl) trivial ?_
      refine POps.nil ?_
      refine PLoop.cut (ks := [(0, VV.c (yv l)), (1, VV.tp [vi lo] 0), (2, VV.tp [vi hi] 0), (3, VV.tp [vi p, vi q] 0), (5, vi y), (25, VV.ag [vi f, vi (w64 (f + 1))]), (26, vi 1)]) (by kernel_rfl) (by simp only [List.forall_mem_cons]; exact ⟨by kernel_rfl, by kernel_rfl, by kernel_rfl, by kernel_rfl, by kernel_rfl, by kernel_rfl, by kernel_rfl, fun _ h => by cases h⟩) ?_
      refine PLoop.step ?_
      refine PCode.seq ?_
      refine PCode.region (by kernel_rfl) ?_
      refine POps.op (an := .n) (v := vb true) (q := True) hE pn (by kernel_rfl) (Array.mem_of_getElem? (i := 0) rfl) (by show okDst _ caps'.length = true; rw [hlen]; kernel_rfl) (by kernel_rfl) trivial ?_
      refine POps.nil ?_
      refine PCode.seq (PCode.cond (b := true) (by kernel_rfl) (PCode.skip ?_))
      refine PCode.seq (PCode.block (PCode.seq ?_))
      refine PCode.region (by kernel_rfl) ?_
      refine POps.op (an := .v (vi (w64 (f + 1)))) (v := vi (w64 (f + 1))) (q := (0 : Int) ≤ 1 ∧ (1 : Int) < ((2 : Nat) : Int) ∧ partV ((1 : Int).toNat * 1) none [vi f, vi (w64 (f + 1))] = some (vi (w64 (f + 1)))) hE pn (by kernel_rfl) (Array.mem_of_getElem? (i := 0) rfl) (by show okDst _ caps'.length = true; rw [hlen]; kernel_rfl) (by kernel_rfl) ⟨by decide, by decide, by kernel_rfl⟩ ?_
      refine POps.op (an := .n) (v := vi (w64 (f + 1))) (q := True) hE pn (by kernel_rfl) (Array.mem_of_getElem? (i := 1) rfl) (by show okDst _ caps'.length = true; rw [hlen]; kernel_rfl) (by kernel_rfl) trivial ?_
      refine POps.nil ?_
      refine PCode.seq ?_
      refine PCode.region (by kernel_rfl) ?_
      refine POps.op (an := .n) (v := VV.c (yv l)) (q := True) hE pn (by kernel_rfl) (Array.mem_of_getElem? (i := 0) rfl) (by show okDst _ caps'.length = true; rw [hlen]; kernel_rfl) (by kernel_rfl) trivial ?_
      refine POps.op (an := .n) (v := vi (w64 (f + 1))) (q := True) hE pn (by kernel_rfl) (Array.mem_of_getElem? (i := 1) rfl) (by show okDst _ caps'.length = true; rw [hlen]; kernel_rfl) (by kernel_rfl) trivial ?_
      refine POps.op (an := .v (vi lo)) (v := vi lo) (q := loadL Go.Proofs.Try.prog 3 0 [vi lo] = some (vi lo)) hE pn (by kernel_rfl) (Array.mem_of_getElem? (i := 2) rfl) (by show okDst _ caps'.length = true; rw [hlen]; kernel_rfl) (by kernel_rfl) (by kernel_rfl) ?_
      refine POps.op (an := .n) (v := vi (maxI (w64 (f + 1)) lo)) (q := True) hE pn (by kernel_rfl) (Array.mem_of_getElem? (i := 3) rfl) (by show okDst _ caps'.length = true; rw [hlen]; kernel_rfl) (by kernel_rfl) trivial ?_
      refine POps.op (an := .v (vi hi)) (v := vi hi) (q := loadL Go.Proofs.Try.prog 3 0 [vi hi] = some (vi hi)) hE pn (by kernel_rfl) (Array.mem_of_getElem? (i := 4) rfl) (by show okDst _ caps'.length = true; rw [hlen]; kernel_rfl) (by kernel_rfl) (by kernel_rfl) ?_
      refine POps.op (an := .n) (v := vi (minI (maxI (w64 (f + 1)) lo) hi)) (q := True) hE pn (by kernel_rfl) (Array.mem_of_getElem? (i := 5) rfl) (by show okDst _ caps'.length = true; rw [hlen]; kernel_rfl) (by kernel_rfl) trivial ?_
      refine POps.op (an := .n) (v := vi y) (q := True) hE pn (by kernel_rfl) (Array.mem_of_getElem? (i := 6) rfl) (by show okDst _ caps'.length = true; rw [hlen]; kernel_rfl) (by kernel_rfl) trivial ?_
      refine POps.op (an := .n) (v := VV.ag [vi (minI (maxI (w64 (f + 1)) lo) hi), vi y]) (q := True) hE pn (by kernel_rfl) (Array.mem_of_getElem? (i := 7) rfl) (by show okDst _ caps'.length = true; rw [hlen]; kernel_rfl) (by kernel_rfl) trivial ?_
      refine POps.yield (x := encG (nearD lo hi p q y (w64 (f + 1)))) hE (by kernel_rfl) (Array.mem_of_getElem? (i := 8) rfl) (by show okDst _ caps'.length = true; rw [hlen]; kernel_rfl) (by show caps'.length < 1000000; omega) rfl (by kernel_rfl) (by kernel_rfl) hx4 rfl ?_ ?_
      · 
        refine POps.op (an := .n) (v := vb (!true)) (q := True) hE pn (by kernel_rfl) (Array.mem_of_getElem? (i := 9) rfl) (by show okDst _ caps'.length = true; rw [hlen]; kernel_rfl) (by kernel_rfl) trivial ?_
        refine POps.nil ?_
        refine PCode.cond (b := false) (by kernel_rfl) (PCode.skip ?_)
        refine PCode.region (by kernel_rfl) ?_
        refine POps.op (an := .n) (v := vi (w64 (1 + 1))) (q := True) hE pn (by kernel_rfl) (Array.mem_of_getElem? (i := 0) rfl) (by show okDst _ caps'.length = true; rw [hlen]; kernel_rfl) (by kernel_rfl) trivial ?_
        refine POps.op (an := .n) (v := vi (w64 (1 + 1))) (q := True) hE pn (by kernel_rfl) (Array.mem_of_getElem? (i := 1) rfl) (by show okDst _ caps'.length = true; rw [hlen]; kernel_rfl) (by kernel_rfl) trivial ?_
        refine POps.nil ?_
        refine PLoop.cut (ks := [(0, VV.c (yv l)), (1, VV.tp [vi lo] 0), (2, VV.tp [vi hi] 0), (3, VV.tp [vi p, vi q] 0), (5, vi y), (26, vi 2)]) (by kernel_rfl) (by simp only [List.forall_mem_cons]; exact ⟨by kernel_rfl, by kernel_rfl, by kernel_rfl, by kernel_rfl, by kernel_rfl, by kernel_rfl, fun _ h => by cases h⟩) ?_
        refine PLoop.step ?_
        refine PCode.seq ?_
        refine PCode.region (by kernel_rfl) ?_
        refine POps.op (an := .n) (v := vb false) (q := True) hE pn (by kernel_rfl) (Array.mem_of_getElem? (i := 0) rfl) (by show okDst _ caps'.length = true; rw [hlen]; kernel_rfl) (by kernel_rfl) trivial ?_
        refine POps.nil ?_
        refine PCode.seq (PCode.cond (b := false) (by kernel_rfl) (PCode.exit ?_))
        dsimp only
        rw [if_pos rfl]
        refine PCode.cut (ks := [(0, VV.c (yv l)), (1, VV.tp [vi lo] 0), (2, VV.tp [vi hi] 0), (3, VV.tp [vi p, vi q] 0), (5, vi y)]) (by kernel_rfl) (by simp only [List.forall_mem_cons]; exact ⟨by kernel_rfl, by kernel_rfl, by kernel_rfl, by kernel_rfl, by kernel_rfl, fun _ h => by cases h⟩) ?_
        refine PCode.region (by kernel_rfl) ?_
        refine POps.op (an := .n) (v := vi y) (q := True) hE pn (by kernel_rfl) (Array.mem_of_getElem? (i := 0) rfl) (by show okDst _ caps'.length = true; rw [hlen]; kernel_rfl) (by kernel_rfl) trivial ?_
        refine POps.op (an := .n) (v := vi (w64 (y + 1))) (q := True) hE pn (by kernel_rfl) (Array.mem_of_getElem? (i := 1) rfl) (by show okDst _ caps'.length = true; rw [hlen]; kernel_rfl) (by kernel_rfl) trivial ?_
        refine POps.op (an := .n) (v := vi (w64 (y + 1))) (q := True) hE pn (by kernel_rfl) (Array.mem_of_getElem? (i := 2) rfl) (by show okDst _ caps'.length = true; rw [hlen]; kernel_rfl) (by kernel_rfl) trivial ?_
        refine POps.nil ?_
        refine PLoop.cut (ks := [(0, VV.c (yv l)), (1, VV.tp [vi lo] 0), (2, VV.tp [vi hi] 0), (3, VV.tp [vi p, vi q] 0), (5, vi (w64 (y + 1)))]) (by kernel_rfl) (by simp only [List.forall_mem_cons]; exact ⟨by kernel_rfl, by kernel_rfl, by kernel_rfl, by kernel_rfl, by kernel_rfl, fun _ h => by cases h⟩) ?_
        rw [hw]
        exact ih (y + 1) (n + 1 + 1) (by omega) (by omega) hn2 hx5
      · 
        refine POps.op (an := .n) (v := vb (!false)) (q := True) hE pn (by kernel_rfl) (Array.mem_of_getElem? (i := 9) rfl) (by show okDst _ caps'.length = true; rw [hlen]; kernel_rfl) (by kernel_rfl) trivial ?_
        refine POps.nil ?_
        exact PCode.cond (b := true) (by kernel_rfl) (PCode.ret (hret _))
    · 
      refine POps.op (an := .n) (v := vb (!false)) (q := True) hE pn (by kernel_rfl) (Array.mem_of_getElem? (i := 9) rfl) (by show okDst _ caps'.length = true; rw [hlen]; kernel_rfl) (by kernel_rfl) trivial ?_
      refine POps.nil ?_
      exact PCode.cond (b := true) (by kernel_rfl) (PCode.ret (hret _))
/-- the pairs come in their order. -/
theorem it_near (x : Int × Int × Int × Int) (hx : NearOK x) : ItOK Go.Proofs.Try.prog 33 [.tp [vi x.1] 0, .tp [vi x.2.1] 0, .tp [vi x.2.2.1, vi x.2.2.2] 0] ((nearAll x).map encG) := by
  obtain ⟨lo, hi, p, q⟩ := x
  obtain ⟨hlo, hhi, hq0⟩ := hx
  dsimp only at hlo hhi hq0 ⊢
  refine ItOK.intro (fn := Go.Proofs.Try.f33) Go.Proofs.Try.func33 rfl rfl (of_decide_eq_true (by kernel_rfl)) (fun E hP hsz hcaps hlen hxs hE => ?_)
  have outer := @near_outer E lo hi p q hE hP hsz hcaps hlen hlo hhi hq0
  obtain ⟨P, sz, l, caps, caps', xs, J, R⟩ := E
  dsimp only at hP hsz hcaps hlen hxs
  subst hP; subst hsz; subst hcaps
  subst hxs
  dsimp only at outer ⊢
  refine PCode.seq ?_
  refine PCode.region (by kernel_rfl) ?_
  refine POps.op (an := .v (vi lo)) (v := vi lo) (q := loadL Go.Proofs.Try.prog 3 0 [vi lo] = some (vi lo)) hE pn (by kernel_rfl) (Array.mem_of_getElem? (i := 0) rfl) (by show okDst _ caps'.length = true; rw [hlen]; kernel_rfl) (by kernel_rfl) (by kernel_rfl) ?_
  refine POps.op (an := .n) (v := vi lo) (q := True) hE pn (by kernel_rfl) (Array.mem_of_getElem? (i := 1) rfl) (by show okDst _ caps'.length = true; rw [hlen]; kernel_rfl) (by kernel_rfl) trivial ?_
  refine POps.nil ?_
  refine PCode.block (PCode.loop ?_)
  refine PLoop.cut (ks := [(0, VV.c (yv l)), (1, VV.tp [vi lo] 0), (2, VV.tp [vi hi] 0), (3, VV.tp [vi p, vi q] 0), (5, vi lo)]) (by kernel_rfl) (by simp only [List.forall_mem_cons]; exact ⟨by kernel_rfl, by kernel_rfl, by kernel_rfl, by kernel_rfl, by kernel_rfl, fun _ h => by cases h⟩) ?_
  refine outer _ ?_ ?_ (hi + 1 - lo).toNat lo 0 (Int.le_refl _) (by omega) (Nat.zero_le _) rfl
  · intro A; dsimp only; rw [if_pos rfl]; exact ⟨.inl rfl, .inr rfl⟩
  · intro A; exact ⟨.inr rfl, .inl rfl⟩
end
end Go.Proofs.Ytgicjogbpmpjeaa.Vg

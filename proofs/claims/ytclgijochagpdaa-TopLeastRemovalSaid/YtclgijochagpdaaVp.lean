import Derived.Test.YtclgijochagpdaaVv20
import Derived.Test.YtclgijochagpdaaWa
set_option linter.unusedVariables false
set_option linter.unusedSimpArgs false
namespace Go.Proofs.Ytclgijochagpdaa.Vg
open Go Go.Proofs.Ytclgijochagpdaa.Ev Go.Proofs.Ytclgijochagpdaa.Vv
open List (flatMap length_cons length_nil length_map length_append map_cons map_nil length_replicate)
def innerL (i j : Int) : Nat -> List (Int × Int)
 | 0 => []
 | d + 1 => if i = j then innerL i (j + 1) d else (i, j) :: innerL i (j + 1) d
def outerL (n : Nat) (i : Int) : Nat -> List (Int × Int)
 | 0 => []
 | d + 1 => innerL i 0 n ++ outerL n (i + 1) d
theorem innerL_eq (i j : Int) (d : Nat) : innerL i j (d + 1) = if i = j then innerL i (j + 1) d else (i, j) :: innerL i (j + 1) d := rfl
theorem outerL_eq (n : Nat) (i : Int) (d : Nat) : outerL n i (d + 1) = innerL i 0 n ++ outerL n (i + 1) d := rfl
def pairsL (n : Int) : List (Int × Int) := outerL n.toNat 0 n.toNat
def encP (p : Int × Int) : List Value := [.int .i64 p.1, .int .i64 p.2]
theorem w64_small {n : Int} (h1 : -9223372036854775808 <= n) (h2 : n <= 9223372036854775807) : w64 n = n := by
 unfold w64 IntKind.wrap
 simp [IntKind.signed, IntKind.bits]
 omega
theorem drop_head {α : Type} {xs : List α} {p : Nat} {x : α} {r : List α} (h : xs.drop p = x :: r) : xs[p]? = some x /\ xs.drop (p + 1) = r := by
 have hlt : p < xs.length := by
  rcases Nat.lt_or_ge p xs.length with h' | h'
  ·exact h'
  ·rw [List.drop_eq_nil_of_le h'] at h; cases h
 rw [List.drop_eq_getElem_cons hlt] at h
 injection h with h1 h2
 exact ⟨by rw [List.getElem?_eq_getElem hlt, h1], h2⟩
theorem drop_none {α : Type} {xs : List α} {p : Nat} (h : xs.drop p = []) (hp : p <= xs.length) : p = xs.length := by
 have : xs.length <= p := List.drop_eq_nil_iff.1 h
 omega
set_option maxRecDepth 100000
set_option maxHeartbeats 4000000
section
variable {E : Env} {n : Int}
theorem pairs_inner (hE : E.OK) (hP : E.P = Try.prog) (hsz : E.sz = 25) (hcaps : E.caps = [.tp [vi n] 0]) (hlen : E.caps'.length = 1) (hn : n <= 1000000000) (i : Int) (rest : List (List Value)) (Post : Exit -> SP)
 (hend : ∀ A p, p <= E.xs.length -> E.xs.drop p = rest -> ev A (.tmp 0) = VV.c (yv E.l) -> ev A (.tmp 1) = VV.tp [vi n] 0 -> ev A (.tmp 5) = vi n -> ev A (.tmp 6) = vi i -> Post (.exit 2) A (some p)) (hret : ∀ A, Post .ret A none) :
 ∀ (d : Nat) (j : Int) (p : Nat), 0 <= j -> j + d = max n 0 -> p <= E.xs.length -> E.xs.drop p = (innerL i j d).map encP ++ rest ->
   PLoop E (bodyOf Try.f53 1) (mkA [(0, VV.c (yv E.l)), (1, VV.tp [vi n] 0), (3, vi i), (5, vi n), (6, vi i), (9, vi n), (10, vi j)]) (some p) Post := by
 obtain ⟨P, sz, l, caps, caps', xs, J, R⟩ := E
 dsimp only at hP hsz hcaps hlen
 subst hP; subst hsz; subst hcaps
 dsimp only at hend ⊢
 intro d
 induction d with
 | zero =>
   intro j p hj hd hp hx
   have hlt : decide (j < n) = false := by simp; omega
   refine PLoop.step ?_
   refine PCode.seq ?_
   refine PCode.region (by kernel_rfl) ?_
   refine POps.op (an := .n) (v := vb (decide (j < n))) (q := True) hE pn (by kernel_rfl) (Array.mem_of_getElem? (i := 0) rfl) (by show okDst _ caps'.length = true; rw [hlen]; kernel_rfl) (by kernel_rfl) trivial ?_
   refine POps.nil ?_
   refine PCode.seq (PCode.cond (b := false) (by show VV.c (.bool (decide (j < n))) = _; rw [hlt]) (PCode.exit ?_))
   exact hend _ p hp (by simpa [innerL] using hx) (by kernel_rfl) (by kernel_rfl) (by kernel_rfl) (by kernel_rfl)
 | succ d ih =>
   intro j p hj hd hp hx
   have hlt : decide (j < n) = true := by simp; omega
   have hw : w64 (j + 1) = j + 1 := w64_small (by omega) (by omega)
   refine PLoop.step ?_
   refine PCode.seq ?_
   refine PCode.region (by kernel_rfl) ?_
   refine POps.op (an := .n) (v := vb (decide (j < n))) (q := True) hE pn (by kernel_rfl) (Array.mem_of_getElem? (i := 0) rfl) (by show okDst _ caps'.length = true; rw [hlen]; kernel_rfl) (by kernel_rfl) trivial ?_
   refine POps.nil ?_
   refine PCode.seq (PCode.cond (b := true) (by show VV.c (.bool (decide (j < n))) = _; rw [hlt]) (PCode.skip ?_))
   refine PCode.seq (PCode.block (PCode.seq ?_))
   refine PCode.region (by kernel_rfl) ?_
   refine POps.op (an := .n) (v := vi j) (q := True) hE pn (by kernel_rfl) (Array.mem_of_getElem? (i := 0) rfl) (by show okDst _ caps'.length = true; rw [hlen]; kernel_rfl) (by kernel_rfl) trivial ?_
   refine POps.op (an := .n) (v := vi j) (q := True) hE pn (by kernel_rfl) (Array.mem_of_getElem? (i := 1) rfl) (by show okDst _ caps'.length = true; rw [hlen]; kernel_rfl) (by kernel_rfl) trivial ?_
   refine POps.nil ?_
   refine PCode.seq ?_
   by_cases hij : i = j
   ·have hne : (!decide (i = j)) = false := by simp [hij]
    refine PCode.region (by kernel_rfl) ?_
    refine POps.op (an := .n) (v := vi i) (q := True) hE pn (by kernel_rfl) (Array.mem_of_getElem? (i := 0) rfl) (by show okDst _ caps'.length = true; rw [hlen]; kernel_rfl) (by kernel_rfl) trivial ?_
    refine POps.op (an := .n) (v := vi j) (q := True) hE pn (by kernel_rfl) (Array.mem_of_getElem? (i := 1) rfl) (by show okDst _ caps'.length = true; rw [hlen]; kernel_rfl) (by kernel_rfl) trivial ?_
    refine POps.op (an := .n) (v := vb (!decide (i = j))) (q := True) hE pn (by kernel_rfl) (Array.mem_of_getElem? (i := 2) rfl) (by show okDst _ caps'.length = true; rw [hlen]; kernel_rfl) (by kernel_rfl) trivial ?_
    refine POps.op (an := .n) (v := vb (!decide (i = j))) (q := True) hE pn (by kernel_rfl) (Array.mem_of_getElem? (i := 3) rfl) (by show okDst _ caps'.length = true; rw [hlen]; kernel_rfl) (by kernel_rfl) trivial ?_
    refine POps.op (an := .skip) (v := .tu []) (q := (!decide (i = j)) = !true) hE pn (by kernel_rfl) (Array.mem_of_getElem? (i := 4) rfl) (by show okDst _ caps'.length = true; rw [hlen]; kernel_rfl) (by kernel_rfl) hne ?_
    refine POps.op (an := .skip) (v := .tu []) (q := (!decide (i = j)) = !true) hE pn (by kernel_rfl) (Array.mem_of_getElem? (i := 5) rfl) (by show okDst _ caps'.length = true; rw [hlen]; kernel_rfl) (by kernel_rfl) hne ?_
    refine POps.op (an := .skip) (v := .tu []) (q := (!decide (i = j)) = !true) hE pn (by kernel_rfl) (Array.mem_of_getElem? (i := 6) rfl) (by show okDst _ caps'.length = true; rw [hlen]; kernel_rfl) (by kernel_rfl) hne ?_
    refine POps.op (an := .skip) (v := .tu []) (q := (!decide (i = j)) = !true) hE pn (by kernel_rfl) (Array.mem_of_getElem? (i := 7) rfl) (by show okDst _ caps'.length = true; rw [hlen]; kernel_rfl) (by kernel_rfl) hne ?_
    refine POps.op (an := .skip) (v := .tu []) (q := (!decide (i = j)) = !true) hE pn (by kernel_rfl) (Array.mem_of_getElem? (i := 8) rfl) (by show okDst _ caps'.length = true; rw [hlen]; kernel_rfl) (by kernel_rfl) hne ?_
    refine POps.op (an := .b false) (v := vb false) (q := (!decide (i = j)) = false) hE pn (by kernel_rfl) (Array.mem_of_getElem? (i := 9) rfl) (by show okDst _ caps'.length = true; rw [hlen]; kernel_rfl) (by kernel_rfl) hne ?_
    refine POps.nil ?_
    refine PCode.cond (b := false) (by kernel_rfl) (PCode.skip ?_)
    refine PCode.region (by kernel_rfl) ?_
    refine POps.op (an := .n) (v := vi (w64 (j + 1))) (q := True) hE pn (by kernel_rfl) (Array.mem_of_getElem? (i := 0) rfl) (by show okDst _ caps'.length = true; rw [hlen]; kernel_rfl) (by kernel_rfl) trivial ?_
    refine POps.op (an := .n) (v := vi (w64 (j + 1))) (q := True) hE pn (by kernel_rfl) (Array.mem_of_getElem? (i := 1) rfl) (by show okDst _ caps'.length = true; rw [hlen]; kernel_rfl) (by kernel_rfl) trivial ?_
    refine POps.nil ?_
    refine PLoop.cut (ks := [(0, VV.c (yv l)), (1, VV.tp [vi n] 0), (3, vi i), (5, vi n), (6, vi i), (9, vi n), (10, vi (w64 (j + 1)))]) (by kernel_rfl) (by simp only [List.forall_mem_cons]; exact ⟨by kernel_rfl, by kernel_rfl, by kernel_rfl, by kernel_rfl, by kernel_rfl, by kernel_rfl, by kernel_rfl, fun _ h => by cases h⟩) ?_
    rw [hw]
    refine ih (j + 1) p (by omega) (by omega) hp ?_
    rw [hx, innerL_eq, if_pos hij]
   ·have hne : (!decide (i = j)) = true := by simp [hij]
    have hx2 : xs.drop p = encP (i, j) :: ((innerL i (j + 1) d).map encP ++ rest) := by rw [hx, innerL_eq, if_neg hij]; rfl
    obtain ⟨hx3, hx4⟩ := drop_head hx2
    have hp2 : p + 1 <= xs.length := by have := (List.getElem?_eq_some_iff.1 hx3).1; omega
    refine PCode.region (by kernel_rfl) ?_
    refine POps.op (an := .n) (v := vi i) (q := True) hE pn (by kernel_rfl) (Array.mem_of_getElem? (i := 0) rfl) (by show okDst _ caps'.length = true; rw [hlen]; kernel_rfl) (by kernel_rfl) trivial ?_
    refine POps.op (an := .n) (v := vi j) (q := True) hE pn (by kernel_rfl) (Array.mem_of_getElem? (i := 1) rfl) (by show okDst _ caps'.length = true; rw [hlen]; kernel_rfl) (by kernel_rfl) trivial ?_
    refine POps.op (an := .n) (v := vb (!decide (i = j))) (q := True) hE pn (by kernel_rfl) (Array.mem_of_getElem? (i := 2) rfl) (by show okDst _ caps'.length = true; rw [hlen]; kernel_rfl) (by kernel_rfl) trivial ?_
    refine POps.op (an := .n) (v := vb (!decide (i = j))) (q := True) hE pn (by kernel_rfl) (Array.mem_of_getElem? (i := 3) rfl) (by show okDst _ caps'.length = true; rw [hlen]; kernel_rfl) (by kernel_rfl) trivial ?_
    refine POps.op (an := .n) (v := VV.c (yv l)) (q := (!decide (i = j)) = true /\ True) hE pn (by kernel_rfl) (Array.mem_of_getElem? (i := 4) rfl) (by show okDst _ caps'.length = true; rw [hlen]; kernel_rfl) (by kernel_rfl) ⟨hne, trivial⟩ ?_
    refine POps.op (an := .n) (v := vi i) (q := (!decide (i = j)) = true /\ True) hE pn (by kernel_rfl) (Array.mem_of_getElem? (i := 5) rfl) (by show okDst _ caps'.length = true; rw [hlen]; kernel_rfl) (by kernel_rfl) ⟨hne, trivial⟩ ?_
    refine POps.op (an := .n) (v := vi j) (q := (!decide (i = j)) = true /\ True) hE pn (by kernel_rfl) (Array.mem_of_getElem? (i := 6) rfl) (by show okDst _ caps'.length = true; rw [hlen]; kernel_rfl) (by kernel_rfl) ⟨hne, trivial⟩ ?_
    refine POps.yield (x := encP (i, j)) hE (by kernel_rfl) (Array.mem_of_getElem? (i := 7) rfl) (by show okDst _ caps'.length = true; rw [hlen]; kernel_rfl) (by show caps'.length < 1000000; omega) rfl (by kernel_rfl) (by kernel_rfl) hx3 (by show ((!decide (i = j)) == true) = true; rw [hne]; rfl) ?_ ?_
    ·
     refine POps.op (an := .n) (v := vb (!true)) (q := (!decide (i = j)) = true /\ True) hE pn (by kernel_rfl) (Array.mem_of_getElem? (i := 8) rfl) (by show okDst _ caps'.length = true; rw [hlen]; kernel_rfl) (by kernel_rfl) ⟨hne, trivial⟩ ?_
     refine POps.op (an := .b true) (v := vb (!true)) (q := (!decide (i = j)) = true) hE pn (by kernel_rfl) (Array.mem_of_getElem? (i := 9) rfl) (by show okDst _ caps'.length = true; rw [hlen]; kernel_rfl) (by kernel_rfl) hne ?_
     refine POps.nil ?_
     refine PCode.cond (b := false) (by kernel_rfl) (PCode.skip ?_)
     refine PCode.region (by kernel_rfl) ?_
     refine POps.op (an := .n) (v := vi (w64 (j + 1))) (q := True) hE pn (by kernel_rfl) (Array.mem_of_getElem? (i := 0) rfl) (by show okDst _ caps'.length = true; rw [hlen]; kernel_rfl) (by kernel_rfl) trivial ?_
     refine POps.op (an := .n) (v := vi (w64 (j + 1))) (q := True) hE pn (by kernel_rfl) (Array.mem_of_getElem? (i := 1) rfl) (by show okDst _ caps'.length = true; rw [hlen]; kernel_rfl) (by kernel_rfl) trivial ?_
     refine POps.nil ?_
     refine PLoop.cut (ks := [(0, VV.c (yv l)), (1, VV.tp [vi n] 0), (3, vi i), (5, vi n), (6, vi i), (9, vi n), (10, vi (w64 (j + 1)))]) (by kernel_rfl) (by simp only [List.forall_mem_cons]; exact ⟨by kernel_rfl, by kernel_rfl, by kernel_rfl, by kernel_rfl, by kernel_rfl, by kernel_rfl, by kernel_rfl, fun _ h => by cases h⟩) ?_
     rw [hw]
     exact ih (j + 1) (p + 1) (by omega) (by omega) hp2 hx4
    ·
     refine POps.op (an := .n) (v := vb (!false)) (q := (!decide (i = j)) = true /\ True) hE pn (by kernel_rfl) (Array.mem_of_getElem? (i := 8) rfl) (by show okDst _ caps'.length = true; rw [hlen]; kernel_rfl) (by kernel_rfl) ⟨hne, trivial⟩ ?_
     refine POps.op (an := .b true) (v := vb (!false)) (q := (!decide (i = j)) = true) hE pn (by kernel_rfl) (Array.mem_of_getElem? (i := 9) rfl) (by show okDst _ caps'.length = true; rw [hlen]; kernel_rfl) (by kernel_rfl) hne ?_
     refine POps.nil ?_
     exact PCode.cond (b := true) (by kernel_rfl) (PCode.ret (hret _))
theorem pairs_outer (hE : E.OK) (hP : E.P = Try.prog) (hsz : E.sz = 25) (hcaps : E.caps = [.tp [vi n] 0]) (hlen : E.caps'.length = 1) (hn : n <= 1000000000) (Post : Exit -> SP)
 (hend : ∀ A, Post (.exit 0) A (some E.xs.length)) (hret : ∀ A, Post .ret A none) :
 ∀ (d : Nat) (i : Int) (p : Nat), 0 <= i -> i + d = max n 0 -> p <= E.xs.length -> E.xs.drop p = (outerL n.toNat i d).map encP ->
   PLoop E (bodyOf Try.f53 0) (mkA [(0, VV.c (yv E.l)), (1, VV.tp [vi n] 0), (5, vi n), (6, vi i)]) (some p) Post := by
 have inner := @pairs_inner E n hE hP hsz hcaps hlen hn
 obtain ⟨P, sz, l, caps, caps', xs, J, R⟩ := E
 dsimp only at hP hsz hcaps hlen
 subst hP; subst hsz; subst hcaps
 dsimp only at hend inner ⊢
 intro d
 induction d with
 | zero =>
   intro i p hj hd hp hx
   have hlt : decide (i < n) = false := by simp; omega
   refine PLoop.step ?_
   refine PCode.seq ?_
   refine PCode.region (by kernel_rfl) ?_
   refine POps.op (an := .n) (v := vb (decide (i < n))) (q := True) hE pn (by kernel_rfl) (Array.mem_of_getElem? (i := 0) rfl) (by show okDst _ caps'.length = true; rw [hlen]; kernel_rfl) (by kernel_rfl) trivial ?_
   refine POps.nil ?_
   refine PCode.seq (PCode.cond (b := false) (by show VV.c (.bool (decide (i < n))) = _; rw [hlt]) (PCode.exit ?_))
   have hpe : p = xs.length := drop_none (by simpa [outerL] using hx) hp
   rw [hpe]
   exact hend _
 | succ d ih =>
   intro i p hj hd hp hx
   have hlt : decide (i < n) = true := by simp; omega
   have hw : w64 (i + 1) = i + 1 := w64_small (by omega) (by omega)
   refine PLoop.step ?_
   refine PCode.seq ?_
   refine PCode.region (by kernel_rfl) ?_
   refine POps.op (an := .n) (v := vb (decide (i < n))) (q := True) hE pn (by kernel_rfl) (Array.mem_of_getElem? (i := 0) rfl) (by show okDst _ caps'.length = true; rw [hlen]; kernel_rfl) (by kernel_rfl) trivial ?_
   refine POps.nil ?_
   refine PCode.seq (PCode.cond (b := true) (by show VV.c (.bool (decide (i < n))) = _; rw [hlt]) (PCode.skip ?_))
   refine PCode.seq (PCode.block (PCode.seq ?_))
   refine PCode.region (by kernel_rfl) ?_
   refine POps.op (an := .n) (v := vi i) (q := True) hE pn (by kernel_rfl) (Array.mem_of_getElem? (i := 0) rfl) (by show okDst _ caps'.length = true; rw [hlen]; kernel_rfl) (by kernel_rfl) trivial ?_
   refine POps.op (an := .n) (v := vi i) (q := True) hE pn (by kernel_rfl) (Array.mem_of_getElem? (i := 1) rfl) (by show okDst _ caps'.length = true; rw [hlen]; kernel_rfl) (by kernel_rfl) trivial ?_
   refine POps.nil ?_
   refine PCode.seq ?_
   refine PCode.region (by kernel_rfl) ?_
   refine POps.op (an := .v (vi n)) (v := vi n) (q := loadL Try.prog 3 0 [vi n] = some (vi n)) hE pn (by kernel_rfl) (Array.mem_of_getElem? (i := 0) rfl) (by show okDst _ caps'.length = true; rw [hlen]; kernel_rfl) (by kernel_rfl) (by kernel_rfl) ?_
   refine POps.op (an := .n) (v := vi 0) (q := True) hE pn (by kernel_rfl) (Array.mem_of_getElem? (i := 1) rfl) (by show okDst _ caps'.length = true; rw [hlen]; kernel_rfl) (by kernel_rfl) trivial ?_
   refine POps.nil ?_
   refine PCode.block (PCode.loop ?_)
   refine PLoop.cut (ks := [(0, VV.c (yv l)), (1, VV.tp [vi n] 0), (3, vi i), (5, vi n), (6, vi i), (9, vi n), (10, vi 0)]) (by kernel_rfl) (by simp only [List.forall_mem_cons]; exact ⟨by kernel_rfl, by kernel_rfl, by kernel_rfl, by kernel_rfl, by kernel_rfl, by kernel_rfl, by kernel_rfl, fun _ h => by cases h⟩) ?_
   refine inner i ((outerL n.toNat (i + 1) d).map encP) _ ?_ ?_ n.toNat 0 p (by omega) (by omega) hp ?_
   ·intro A p1 hp1 hx1 e0 e1 e5 e6
    dsimp only
    rw [if_pos rfl]
    refine PCode.cut (ks := [(0, VV.c (yv l)), (1, VV.tp [vi n] 0), (5, vi n), (6, vi i)]) (by kernel_rfl) (by simp only [List.forall_mem_cons]; exact ⟨e0, e1, e5, e6, fun _ h => by cases h⟩) ?_
    refine PCode.region (by kernel_rfl) ?_
    refine POps.op (an := .n) (v := vi (w64 (i + 1))) (q := True) hE pn (by kernel_rfl) (Array.mem_of_getElem? (i := 0) rfl) (by show okDst _ caps'.length = true; rw [hlen]; kernel_rfl) (by kernel_rfl) trivial ?_
    refine POps.op (an := .n) (v := vi (w64 (i + 1))) (q := True) hE pn (by kernel_rfl) (Array.mem_of_getElem? (i := 1) rfl) (by show okDst _ caps'.length = true; rw [hlen]; kernel_rfl) (by kernel_rfl) trivial ?_
    refine POps.nil ?_
    refine PLoop.cut (ks := [(0, VV.c (yv l)), (1, VV.tp [vi n] 0), (5, vi n), (6, vi (w64 (i + 1)))]) (by kernel_rfl) (by simp only [List.forall_mem_cons]; exact ⟨by kernel_rfl, by kernel_rfl, by kernel_rfl, by kernel_rfl, fun _ h => by cases h⟩) ?_
    rw [hw]
    exact ih (i + 1) p1 (by omega) (by omega) hp1 hx1
   ·intro A; exact hret A
   ·rw [hx, outerL_eq, List.map_append]
theorem it_pairs (hn : n <= 1000000000) : ItOK Try.prog 53 [.tp [vi n] 0] ((pairsL n).map encP) := by
 refine ItOK.intro (fn := Try.f53) Try.func53 rfl rfl (of_decide_eq_true (by kernel_rfl)) (fun E hP hsz hcaps hlen hxs hE => ?_)
 have outer := @pairs_outer E n hE hP hsz hcaps hlen hn
 obtain ⟨P, sz, l, caps, caps', xs, J, R⟩ := E
 dsimp only at hP hsz hcaps hlen hxs
 subst hP; subst hsz; subst hcaps
 subst hxs
 dsimp only at outer ⊢
 refine PCode.seq ?_
 refine PCode.region (by kernel_rfl) ?_
 refine POps.op (an := .v (vi n)) (v := vi n) (q := loadL Try.prog 3 0 [vi n] = some (vi n)) hE pn (by kernel_rfl) (Array.mem_of_getElem? (i := 0) rfl) (by show okDst _ caps'.length = true; rw [hlen]; kernel_rfl) (by kernel_rfl) (by kernel_rfl) ?_
 refine POps.op (an := .n) (v := vi 0) (q := True) hE pn (by kernel_rfl) (Array.mem_of_getElem? (i := 1) rfl) (by show okDst _ caps'.length = true; rw [hlen]; kernel_rfl) (by kernel_rfl) trivial ?_
 refine POps.nil ?_
 refine PCode.block (PCode.loop ?_)
 refine PLoop.cut (ks := [(0, VV.c (yv l)), (1, VV.tp [vi n] 0), (5, vi n), (6, vi 0)]) (by kernel_rfl) (by simp only [List.forall_mem_cons]; exact ⟨by kernel_rfl, by kernel_rfl, by kernel_rfl, by kernel_rfl, fun _ h => by cases h⟩) ?_
 refine outer _ ?_ ?_ n.toNat 0 0 (by omega) (by omega) (Nat.zero_le _) rfl
 ·intro A; dsimp only; rw [if_pos rfl]; exact ⟨.inl rfl, .inr rfl⟩
 ·intro A; exact ⟨.inr rfl, .inl rfl⟩
end
end Go.Proofs.Ytclgijochagpdaa.Vg

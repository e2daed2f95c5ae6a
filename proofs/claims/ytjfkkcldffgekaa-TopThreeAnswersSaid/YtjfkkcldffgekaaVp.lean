import Derived.Test.YtjfkkcldffgekaaVv20
import Derived.Test.YtjfkkcldffgekaaWa
set_option linter.unusedVariables false
set_option linter.unusedSimpArgs false
namespace Go.Proofs.Ytjfkkcldffgekaa.Vg
open Go Go.Proofs.Ytjfkkcldffgekaa.Ev Go.Proofs.Ytjfkkcldffgekaa.Vv
open List (flatMap length_cons length_nil length_map length_append map_cons map_nil length_replicate)
def Qfn (i j : Int) : Nat -> List (Int × Int)
 | 0 => []
 | d + 1 => if i = j then Qfn i (j + 1) d else (i, j) :: Qfn i (j + 1) d
def Qhv (n : Nat) (i : Int) : Nat -> List (Int × Int)
 | 0 => []
 | d + 1 => Qfn i 0 n ++ Qhv n (i + 1) d
theorem Qj9 (i j : Int) (d : Nat) : Qfn i j (d + 1) = if i = j then Qfn i (j + 1) d else (i, j) :: Qfn i (j + 1) d := rfl
theorem Qn7 (n : Nat) (i : Int) (d : Nat) : Qhv n i (d + 1) = Qfn i 0 n ++ Qhv n (i + 1) d := rfl
def Qf5 (n : Int) : List (Int × Int) := Qhv n.toNat 0 n.toNat
def encP (p : Int × Int) : List Value := [.int .i64 p.1, .int .i64 p.2]
theorem Qov {n : Int} (h1 : -9223372036854775808 <= n) (h2 : n <= 9223372036854775807) : w64 n = n := by
 unfold w64 IntKind.wrap
 simp [IntKind.signed, IntKind.bits]
 omega
theorem Qvj {α : Type} {xs : List α} {p : Nat} {x : α} {r : List α} (h : xs.drop p = x :: r) : xs[p]? = some x /\ xs.drop (p + 1) = r := by
 have hlt : p < xs.length := by
  rcases Nat.lt_or_ge p xs.length with h' | h'
  ·exact h'
  ·rw [List.drop_eq_nil_of_le h'] at h; cases h
 rw [List.drop_eq_getElem_cons hlt] at h
 injection h with h1 h2
 exact ⟨by rw [List.getElem?_eq_getElem hlt, h1], h2⟩
theorem Qvk {α : Type} {xs : List α} {p : Nat} (h : xs.drop p = []) (hp : p <= xs.length) : p = xs.length := by
 have : xs.length <= p := List.drop_eq_nil_iff.1 h
 omega
set_option maxRecDepth 100000
set_option maxHeartbeats 4000000
section
variable {E : Env} {n : Int}
theorem Qqd (hE : E.OK) (hP : E.P = Try.prog) (hsz : E.sz = 25) (hcaps : E.caps = [.tp [vi n] 0]) (hlen : E.caps'.length = 1) (hn : n <= 1000000000) (i : Int) (rest : List (List Value)) (Post : Exit -> SP)
 (hend : ∀ A p, p <= E.xs.length -> E.xs.drop p = rest -> ev A (.tmp 0) = VV.c (yv E.l) -> ev A (.tmp 1) = VV.tp [vi n] 0 -> ev A (.tmp 5) = vi n -> ev A (.tmp 6) = vi i -> Post (.exit 2) A (some p)) (hret : ∀ A, Post .ret A none) :
 ∀ (d : Nat) (j : Int) (p : Nat), 0 <= j -> j + d = max n 0 -> p <= E.xs.length -> E.xs.drop p = (Qfn i j d).map encP ++ rest ->
   Qfw E (Jh Try.f54 1) (mkA [(0, VV.c (yv E.l)), (1, VV.tp [vi n] 0), (3, vi i), (5, vi n), (6, vi i), (9, vi n), (10, vi j)]) (some p) Post := by
 obtain ⟨P, sz, l, caps, caps', xs, J, R⟩ := E
 dsimp only at hP hsz hcaps hlen
 subst hP; subst hsz; subst hcaps
 dsimp only at hend ⊢
 intro d
 induction d with
 | zero =>
   intro j p hj hd hp hx
   have hlt : decide (j < n) = false := by simp; omega
   refine Qfw.step ?_
   refine Xq.seq ?_
   refine Xq.region (by kernel_rfl) ?_
   refine POps.op (an := .n) (v := vb (decide (j < n))) (q := True) hE pn (by kernel_rfl) (Array.mem_of_getElem? (i := 0) rfl) (by show Qag _ caps'.length = true; rw [hlen]; kernel_rfl) (by kernel_rfl) trivial ?_
   refine POps.nil ?_
   refine Xq.seq (Xq.cond (b := false) (by show VV.c (.bool (decide (j < n))) = _; rw [hlt]) (Xq.exit ?_))
   exact hend _ p hp (by simpa [Qfn] using hx) (by kernel_rfl) (by kernel_rfl) (by kernel_rfl) (by kernel_rfl)
 | succ d ih =>
   intro j p hj hd hp hx
   have hlt : decide (j < n) = true := by simp; omega
   have hw : w64 (j + 1) = j + 1 := Qov (by omega) (by omega)
   refine Qfw.step ?_
   refine Xq.seq ?_
   refine Xq.region (by kernel_rfl) ?_
   refine POps.op (an := .n) (v := vb (decide (j < n))) (q := True) hE pn (by kernel_rfl) (Array.mem_of_getElem? (i := 0) rfl) (by show Qag _ caps'.length = true; rw [hlen]; kernel_rfl) (by kernel_rfl) trivial ?_
   refine POps.nil ?_
   refine Xq.seq (Xq.cond (b := true) (by show VV.c (.bool (decide (j < n))) = _; rw [hlt]) (Xq.skip ?_))
   refine Xq.seq (Xq.block (Xq.seq ?_))
   refine Xq.region (by kernel_rfl) ?_
   refine POps.op (an := .n) (v := vi j) (q := True) hE pn (by kernel_rfl) (Array.mem_of_getElem? (i := 0) rfl) (by show Qag _ caps'.length = true; rw [hlen]; kernel_rfl) (by kernel_rfl) trivial ?_
   refine POps.op (an := .n) (v := vi j) (q := True) hE pn (by kernel_rfl) (Array.mem_of_getElem? (i := 1) rfl) (by show Qag _ caps'.length = true; rw [hlen]; kernel_rfl) (by kernel_rfl) trivial ?_
   refine POps.nil ?_
   refine Xq.seq ?_
   by_cases hij : i = j
   ·have hne : (!decide (i = j)) = false := by simp [hij]
    refine Xq.region (by kernel_rfl) ?_
    refine POps.op (an := .n) (v := vi i) (q := True) hE pn (by kernel_rfl) (Array.mem_of_getElem? (i := 0) rfl) (by show Qag _ caps'.length = true; rw [hlen]; kernel_rfl) (by kernel_rfl) trivial ?_
    refine POps.op (an := .n) (v := vi j) (q := True) hE pn (by kernel_rfl) (Array.mem_of_getElem? (i := 1) rfl) (by show Qag _ caps'.length = true; rw [hlen]; kernel_rfl) (by kernel_rfl) trivial ?_
    refine POps.op (an := .n) (v := vb (!decide (i = j))) (q := True) hE pn (by kernel_rfl) (Array.mem_of_getElem? (i := 2) rfl) (by show Qag _ caps'.length = true; rw [hlen]; kernel_rfl) (by kernel_rfl) trivial ?_
    refine POps.op (an := .n) (v := vb (!decide (i = j))) (q := True) hE pn (by kernel_rfl) (Array.mem_of_getElem? (i := 3) rfl) (by show Qag _ caps'.length = true; rw [hlen]; kernel_rfl) (by kernel_rfl) trivial ?_
    refine POps.op (an := .skip) (v := .tu []) (q := (!decide (i = j)) = !true) hE pn (by kernel_rfl) (Array.mem_of_getElem? (i := 4) rfl) (by show Qag _ caps'.length = true; rw [hlen]; kernel_rfl) (by kernel_rfl) hne ?_
    refine POps.op (an := .skip) (v := .tu []) (q := (!decide (i = j)) = !true) hE pn (by kernel_rfl) (Array.mem_of_getElem? (i := 5) rfl) (by show Qag _ caps'.length = true; rw [hlen]; kernel_rfl) (by kernel_rfl) hne ?_
    refine POps.op (an := .skip) (v := .tu []) (q := (!decide (i = j)) = !true) hE pn (by kernel_rfl) (Array.mem_of_getElem? (i := 6) rfl) (by show Qag _ caps'.length = true; rw [hlen]; kernel_rfl) (by kernel_rfl) hne ?_
    refine POps.op (an := .skip) (v := .tu []) (q := (!decide (i = j)) = !true) hE pn (by kernel_rfl) (Array.mem_of_getElem? (i := 7) rfl) (by show Qag _ caps'.length = true; rw [hlen]; kernel_rfl) (by kernel_rfl) hne ?_
    refine POps.op (an := .skip) (v := .tu []) (q := (!decide (i = j)) = !true) hE pn (by kernel_rfl) (Array.mem_of_getElem? (i := 8) rfl) (by show Qag _ caps'.length = true; rw [hlen]; kernel_rfl) (by kernel_rfl) hne ?_
    refine POps.op (an := .b false) (v := vb false) (q := (!decide (i = j)) = false) hE pn (by kernel_rfl) (Array.mem_of_getElem? (i := 9) rfl) (by show Qag _ caps'.length = true; rw [hlen]; kernel_rfl) (by kernel_rfl) hne ?_
    refine POps.nil ?_
    refine Xq.cond (b := false) (by kernel_rfl) (Xq.skip ?_)
    refine Xq.region (by kernel_rfl) ?_
    refine POps.op (an := .n) (v := vi (w64 (j + 1))) (q := True) hE pn (by kernel_rfl) (Array.mem_of_getElem? (i := 0) rfl) (by show Qag _ caps'.length = true; rw [hlen]; kernel_rfl) (by kernel_rfl) trivial ?_
    refine POps.op (an := .n) (v := vi (w64 (j + 1))) (q := True) hE pn (by kernel_rfl) (Array.mem_of_getElem? (i := 1) rfl) (by show Qag _ caps'.length = true; rw [hlen]; kernel_rfl) (by kernel_rfl) trivial ?_
    refine POps.nil ?_
    refine Qfw.cut (ks := [(0, VV.c (yv l)), (1, VV.tp [vi n] 0), (3, vi i), (5, vi n), (6, vi i), (9, vi n), (10, vi (w64 (j + 1)))]) (by kernel_rfl) (by simp only [List.forall_mem_cons]; exact ⟨by kernel_rfl, by kernel_rfl, by kernel_rfl, by kernel_rfl, by kernel_rfl, by kernel_rfl, by kernel_rfl, fun _ h => by cases h⟩) ?_
    rw [hw]
    refine ih (j + 1) p (by omega) (by omega) hp ?_
    rw [hx, Qj9, if_pos hij]
   ·have hne : (!decide (i = j)) = true := by simp [hij]
    have hx2 : xs.drop p = encP (i, j) :: ((Qfn i (j + 1) d).map encP ++ rest) := by rw [hx, Qj9, if_neg hij]; rfl
    obtain ⟨hx3, hx4⟩ := Qvj hx2
    have hp2 : p + 1 <= xs.length := by have := (List.getElem?_eq_some_iff.1 hx3).1; omega
    refine Xq.region (by kernel_rfl) ?_
    refine POps.op (an := .n) (v := vi i) (q := True) hE pn (by kernel_rfl) (Array.mem_of_getElem? (i := 0) rfl) (by show Qag _ caps'.length = true; rw [hlen]; kernel_rfl) (by kernel_rfl) trivial ?_
    refine POps.op (an := .n) (v := vi j) (q := True) hE pn (by kernel_rfl) (Array.mem_of_getElem? (i := 1) rfl) (by show Qag _ caps'.length = true; rw [hlen]; kernel_rfl) (by kernel_rfl) trivial ?_
    refine POps.op (an := .n) (v := vb (!decide (i = j))) (q := True) hE pn (by kernel_rfl) (Array.mem_of_getElem? (i := 2) rfl) (by show Qag _ caps'.length = true; rw [hlen]; kernel_rfl) (by kernel_rfl) trivial ?_
    refine POps.op (an := .n) (v := vb (!decide (i = j))) (q := True) hE pn (by kernel_rfl) (Array.mem_of_getElem? (i := 3) rfl) (by show Qag _ caps'.length = true; rw [hlen]; kernel_rfl) (by kernel_rfl) trivial ?_
    refine POps.op (an := .n) (v := VV.c (yv l)) (q := (!decide (i = j)) = true /\ True) hE pn (by kernel_rfl) (Array.mem_of_getElem? (i := 4) rfl) (by show Qag _ caps'.length = true; rw [hlen]; kernel_rfl) (by kernel_rfl) ⟨hne, trivial⟩ ?_
    refine POps.op (an := .n) (v := vi i) (q := (!decide (i = j)) = true /\ True) hE pn (by kernel_rfl) (Array.mem_of_getElem? (i := 5) rfl) (by show Qag _ caps'.length = true; rw [hlen]; kernel_rfl) (by kernel_rfl) ⟨hne, trivial⟩ ?_
    refine POps.op (an := .n) (v := vi j) (q := (!decide (i = j)) = true /\ True) hE pn (by kernel_rfl) (Array.mem_of_getElem? (i := 6) rfl) (by show Qag _ caps'.length = true; rw [hlen]; kernel_rfl) (by kernel_rfl) ⟨hne, trivial⟩ ?_
    refine POps.yield (x := encP (i, j)) hE (by kernel_rfl) (Array.mem_of_getElem? (i := 7) rfl) (by show Qag _ caps'.length = true; rw [hlen]; kernel_rfl) (by show caps'.length < 1000000; omega) rfl (by kernel_rfl) (by kernel_rfl) hx3 (by show ((!decide (i = j)) == true) = true; rw [hne]; rfl) ?_ ?_
    ·
     refine POps.op (an := .n) (v := vb (!true)) (q := (!decide (i = j)) = true /\ True) hE pn (by kernel_rfl) (Array.mem_of_getElem? (i := 8) rfl) (by show Qag _ caps'.length = true; rw [hlen]; kernel_rfl) (by kernel_rfl) ⟨hne, trivial⟩ ?_
     refine POps.op (an := .b true) (v := vb (!true)) (q := (!decide (i = j)) = true) hE pn (by kernel_rfl) (Array.mem_of_getElem? (i := 9) rfl) (by show Qag _ caps'.length = true; rw [hlen]; kernel_rfl) (by kernel_rfl) hne ?_
     refine POps.nil ?_
     refine Xq.cond (b := false) (by kernel_rfl) (Xq.skip ?_)
     refine Xq.region (by kernel_rfl) ?_
     refine POps.op (an := .n) (v := vi (w64 (j + 1))) (q := True) hE pn (by kernel_rfl) (Array.mem_of_getElem? (i := 0) rfl) (by show Qag _ caps'.length = true; rw [hlen]; kernel_rfl) (by kernel_rfl) trivial ?_
     refine POps.op (an := .n) (v := vi (w64 (j + 1))) (q := True) hE pn (by kernel_rfl) (Array.mem_of_getElem? (i := 1) rfl) (by show Qag _ caps'.length = true; rw [hlen]; kernel_rfl) (by kernel_rfl) trivial ?_
     refine POps.nil ?_
     refine Qfw.cut (ks := [(0, VV.c (yv l)), (1, VV.tp [vi n] 0), (3, vi i), (5, vi n), (6, vi i), (9, vi n), (10, vi (w64 (j + 1)))]) (by kernel_rfl) (by simp only [List.forall_mem_cons]; exact ⟨by kernel_rfl, by kernel_rfl, by kernel_rfl, by kernel_rfl, by kernel_rfl, by kernel_rfl, by kernel_rfl, fun _ h => by cases h⟩) ?_
     rw [hw]
     exact ih (j + 1) (p + 1) (by omega) (by omega) hp2 hx4
    ·
     refine POps.op (an := .n) (v := vb (!false)) (q := (!decide (i = j)) = true /\ True) hE pn (by kernel_rfl) (Array.mem_of_getElem? (i := 8) rfl) (by show Qag _ caps'.length = true; rw [hlen]; kernel_rfl) (by kernel_rfl) ⟨hne, trivial⟩ ?_
     refine POps.op (an := .b true) (v := vb (!false)) (q := (!decide (i = j)) = true) hE pn (by kernel_rfl) (Array.mem_of_getElem? (i := 9) rfl) (by show Qag _ caps'.length = true; rw [hlen]; kernel_rfl) (by kernel_rfl) hne ?_
     refine POps.nil ?_
     exact Xq.cond (b := true) (by kernel_rfl) (Xq.ret (hret _))
theorem Qqe (hE : E.OK) (hP : E.P = Try.prog) (hsz : E.sz = 25) (hcaps : E.caps = [.tp [vi n] 0]) (hlen : E.caps'.length = 1) (hn : n <= 1000000000) (Post : Exit -> SP)
 (hend : ∀ A, Post (.exit 0) A (some E.xs.length)) (hret : ∀ A, Post .ret A none) :
 ∀ (d : Nat) (i : Int) (p : Nat), 0 <= i -> i + d = max n 0 -> p <= E.xs.length -> E.xs.drop p = (Qhv n.toNat i d).map encP ->
   Qfw E (Jh Try.f54 0) (mkA [(0, VV.c (yv E.l)), (1, VV.tp [vi n] 0), (5, vi n), (6, vi i)]) (some p) Post := by
 have inner := @Qqd E n hE hP hsz hcaps hlen hn
 obtain ⟨P, sz, l, caps, caps', xs, J, R⟩ := E
 dsimp only at hP hsz hcaps hlen
 subst hP; subst hsz; subst hcaps
 dsimp only at hend inner ⊢
 intro d
 induction d with
 | zero =>
   intro i p hj hd hp hx
   have hlt : decide (i < n) = false := by simp; omega
   refine Qfw.step ?_
   refine Xq.seq ?_
   refine Xq.region (by kernel_rfl) ?_
   refine POps.op (an := .n) (v := vb (decide (i < n))) (q := True) hE pn (by kernel_rfl) (Array.mem_of_getElem? (i := 0) rfl) (by show Qag _ caps'.length = true; rw [hlen]; kernel_rfl) (by kernel_rfl) trivial ?_
   refine POps.nil ?_
   refine Xq.seq (Xq.cond (b := false) (by show VV.c (.bool (decide (i < n))) = _; rw [hlt]) (Xq.exit ?_))
   have hpe : p = xs.length := Qvk (by simpa [Qhv] using hx) hp
   rw [hpe]
   exact hend _
 | succ d ih =>
   intro i p hj hd hp hx
   have hlt : decide (i < n) = true := by simp; omega
   have hw : w64 (i + 1) = i + 1 := Qov (by omega) (by omega)
   refine Qfw.step ?_
   refine Xq.seq ?_
   refine Xq.region (by kernel_rfl) ?_
   refine POps.op (an := .n) (v := vb (decide (i < n))) (q := True) hE pn (by kernel_rfl) (Array.mem_of_getElem? (i := 0) rfl) (by show Qag _ caps'.length = true; rw [hlen]; kernel_rfl) (by kernel_rfl) trivial ?_
   refine POps.nil ?_
   refine Xq.seq (Xq.cond (b := true) (by show VV.c (.bool (decide (i < n))) = _; rw [hlt]) (Xq.skip ?_))
   refine Xq.seq (Xq.block (Xq.seq ?_))
   refine Xq.region (by kernel_rfl) ?_
   refine POps.op (an := .n) (v := vi i) (q := True) hE pn (by kernel_rfl) (Array.mem_of_getElem? (i := 0) rfl) (by show Qag _ caps'.length = true; rw [hlen]; kernel_rfl) (by kernel_rfl) trivial ?_
   refine POps.op (an := .n) (v := vi i) (q := True) hE pn (by kernel_rfl) (Array.mem_of_getElem? (i := 1) rfl) (by show Qag _ caps'.length = true; rw [hlen]; kernel_rfl) (by kernel_rfl) trivial ?_
   refine POps.nil ?_
   refine Xq.seq ?_
   refine Xq.region (by kernel_rfl) ?_
   refine POps.op (an := .v (vi n)) (v := vi n) (q := Xx Try.prog 3 0 [vi n] = some (vi n)) hE pn (by kernel_rfl) (Array.mem_of_getElem? (i := 0) rfl) (by show Qag _ caps'.length = true; rw [hlen]; kernel_rfl) (by kernel_rfl) (by kernel_rfl) ?_
   refine POps.op (an := .n) (v := vi 0) (q := True) hE pn (by kernel_rfl) (Array.mem_of_getElem? (i := 1) rfl) (by show Qag _ caps'.length = true; rw [hlen]; kernel_rfl) (by kernel_rfl) trivial ?_
   refine POps.nil ?_
   refine Xq.block (Xq.loop ?_)
   refine Qfw.cut (ks := [(0, VV.c (yv l)), (1, VV.tp [vi n] 0), (3, vi i), (5, vi n), (6, vi i), (9, vi n), (10, vi 0)]) (by kernel_rfl) (by simp only [List.forall_mem_cons]; exact ⟨by kernel_rfl, by kernel_rfl, by kernel_rfl, by kernel_rfl, by kernel_rfl, by kernel_rfl, by kernel_rfl, fun _ h => by cases h⟩) ?_
   refine inner i ((Qhv n.toNat (i + 1) d).map encP) _ ?_ ?_ n.toNat 0 p (by omega) (by omega) hp ?_
   ·intro A p1 hp1 hx1 e0 e1 e5 e6
    dsimp only
    rw [if_pos rfl]
    refine Xq.cut (ks := [(0, VV.c (yv l)), (1, VV.tp [vi n] 0), (5, vi n), (6, vi i)]) (by kernel_rfl) (by simp only [List.forall_mem_cons]; exact ⟨e0, e1, e5, e6, fun _ h => by cases h⟩) ?_
    refine Xq.region (by kernel_rfl) ?_
    refine POps.op (an := .n) (v := vi (w64 (i + 1))) (q := True) hE pn (by kernel_rfl) (Array.mem_of_getElem? (i := 0) rfl) (by show Qag _ caps'.length = true; rw [hlen]; kernel_rfl) (by kernel_rfl) trivial ?_
    refine POps.op (an := .n) (v := vi (w64 (i + 1))) (q := True) hE pn (by kernel_rfl) (Array.mem_of_getElem? (i := 1) rfl) (by show Qag _ caps'.length = true; rw [hlen]; kernel_rfl) (by kernel_rfl) trivial ?_
    refine POps.nil ?_
    refine Qfw.cut (ks := [(0, VV.c (yv l)), (1, VV.tp [vi n] 0), (5, vi n), (6, vi (w64 (i + 1)))]) (by kernel_rfl) (by simp only [List.forall_mem_cons]; exact ⟨by kernel_rfl, by kernel_rfl, by kernel_rfl, by kernel_rfl, fun _ h => by cases h⟩) ?_
    rw [hw]
    exact ih (i + 1) p1 (by omega) (by omega) hp1 hx1
   ·intro A; exact hret A
   ·rw [hx, Qn7, List.map_append]
theorem Qjt (hn : n <= 1000000000) : ItOK Try.prog 54 [.tp [vi n] 0] ((Qf5 n).map encP) := by
 refine ItOK.intro (fn := Try.f54) Try.func54 rfl rfl (of_decide_eq_true (by kernel_rfl)) (fun E hP hsz hcaps hlen hxs hE => ?_)
 have outer := @Qqe E n hE hP hsz hcaps hlen hn
 obtain ⟨P, sz, l, caps, caps', xs, J, R⟩ := E
 dsimp only at hP hsz hcaps hlen hxs
 subst hP; subst hsz; subst hcaps
 subst hxs
 dsimp only at outer ⊢
 refine Xq.seq ?_
 refine Xq.region (by kernel_rfl) ?_
 refine POps.op (an := .v (vi n)) (v := vi n) (q := Xx Try.prog 3 0 [vi n] = some (vi n)) hE pn (by kernel_rfl) (Array.mem_of_getElem? (i := 0) rfl) (by show Qag _ caps'.length = true; rw [hlen]; kernel_rfl) (by kernel_rfl) (by kernel_rfl) ?_
 refine POps.op (an := .n) (v := vi 0) (q := True) hE pn (by kernel_rfl) (Array.mem_of_getElem? (i := 1) rfl) (by show Qag _ caps'.length = true; rw [hlen]; kernel_rfl) (by kernel_rfl) trivial ?_
 refine POps.nil ?_
 refine Xq.block (Xq.loop ?_)
 refine Qfw.cut (ks := [(0, VV.c (yv l)), (1, VV.tp [vi n] 0), (5, vi n), (6, vi 0)]) (by kernel_rfl) (by simp only [List.forall_mem_cons]; exact ⟨by kernel_rfl, by kernel_rfl, by kernel_rfl, by kernel_rfl, fun _ h => by cases h⟩) ?_
 refine outer _ ?_ ?_ n.toNat 0 0 (by omega) (by omega) (Nat.zero_le _) rfl
 ·intro A; dsimp only; rw [if_pos rfl]; exact ⟨.inl rfl, .inr rfl⟩
 ·intro A; exact ⟨.inr rfl, .inl rfl⟩
end
end Go.Proofs.Ytjfkkcldffgekaa.Vg

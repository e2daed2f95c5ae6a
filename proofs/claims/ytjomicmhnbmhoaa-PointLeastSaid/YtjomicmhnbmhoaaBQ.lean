import Derived.Test.YtjomicmhnbmhoaaVv20
import Derived.Test.YtjomicmhnbmhoaaB8
set_option linter.unusedVariables false
set_option linter.unusedSimpArgs false
namespace Go.Proofs.Ytjomicmhnbmhoaa.Vg
open Go Go.Proofs.Ytjomicmhnbmhoaa.Ev Go.Proofs.Ytjomicmhnbmhoaa.Vv
open List (flatMap length_cons length_nil length_map length_append map_cons map_nil length_replicate)
def Qra (l : List Jj) : Nat -> List (Int × Jj)
 | 0 => []
 | d + 1 => ((d : Int), l.getD ((d : Int).toNat) default) :: Qra l d
def Q52 (l : List Jj) : List (Int × Jj) := Qra l l.length
def encB (x : Int × Jj) : List VV := [vi x.1, .ag (Zi x.2)]
theorem Qsj {n : Int} (h1 : -9223372036854775808 <= n) (h2 : n <= 9223372036854775807) : w64 n = n := by
 unfold w64 IntKind.wrap
 simp [IntKind.signed, IntKind.bits]
 omega
theorem Qyk {α : Type} {xs : List α} {p : Nat} {x : α} {r : List α} (h : xs.drop p = x :: r) : xs[p]? = some x /\ xs.drop (p + 1) = r := by
 have hlt : p < xs.length := by
  rcases Nat.lt_or_ge p xs.length with h' | h'
  ·exact h'
  ·rw [List.drop_eq_nil_of_le h'] at h; cases h
 rw [List.drop_eq_getElem_cons hlt] at h
 injection h with h1 h2
 exact ⟨by rw [List.getElem?_eq_getElem hlt, h1], h2⟩
theorem Qyl {α : Type} {xs : List α} {p : Nat} (h : xs.drop p = []) (hp : p <= xs.length) : p = xs.length := by
 have : xs.length <= p := List.drop_eq_nil_iff.1 h
 omega
set_option maxRecDepth 100000
set_option maxHeartbeats 4000000
section
variable {E : Env} {L : List Jj}
theorem Qw6 (hE : E.OK) (hP : E.P = Try.prog) (hsz : E.sz = 19) (hcaps : E.caps = [.tp [(VV.tr (L.flatMap Zi) L.length)] 0]) (hlen : E.caps'.length = 1) (hl : L.length <= 1000000000) (Post : Exit -> SP)
 (hend : ∀ A, Post (.exit 0) A (some E.xs.length)) (hret : ∀ A, Post .ret A none) :
 ∀ (d n : Nat), d <= L.length -> n <= E.xs.length -> E.xs.drop n = (Qra L d).map encB ->
   Qn6 E (Zy Try.f79 0) (mkA [(0, VV.c (yv E.l)), (1, VV.tp [(VV.tr (L.flatMap Zi) L.length)] 0), (3, vi ((d : Int) - 1))]) (some n) Post := by
 obtain ⟨P, sz, l, caps, caps', xs, M, J, R⟩ := E
 dsimp only at hP hsz hcaps hlen
 subst hP; subst hsz; subst hcaps
 dsimp only at hend ⊢
 intro d
 induction d with
 | zero =>
   intro n hd hn hx
   have hlt : decide ((0 : Int) <= ((0 : Nat) : Int) - 1) = false := by decide
   refine Qn6.step ?_
   refine Qde.seq ?_
   refine Qde.seq ?_
   refine Qde.region (by kernel_rfl) ?_
   refine POps.op (an := .n) (v := vi (((0 : Nat) : Int) - 1)) (q := True) hE pn (by kernel_rfl) (Array.mem_of_getElem? (i := 0) rfl) (by show Qhu _ caps'.length = true; rw [hlen]; kernel_rfl) (by kernel_rfl) trivial ?_
   refine POps.op (an := .n) (v := vb (decide ((0 : Int) <= ((0 : Nat) : Int) - 1))) (q := True) hE pn (by kernel_rfl) (Array.mem_of_getElem? (i := 1) rfl) (by show Qhu _ caps'.length = true; rw [hlen]; kernel_rfl) (by kernel_rfl) trivial ?_
   refine POps.nil ?_
   refine Qde.cond (b := false) (by show VV.c (.bool (decide ((0 : Int) <= ((0 : Nat) : Int) - 1))) = _; rw [hlt]) (Qde.exit ?_)
   have hpe : n = xs.length := Qyl (by simpa [Qra] using hx) hn
   rw [hpe]
   exact hend _
 | succ d ih =>
   intro n hd hn hx
   have hi : ((d + 1 : Nat) : Int) - 1 = (d : Int) := by omega
   rw [hi]
   have hlt : decide ((0 : Int) <= (d : Int)) = true := by simp
   have hb : (0 : Int) <= (d : Int) /\ (d : Int) < (L.length : Int) := by omega
   have hx1 : xs.drop n = encB ((d : Int), L.getD ((d : Int).toNat) default) :: (Qra L d).map encB := by rw [hx]; rfl
   obtain ⟨hx2, hx3⟩ := Qyk hx1
   have hn2 : n + 1 <= xs.length := by have := (List.getElem?_eq_some_iff.1 hx2).1; omega
   refine Qn6.step ?_
   refine Qde.seq ?_
   refine Qde.seq ?_
   refine Qde.region (by kernel_rfl) ?_
   refine POps.op (an := .n) (v := vi (d : Int)) (q := True) hE pn (by kernel_rfl) (Array.mem_of_getElem? (i := 0) rfl) (by show Qhu _ caps'.length = true; rw [hlen]; kernel_rfl) (by kernel_rfl) trivial ?_
   refine POps.op (an := .n) (v := vb (decide ((0 : Int) <= (d : Int)))) (q := True) hE pn (by kernel_rfl) (Array.mem_of_getElem? (i := 1) rfl) (by show Qhu _ caps'.length = true; rw [hlen]; kernel_rfl) (by kernel_rfl) trivial ?_
   refine POps.nil ?_
   refine Qde.cond (b := true) (by show VV.c (.bool (decide ((0 : Int) <= (d : Int)))) = _; rw [hlt]) (Qde.skip ?_)
   refine Qde.seq (Qde.block (Qde.seq ?_))
   refine Qde.region (by kernel_rfl) ?_
   refine POps.op (an := .n) (v := VV.c (yv l)) (q := True) hE pn (by kernel_rfl) (Array.mem_of_getElem? (i := 0) rfl) (by show Qhu _ caps'.length = true; rw [hlen]; kernel_rfl) (by kernel_rfl) trivial ?_
   refine POps.op (an := .n) (v := vi (d : Int)) (q := True) hE pn (by kernel_rfl) (Array.mem_of_getElem? (i := 1) rfl) (by show Qhu _ caps'.length = true; rw [hlen]; kernel_rfl) (by kernel_rfl) trivial ?_
   refine POps.op (an := .v (VV.tr (L.flatMap Zi) L.length)) (v := (VV.tr (L.flatMap Zi) L.length)) (q := Zg Try.prog 71 0 [(VV.tr (L.flatMap Zi) L.length)] = some (VV.tr (L.flatMap Zi) L.length)) hE pn (by kernel_rfl) (Array.mem_of_getElem? (i := 2) rfl) (by show Qhu _ caps'.length = true; rw [hlen]; kernel_rfl) (by kernel_rfl) (by kernel_rfl) ?_
   refine POps.op (an := .n) (v := vi (d : Int)) (q := True) hE pn (by kernel_rfl) (Array.mem_of_getElem? (i := 3) rfl) (by show Qhu _ caps'.length = true; rw [hlen]; kernel_rfl) (by kernel_rfl) trivial ?_
   refine POps.op (an := .n) (v := VV.tp (L.flatMap Zi) ((d : Int).toNat * 8)) (q := 0 <= (d : Int) /\ (d : Int) < (L.length : Int)) hE pn (by kernel_rfl) (Array.mem_of_getElem? (i := 4) rfl) (by show Qhu _ caps'.length = true; rw [hlen]; kernel_rfl) (by kernel_rfl) hb ?_
   refine POps.op (an := .v (VV.ag (Zi (L.getD ((d : Int).toNat) default)))) (v := VV.ag (Zi (L.getD ((d : Int).toNat) default))) (q := Zg Try.prog 114 ((d : Int).toNat * 8) (L.flatMap Zi) = some (VV.ag (Zi (L.getD ((d : Int).toNat) default)))) hE pn (by kernel_rfl) (Array.mem_of_getElem? (i := 5) rfl) (by show Qhu _ caps'.length = true; rw [hlen]; kernel_rfl) (by kernel_rfl) (Qbm (by kernel_rfl) Zi 8 (by kernel_rfl) Qep L default hb rfl) ?_
   refine POps.yield (x := encB ((d : Int), L.getD ((d : Int).toNat) default)) hE (by kernel_rfl) (Array.mem_of_getElem? (i := 6) rfl) (by show Qhu _ caps'.length = true; rw [hlen]; kernel_rfl) (by show caps'.length < 1000000; omega) rfl (by kernel_rfl) (by kernel_rfl) hx2 rfl ?_ ?_
   ·
    refine POps.op (an := .n) (v := vb (!true)) (q := True) hE pn (by kernel_rfl) (Array.mem_of_getElem? (i := 7) rfl) (by show Qhu _ caps'.length = true; rw [hlen]; kernel_rfl) (by kernel_rfl) trivial ?_
    refine POps.nil ?_
    refine Qde.cond (b := false) (by kernel_rfl) (Qde.skip ?_)
    refine Qde.region (by kernel_rfl) ?_
    refine POps.op (an := .n) (v := vi (d : Int)) (q := True) hE pn (by kernel_rfl) (Array.mem_of_getElem? (i := 0) rfl) (by show Qhu _ caps'.length = true; rw [hlen]; kernel_rfl) (by kernel_rfl) trivial ?_
    refine POps.op (an := .n) (v := vi (w64 ((d : Int) - 1))) (q := True) hE pn (by kernel_rfl) (Array.mem_of_getElem? (i := 1) rfl) (by show Qhu _ caps'.length = true; rw [hlen]; kernel_rfl) (by kernel_rfl) trivial ?_
    refine POps.op (an := .n) (v := vi (w64 ((d : Int) - 1))) (q := True) hE pn (by kernel_rfl) (Array.mem_of_getElem? (i := 2) rfl) (by show Qhu _ caps'.length = true; rw [hlen]; kernel_rfl) (by kernel_rfl) trivial ?_
    refine POps.nil ?_
    refine Qn6.cut (ks := [(0, VV.c (yv l)), (1, VV.tp [(VV.tr (L.flatMap Zi) L.length)] 0), (3, vi (w64 ((d : Int) - 1)))]) (by kernel_rfl) (by simp only [List.forall_mem_cons]; exact ⟨by kernel_rfl, by kernel_rfl, by kernel_rfl, fun _ h => by cases h⟩) ?_
    rw [Qsj (show -9223372036854775808 <= (d : Int) - 1 by omega) (by omega)]
    exact ih (n + 1) (by omega) hn2 hx3
   ·
    refine POps.op (an := .n) (v := vb (!false)) (q := True) hE pn (by kernel_rfl) (Array.mem_of_getElem? (i := 7) rfl) (by show Qhu _ caps'.length = true; rw [hlen]; kernel_rfl) (by kernel_rfl) trivial ?_
    refine POps.nil ?_
    exact Qde.cond (b := true) (by kernel_rfl) (Qde.ret (hret _))
theorem Q3v (L : List Jj) (hl : L.length <= 1000000000) : ItOK Try.prog 79 [.tp [(VV.tr (L.flatMap Zi) L.length)] 0] ((Q52 L).map encB) := by
 refine ItOK.intro (fn := Try.f79) Try.func79 rfl rfl (of_decide_eq_true (by kernel_rfl)) (fun E hP hsz hcaps hlen hxs hE => ?_)
 have outer := @Qw6 E L hE hP hsz hcaps hlen hl
 obtain ⟨P, sz, l, caps, caps', xs, M, J, R⟩ := E
 dsimp only at hP hsz hcaps hlen hxs
 subst hP; subst hsz; subst hcaps
 subst hxs
 dsimp only at outer ⊢
 refine Qde.seq ?_
 refine Qde.region (by kernel_rfl) ?_
 refine POps.op (an := .v (VV.tr (L.flatMap Zi) L.length)) (v := (VV.tr (L.flatMap Zi) L.length)) (q := Zg Try.prog 71 0 [(VV.tr (L.flatMap Zi) L.length)] = some (VV.tr (L.flatMap Zi) L.length)) hE pn (by kernel_rfl) (Array.mem_of_getElem? (i := 0) rfl) (by show Qhu _ caps'.length = true; rw [hlen]; kernel_rfl) (by kernel_rfl) (by kernel_rfl) ?_
 refine POps.op (an := .n) (v := vi (L.length : Int)) (q := True) hE pn (by kernel_rfl) (Array.mem_of_getElem? (i := 1) rfl) (by show Qhu _ caps'.length = true; rw [hlen]; kernel_rfl) (by kernel_rfl) trivial ?_
 refine POps.op (an := .n) (v := vi (w64 ((L.length : Int) - 1))) (q := True) hE pn (by kernel_rfl) (Array.mem_of_getElem? (i := 2) rfl) (by show Qhu _ caps'.length = true; rw [hlen]; kernel_rfl) (by kernel_rfl) trivial ?_
 refine POps.op (an := .n) (v := vi (w64 ((L.length : Int) - 1))) (q := True) hE pn (by kernel_rfl) (Array.mem_of_getElem? (i := 3) rfl) (by show Qhu _ caps'.length = true; rw [hlen]; kernel_rfl) (by kernel_rfl) trivial ?_
 refine POps.nil ?_
 refine Qde.block (Qde.loop ?_)
 refine Qn6.cut (ks := [(0, VV.c (yv l)), (1, VV.tp [(VV.tr (L.flatMap Zi) L.length)] 0), (3, vi (w64 ((L.length : Int) - 1)))]) (by kernel_rfl) (by simp only [List.forall_mem_cons]; exact ⟨by kernel_rfl, by kernel_rfl, by kernel_rfl, fun _ h => by cases h⟩) ?_
 rw [Qsj (show -9223372036854775808 <= (L.length : Int) - 1 by omega) (by omega)]
 refine outer _ ?_ ?_ L.length 0 (Nat.le_refl _) (Nat.zero_le _) rfl
 ·intro A; dsimp only; rw [if_pos rfl]; exact ⟨.inl rfl, .inr rfl⟩
 ·intro A; exact ⟨.inr rfl, .inl rfl⟩
end
end Go.Proofs.Ytjomicmhnbmhoaa.Vg

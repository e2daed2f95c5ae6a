import Derived.Test.YtenebnfhhhcfaaaVv23
import Derived.Test.YtenebnfhhhcfaaaWa
set_option linter.unusedVariables false
set_option linter.unusedSimpArgs false
namespace Go.Proofs.Ytenebnfhhhcfaaa.Vg
open Go Go.Proofs.Ytenebnfhhhcfaaa.Ev Go.Proofs.Ytenebnfhhhcfaaa.Vv
open List (flatMap length_cons length_nil length_map length_append map_cons map_nil length_replicate)
def Qg3 (L : List Int) (i : Nat) : Nat -> List (Int × Int)
 | 0 => []
 | d + 1 => ((L.getD (i : Int).toNat 0), (L.getD ((w64 ((i : Int) + 1)).tmod (L.length : Int)).toNat 0)) :: Qg3 L (i + 1) d
def Qk7 (L : List Int) : List (Int × Int) := Qg3 L 0 L.length
def encA (x : Int × Int) : List VV := [vi x.1, vi x.2]
theorem Qqn {n : Int} (h1 : -9223372036854775808 <= n) (h2 : n <= 9223372036854775807) : w64 n = n := by
 unfold w64 IntKind.wrap
 simp [IntKind.signed, IntKind.bits]
 omega
theorem Qqo {α : Type} {xs : List α} {p : Nat} {x : α} {r : List α} (h : xs.drop p = x :: r) : xs[p]? = some x /\ xs.drop (p + 1) = r := by
 have hlt : p < xs.length := by
  rcases Nat.lt_or_ge p xs.length with h' | h'
  ·exact h'
  ·rw [List.drop_eq_nil_of_le h'] at h; cases h
 rw [List.drop_eq_getElem_cons hlt] at h
 injection h with h1 h2
 exact ⟨by rw [List.getElem?_eq_getElem hlt, h1], h2⟩
theorem Qqp {α : Type} {xs : List α} {p : Nat} (h : xs.drop p = []) (hp : p <= xs.length) : p = xs.length := by
 have : xs.length <= p := List.drop_eq_nil_iff.1 h
 omega
set_option maxRecDepth 100000
set_option maxHeartbeats 4000000
section
variable {E : Env} {L : List Int}
theorem Qks (hE : E.OK) (hP : E.P = Try.prog) (hsz : E.sz = 25) (hcaps : E.caps = [.tp [(VV.tr (L.map vi) L.length)] 0]) (hlen : E.caps'.length = 1) (hl : L.length <= 1000000000) (Post : Exit -> SP)
 (hend : ∀ A, Post (.exit 0) A (some E.xs.length)) (hret : ∀ A, Post .ret A none) :
 ∀ (d i n : Nat), L.length = i + d -> n <= E.xs.length -> E.xs.drop n = (Qg3 L i d).map encA ->
   Qfg E (Yr Try.f61 0) (mkA [(0, VV.c (yv E.l)), (1, VV.tp [(VV.tr (L.map vi) L.length)] 0), (5, (VV.tr (L.map vi) L.length)), (6, vi (L.length : Int)), (7, vi (i : Int))]) (some n) Post := by
 obtain ⟨P, sz, l, caps, caps', xs, M, J, R⟩ := E
 dsimp only at hP hsz hcaps hlen
 subst hP; subst hsz; subst hcaps
 dsimp only at hend ⊢
 intro d
 induction d with
 | zero =>
   intro i n hd hn hx
   have hlt : decide ((i : Int) < (L.length : Int)) = false := by simp; omega
   refine Qfg.step ?_
   refine Xm.seq ?_
   refine Xm.region (by kernel_rfl) ?_
   refine POps.op (an := .n) (v := vb (decide ((i : Int) < (L.length : Int)))) (q := True) hE pn (by kernel_rfl) (Array.mem_of_getElem? (i := 0) rfl) (by show Yc _ caps'.length = true; rw [hlen]; kernel_rfl) (by kernel_rfl) trivial ?_
   refine POps.nil ?_
   refine Xm.seq (Xm.cond (b := false) (by show VV.c (.bool (decide ((i : Int) < (L.length : Int)))) = _; rw [hlt]) (Xm.exit ?_))
   have hpe : n = xs.length := Qqp (by simpa [Qg3] using hx) hn
   rw [hpe]
   exact hend _
 | succ d ih =>
   intro i n hd hn hx
   have hlt : decide ((i : Int) < (L.length : Int)) = true := by simp; omega
   have hb : (0 : Int) <= (i : Int) /\ (i : Int) < (L.length : Int) := by omega
   have hw : w64 ((i : Int) + 1) = ((i + 1 : Nat) : Int) := by rw [Qqn (by omega) (by omega)]; omega
   have hj : (0 : Int) <= ((w64 ((i : Int) + 1)).tmod (L.length : Int)) /\ ((w64 ((i : Int) + 1)).tmod (L.length : Int)) < (L.length : Int) := by rw [hw]; exact ⟨Int.tmod_nonneg _ (by omega), Int.tmod_lt_of_pos _ (by omega)⟩
   have h0 : (L.length : Int) ≠ 0 := by omega
   have hx1 : xs.drop n = encA ((L.getD (i : Int).toNat 0), (L.getD ((w64 ((i : Int) + 1)).tmod (L.length : Int)).toNat 0)) :: (Qg3 L (i + 1) d).map encA := by rw [hx]; rfl
   obtain ⟨hx2, hx3⟩ := Qqo hx1
   have hn2 : n + 1 <= xs.length := by have := (List.getElem?_eq_some_iff.1 hx2).1; omega
   refine Qfg.step ?_
   refine Xm.seq ?_
   refine Xm.region (by kernel_rfl) ?_
   refine POps.op (an := .n) (v := vb (decide ((i : Int) < (L.length : Int)))) (q := True) hE pn (by kernel_rfl) (Array.mem_of_getElem? (i := 0) rfl) (by show Yc _ caps'.length = true; rw [hlen]; kernel_rfl) (by kernel_rfl) trivial ?_
   refine POps.nil ?_
   refine Xm.seq (Xm.cond (b := true) (by show VV.c (.bool (decide ((i : Int) < (L.length : Int)))) = _; rw [hlt]) (Xm.skip ?_))
   refine Xm.seq (Xm.block (Xm.seq ?_))
   refine Xm.region (by kernel_rfl) ?_
   refine POps.op (an := .n) (v := vi (i : Int)) (q := True) hE pn (by kernel_rfl) (Array.mem_of_getElem? (i := 0) rfl) (by show Yc _ caps'.length = true; rw [hlen]; kernel_rfl) (by kernel_rfl) trivial ?_
   refine POps.op (an := .n) (v := VV.tp (L.map vi) ((i : Int).toNat * 1)) (q := 0 <= (i : Int) /\ (i : Int) < (L.length : Int)) hE pn (by kernel_rfl) (Array.mem_of_getElem? (i := 1) rfl) (by show Yc _ caps'.length = true; rw [hlen]; kernel_rfl) (by kernel_rfl) hb ?_
   refine POps.op (an := .v (vi (L.getD (i : Int).toNat 0))) (v := vi (L.getD (i : Int).toNat 0)) (q := Jz Try.prog 3 ((i : Int).toNat * 1) (L.map vi) = some (vi (L.getD (i : Int).toNat 0))) hE pn (by kernel_rfl) (Array.mem_of_getElem? (i := 2) rfl) (by show Yc _ caps'.length = true; rw [hlen]; kernel_rfl) (by kernel_rfl) (Qa3 (by kernel_rfl) vi L 0 hb rfl) ?_
   refine POps.op (an := .n) (v := vi (i : Int)) (q := True) hE pn (by kernel_rfl) (Array.mem_of_getElem? (i := 3) rfl) (by show Yc _ caps'.length = true; rw [hlen]; kernel_rfl) (by kernel_rfl) trivial ?_
   refine POps.op (an := .n) (v := vi (L.getD (i : Int).toNat 0)) (q := True) hE pn (by kernel_rfl) (Array.mem_of_getElem? (i := 4) rfl) (by show Yc _ caps'.length = true; rw [hlen]; kernel_rfl) (by kernel_rfl) trivial ?_
   refine POps.nil ?_
   refine Xm.seq ?_
   refine Xm.Qt7 (m := 10) pm pn hE (by kernel_rfl) (by kernel_rfl) (.cons (an := .n) (v := VV.c (yv l)) (q := True) (by kernel_rfl) trivial (by kernel_rfl) (by show Yc _ caps'.length = true; rw [hlen]; kernel_rfl) (.cons (an := .n) (v := vi (L.getD (i : Int).toNat 0)) (q := True) (by kernel_rfl) trivial (by kernel_rfl) (by show Yc _ caps'.length = true; rw [hlen]; kernel_rfl) (.cons (an := .v (VV.tr (L.map vi) L.length)) (v := (VV.tr (L.map vi) L.length)) (q := Jz Try.prog 22 0 [(VV.tr (L.map vi) L.length)] = some (VV.tr (L.map vi) L.length)) (by kernel_rfl) (by kernel_rfl) (by kernel_rfl) (by show Yc _ caps'.length = true; rw [hlen]; kernel_rfl) (.cons (an := .n) (v := vi (i : Int)) (q := True) (by kernel_rfl) trivial (by kernel_rfl) (by show Yc _ caps'.length = true; rw [hlen]; kernel_rfl) (.cons (an := .n) (v := vi (w64 ((i : Int) + 1))) (q := True) (by kernel_rfl) trivial (by kernel_rfl) (by show Yc _ caps'.length = true; rw [hlen]; kernel_rfl) (.cons (an := .v (VV.tr (L.map vi) L.length)) (v := (VV.tr (L.map vi) L.length)) (q := Jz Try.prog 22 0 [(VV.tr (L.map vi) L.length)] = some (VV.tr (L.map vi) L.length)) (by kernel_rfl) (by kernel_rfl) (by kernel_rfl) (by show Yc _ caps'.length = true; rw [hlen]; kernel_rfl) (.cons (an := .n) (v := vi (L.length : Int)) (q := True) (by kernel_rfl) trivial (by kernel_rfl) (by show Yc _ caps'.length = true; rw [hlen]; kernel_rfl) (.cons (an := .n) (v := vi ((w64 ((i : Int) + 1)).tmod (L.length : Int))) (q := (L.length : Int) ≠ 0) (by kernel_rfl) h0 (by kernel_rfl) (by show Yc _ caps'.length = true; rw [hlen]; kernel_rfl) (.cons (an := .n) (v := VV.tp (L.map vi) (((w64 ((i : Int) + 1)).tmod (L.length : Int)).toNat * 1)) (q := 0 <= ((w64 ((i : Int) + 1)).tmod (L.length : Int)) /\ ((w64 ((i : Int) + 1)).tmod (L.length : Int)) < (L.length : Int)) (by kernel_rfl) hj (by kernel_rfl) (by show Yc _ caps'.length = true; rw [hlen]; kernel_rfl) (.cons (an := .v (vi (L.getD ((w64 ((i : Int) + 1)).tmod (L.length : Int)).toNat 0))) (v := vi (L.getD ((w64 ((i : Int) + 1)).tmod (L.length : Int)).toNat 0)) (q := Jz Try.prog 3 (((w64 ((i : Int) + 1)).tmod (L.length : Int)).toNat * 1) (L.map vi) = some (vi (L.getD ((w64 ((i : Int) + 1)).tmod (L.length : Int)).toNat 0))) (by kernel_rfl) (Qa3 (by kernel_rfl) vi L 0 hj rfl) (by kernel_rfl) (by show Yc _ caps'.length = true; rw [hlen]; kernel_rfl) .nil)))))))))) ?_
   refine POps.yield (x := encA ((L.getD (i : Int).toNat 0), (L.getD ((w64 ((i : Int) + 1)).tmod (L.length : Int)).toNat 0))) hE (by kernel_rfl) (Array.mem_of_getElem? (i := 10) rfl) (by show Yc _ caps'.length = true; rw [hlen]; kernel_rfl) (by show caps'.length < 1000000; omega) rfl (by kernel_rfl) (by kernel_rfl) hx2 rfl ?_ ?_
   ·
    refine POps.op (an := .n) (v := vb (!true)) (q := True) hE pn (by kernel_rfl) (Array.mem_of_getElem? (i := 11) rfl) (by show Yc _ caps'.length = true; rw [hlen]; kernel_rfl) (by kernel_rfl) trivial ?_
    refine POps.nil ?_
    refine Xm.cond (b := false) (by kernel_rfl) (Xm.skip ?_)
    refine Xm.region (by kernel_rfl) ?_
    refine POps.op (an := .n) (v := vi (w64 ((i : Int) + 1))) (q := True) hE pn (by kernel_rfl) (Array.mem_of_getElem? (i := 0) rfl) (by show Yc _ caps'.length = true; rw [hlen]; kernel_rfl) (by kernel_rfl) trivial ?_
    refine POps.op (an := .n) (v := vi (w64 ((i : Int) + 1))) (q := True) hE pn (by kernel_rfl) (Array.mem_of_getElem? (i := 1) rfl) (by show Yc _ caps'.length = true; rw [hlen]; kernel_rfl) (by kernel_rfl) trivial ?_
    refine POps.nil ?_
    refine Qfg.cut (ks := [(0, VV.c (yv l)), (1, VV.tp [(VV.tr (L.map vi) L.length)] 0), (5, (VV.tr (L.map vi) L.length)), (6, vi (L.length : Int)), (7, vi (w64 ((i : Int) + 1)))]) (by kernel_rfl) (by simp only [List.forall_mem_cons]; exact ⟨by kernel_rfl, by kernel_rfl, by kernel_rfl, by kernel_rfl, by kernel_rfl, fun _ h => by cases h⟩) ?_
    rw [hw]
    exact ih (i + 1) (n + 1) (by omega) hn2 hx3
   ·
    refine POps.op (an := .n) (v := vb (!false)) (q := True) hE pn (by kernel_rfl) (Array.mem_of_getElem? (i := 11) rfl) (by show Yc _ caps'.length = true; rw [hlen]; kernel_rfl) (by kernel_rfl) trivial ?_
    refine POps.nil ?_
    exact Xm.cond (b := true) (by kernel_rfl) (Xm.ret (hret _))
theorem Qoz (L : List Int) (hl : L.length <= 1000000000) : ItOK Try.prog 61 [.tp [(VV.tr (L.map vi) L.length)] 0] ((Qk7 L).map encA) := by
 refine ItOK.intro (fn := Try.f61) Try.func61 rfl rfl (of_decide_eq_true (by kernel_rfl)) (fun E hP hsz hcaps hlen hxs hE => ?_)
 have outer := @Qks E L hE hP hsz hcaps hlen hl
 obtain ⟨P, sz, l, caps, caps', xs, M, J, R⟩ := E
 dsimp only at hP hsz hcaps hlen hxs
 subst hP; subst hsz; subst hcaps
 subst hxs
 dsimp only at outer ⊢
 refine Xm.seq ?_
 refine Xm.region (by kernel_rfl) ?_
 refine POps.op (an := .v (VV.tr (L.map vi) L.length)) (v := (VV.tr (L.map vi) L.length)) (q := Jz Try.prog 22 0 [(VV.tr (L.map vi) L.length)] = some (VV.tr (L.map vi) L.length)) hE pn (by kernel_rfl) (Array.mem_of_getElem? (i := 0) rfl) (by show Yc _ caps'.length = true; rw [hlen]; kernel_rfl) (by kernel_rfl) (by kernel_rfl) ?_
 refine POps.op (an := .n) (v := vi (L.length : Int)) (q := True) hE pn (by kernel_rfl) (Array.mem_of_getElem? (i := 1) rfl) (by show Yc _ caps'.length = true; rw [hlen]; kernel_rfl) (by kernel_rfl) trivial ?_
 refine POps.op (an := .n) (v := vi 0) (q := True) hE pn (by kernel_rfl) (Array.mem_of_getElem? (i := 2) rfl) (by show Yc _ caps'.length = true; rw [hlen]; kernel_rfl) (by kernel_rfl) trivial ?_
 refine POps.nil ?_
 refine Xm.block (Xm.loop ?_)
 refine Qfg.cut (ks := [(0, VV.c (yv l)), (1, VV.tp [(VV.tr (L.map vi) L.length)] 0), (5, (VV.tr (L.map vi) L.length)), (6, vi (L.length : Int)), (7, vi 0)]) (by kernel_rfl) (by simp only [List.forall_mem_cons]; exact ⟨by kernel_rfl, by kernel_rfl, by kernel_rfl, by kernel_rfl, by kernel_rfl, fun _ h => by cases h⟩) ?_
 refine outer _ ?_ ?_ L.length 0 0 (by omega) (Nat.zero_le _) rfl
 ·intro A; dsimp only; rw [if_pos rfl]; exact ⟨.inl rfl, .inr rfl⟩
 ·intro A; exact ⟨.inr rfl, .inl rfl⟩
end
end Go.Proofs.Ytenebnfhhhcfaaa.Vg

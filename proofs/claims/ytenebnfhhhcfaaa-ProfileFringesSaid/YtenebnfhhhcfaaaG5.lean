import Derived.Test.YtenebnfhhhcfaaaG6
namespace Go.Proofs.Ytenebnfhhhcfaaa.Vg
set_option maxRecDepth 100000
set_option maxHeartbeats 4000000
set_option linter.unusedVariables false
set_option linter.unusedSimpArgs false
open Go Go.Proofs.Ytenebnfhhhcfaaa.Ev Go.Proofs.Ytenebnfhhhcfaaa.Vv
open List (flatMap length_cons length_nil length_map length_append map_cons map_nil length_replicate)
def Quj (z0 : Bool) (z1 : Qb) (z2 : Int) : List Ans := (nN 5 (.call (vb z0) :: nN 5 (.v (vi (z1.Phases.getD z2.toNat 0)) :: .n :: .b true :: .n :: [])))
def Zq (k : Nat) (a0 : Qb) (a1 : Int) : Option Bool :=
 (Z8 k a1 0 (w64 ((a0.Phases.length : Int) - 1))).bind fun r735 => (if r735 = true then (if 0 <= a1 /\ a1 < (a0.Phases.length : Int) then (some (decide (0 <= (a0.Phases.getD a1.toNat 0)))) else none) else (some false))
theorem Ju (k : Nat) (a0 : Qb) (a1 : Int) (r : Bool) (h : Zq k a0 a1 = some r) : VC Try.prog 30 [VV.ag (Qe a0), vi a1] (vb r) := by
 unfold Zq at h
 obtain ⟨r735, h736, h⟩ := bs h
 have e737 := (Ja k a1 0 (w64 ((a0.Phases.length : Int) - 1)) _ h736)
 rcases ifs h with ⟨h738, h⟩ | ⟨h738, h⟩
 ·obtain ⟨h739, h⟩ := ifn h
  have e740 := (an h738 (show Jz Try.prog 3 (a1.toNat * 1) (List.map vi a0.Phases) = some (vi (a0.Phases.getD a1.toNat 0)) from Qa3 ag3 vi a0.Phases 0 h739 (by omega)))
  have e741 := (t5 (an e737 (ti (u3 (an h738 tt) (an (an h738 h739) (an e740 (an (an h738 tt) (an h738 (ti tt)))))))))
  injection h with h; subst h
  exact Qq pm pn Try.func30 (r0 := vb (decide (0 <= (a0.Phases.getD a1.toNat 0)))) (ans := [.reg (.n :: .n :: []), .reg (Quj r735 a0 a1)]) (fr := true) (by kernel_rfl) (an (an (t2 tt) (an e741 tt)) (ti tt)) (Wv.refl _)
 ·have e742 := (t5 (an e737 (ti (u7 (Zb h738) (ti tt)))))
  injection h with h; subst h
  exact Qq pm pn Try.func30 (r0 := vb false) (ans := [.reg (.n :: .n :: []), .reg (nN 5 (.call (vb r735) :: .n :: nS 6 (.b false :: .n :: [])))]) (fr := true) (by kernel_rfl) (an (an (t2 tt) (an e742 tt)) (ti tt)) (Wv.refl _)
def Zw (k : Nat) (a0 : Qb) (a1 : Int) (a2 : Int) : Option Bool :=
 if a2 < a1 then (if a1 = (w64 (a2 + a0.Width)) then (some true) else (if a1 = (w64 (a2 + 1)) then (if a0.Width ≠ 0 then (some (!(decide ((a1.tmod a0.Width) = 0)))) else none) else (some false))) else (if a2 = (w64 (a1 + a0.Width)) then (some true) else (if a2 = (w64 (a1 + 1)) then (if a0.Width ≠ 0 then (some (!(decide ((a2.tmod a0.Width) = 0)))) else none) else (some false)))
theorem Qai (k : Nat) (a0 : Qb) (a1 : Int) (a2 : Int) (r : Bool) (h : Zw k a0 a1 a2 = some r) : VC Try.prog 31 [VV.ag (Qe a0), vi a1, vi a2] (vb r) := by
 unfold Zw at h
 rcases ifs h with ⟨h760, h⟩ | ⟨h760, h⟩
 ·rcases ifs h with ⟨h761, h⟩ | ⟨h761, h⟩
  ·have e762 := (t7 (u5 (dt h761) (t5 (u2 (dt h761) (ti tt)))))
   injection h with h; subst h
   exact Qq pm pn Try.func31 (r0 := vb true) (ans := [.reg (.n :: .n :: []), .reg (nN 3 []), .br true, .reg (nN 4 []), .reg (nN 7 (nS 11 (.b true :: .n :: [])))]) (fr := true) (by kernel_rfl) (an (an (t2 tt) (an (an (t3 tt) (an (dt h760) (t4 tt))) (an e762 tt))) (ti tt)) (Wv.refl _)
  ·rcases ifs h with ⟨h763, h⟩ | ⟨h763, h⟩
   ·obtain ⟨h764, h⟩ := ifn h
    have e765 := (an (df h761) (dt h763))
    have e766 := (t7 (u5 (tf h761) (u3 (te h763) (an (an (dt h763) h764) (an (te h763) (an e765 (an (df h761) (ti tt))))))))
    injection h with h; subst h
    exact Qq pm pn Try.func31 (r0 := vb (!(decide ((a1.tmod a0.Width) = 0)))) (ans := [.reg (.n :: .n :: []), .reg (nN 3 []), .br true, .reg (nN 4 []), .reg (nN 17 (.b true :: .b false :: .n :: []))]) (fr := true) (by kernel_rfl) (an (an (t2 tt) (an (an (t3 tt) (an (dt h760) (t4 tt))) (an e766 tt))) (ti tt)) (Wv.refl _)
   ·have e767 := (an (df h761) (df h763))
    have e768 := (t7 (u5 (tf h761) (u5 (df h763) (an e767 (an (df h761) (ti tt))))))
    injection h with h; subst h
    exact Qq pm pn Try.func31 (r0 := vb false) (ans := [.reg (.n :: .n :: []), .reg (nN 3 []), .br true, .reg (nN 4 []), .reg (nN 12 (nS 5 (.b false :: .b false :: .n :: [])))]) (fr := true) (by kernel_rfl) (an (an (t2 tt) (an (an (t3 tt) (an (dt h760) (t4 tt))) (an e768 tt))) (ti tt)) (Wv.refl _)
 ·rcases ifs h with ⟨h769, h⟩ | ⟨h769, h⟩
  ·have e770 := (t7 (u5 (dt h769) (t5 (u2 (dt h769) (ti tt)))))
   injection h with h; subst h
   exact Qq pm pn Try.func31 (r0 := vb true) (ans := [.reg (.n :: .n :: []), .reg (nN 3 []), .br false, .reg (nN 7 (nS 11 (.b true :: .n :: [])))]) (fr := true) (by kernel_rfl) (an (an (t2 tt) (an (an (t3 tt) (tf h760)) (an e770 tt))) (ti tt)) (Wv.refl _)
  ·rcases ifs h with ⟨h771, h⟩ | ⟨h771, h⟩
   ·obtain ⟨h772, h⟩ := ifn h
    have e773 := (an (df h769) (dt h771))
    have e774 := (t7 (u5 (tf h769) (u3 (te h771) (an (an (dt h771) h772) (an (te h771) (an e773 (an (df h769) (ti tt))))))))
    injection h with h; subst h
    exact Qq pm pn Try.func31 (r0 := vb (!(decide ((a2.tmod a0.Width) = 0)))) (ans := [.reg (.n :: .n :: []), .reg (nN 3 []), .br false, .reg (nN 17 (.b true :: .b false :: .n :: []))]) (fr := true) (by kernel_rfl) (an (an (t2 tt) (an (an (t3 tt) (tf h760)) (an e774 tt))) (ti tt)) (Wv.refl _)
   ·have e775 := (an (df h769) (df h771))
    have e776 := (t7 (u5 (tf h769) (u5 (df h771) (an e775 (an (df h769) (ti tt))))))
    injection h with h; subst h
    exact Qq pm pn Try.func31 (r0 := vb false) (ans := [.reg (.n :: .n :: []), .reg (nN 3 []), .br false, .reg (nN 12 (nS 5 (.b false :: .b false :: .n :: [])))]) (fr := true) (by kernel_rfl) (an (an (t2 tt) (an (an (t3 tt) (tf h760)) (an e776 tt))) (ti tt)) (Wv.refl _)
def Jq (k : Nat) (a0 : Int) (a1 : Int) : Option Int :=
 if a1 ≠ 0 then (if (a0.tmod a1) < 0 then (some (w64 ((a0.tmod a1) + a1))) else (some (a0.tmod a1))) else none
theorem Qdg (k : Nat) (a0 : Int) (a1 : Int) (r : Int) (h : Jq k a0 a1 = some r) : VC Try.prog 32 [vi a0, vi a1] (vi r) := by
 unfold Jq at h
 obtain ⟨h815, h⟩ := ifn h
 rcases ifs h with ⟨h816, h⟩ | ⟨h816, h⟩
 ·injection h with h; subst h
  exact Qq pm pn Try.func32 (r0 := vi (w64 ((a0.tmod a1) + a1))) (ans := [.reg (.n :: []), .reg (nN 4 []), .reg (.n :: .n :: []), .br true, .reg (nN 4 [])]) (fr := true) (by kernel_rfl) (an (an (ti tt) (an (t2 (an h815 (ti tt))) (an (t2 tt) (an (dt h816) (an (t4 tt) tt))))) (ti tt)) (Wv.refl _)
 ·injection h with h; subst h
  exact Qq pm pn Try.func32 (r0 := vi (a0.tmod a1)) (ans := [.reg (.n :: []), .reg (nN 4 []), .reg (.n :: .n :: []), .br false, .reg (.n :: .n :: [])]) (fr := true) (by kernel_rfl) (an (an (ti tt) (an (t2 (an h815 (ti tt))) (an (an (t2 tt) (tf h816)) (an (t2 tt) tt)))) (ti tt)) (Wv.refl _)
def Quk (z0 : Qb) (z1 : Int) (z2 : Int) (z3 : Int) : List Ans := (nN 4 (.v (vi (z0.Phases.getD z1.toNat 0)) :: nN 4 (.v (vi (z0.Phases.getD z2.toNat 0)) :: .n :: .n :: .call (vi z3) :: nN 3 [])))
def Xo (self12 : Qb -> Int -> Int -> Option (Int × Int)) (k : Nat) (a0 : Qb) (a1 : Int) (a2 : Int) : Option (Int × Int) :=
 (Zq k a0 a1).bind fun r822 => (if r822 = true then ((Zq k a0 a2).bind fun r826 => (if r826 = true then ((Zw k a0 a1 a2).bind fun r831 => (if r831 = true then (if a2 < a1 then ((self12 a0 a2 a1).bind fun r836 => (some (w64 (0 - r836.1), 0))) else (if 0 <= a2 /\ a2 < (a0.Phases.length : Int) then (if 0 <= a1 /\ a1 < (a0.Phases.length : Int) then ((Jq k (w64 ((w64 ((a0.Phases.getD a2.toNat 0) - (a0.Phases.getD a1.toNat 0))) + 500)) 1000).bind fun r843 => (some (w64 (r843 - 500), 0))) else none) else none)) else (some (0, 14)))) else (some (0, 6)))) else (some (0, 6)))
theorem Qbi (self12 : Qb -> Int -> Int -> Option (Int × Int)) (k : Nat) (a0 : Qb) (a1 : Int) (a2 : Int) (h791 : ∀ (a0 : Qb) (a1 : Int) (a2 : Int) (r : (Int × Int)), self12 a0 a1 a2 = some r -> VC Try.prog 12 [VV.ag (Qe a0), vi a1, vi a2] (VV.tu [vi r.1, vi r.2])) (r : (Int × Int)) (h : Xo self12 k a0 a1 a2 = some r) : VC Try.prog 12 [VV.ag (Qe a0), vi a1, vi a2] (VV.tu [vi r.1, vi r.2]) := by
 unfold Xo at h
 obtain ⟨r822, h823, h⟩ := bs h
 have e824 := (Ju k a0 a1 _ h823)
 rcases ifs h with ⟨h825, h⟩ | ⟨h825, h⟩
 ·obtain ⟨r826, h827, h⟩ := bs h
  have e828 := (an (Qo h825) (Ju k a0 a2 _ h827))
  have e829 := (t2 (an e824 (t2 (u2 (an (Qo h825) tt) (an e828 (an (an (Qo h825) tt) (an (Qo h825) tt)))))))
  rcases ifs h with ⟨h830, h⟩ | ⟨h830, h⟩
  ·obtain ⟨r831, h832, h⟩ := bs h
   have e833 := (Qai k a0 a1 a2 _ h832)
   rcases ifs h with ⟨h834, h⟩ | ⟨h834, h⟩
   ·rcases ifs h with ⟨h835, h⟩ | ⟨h835, h⟩
    ·obtain ⟨r836, h837, h⟩ := bs h
     have e838 := (t3 (an (h791 a0 a2 a1 _ h837) (t5 tt)))
     injection h with h; subst h
     exact Qq pm pn Try.func12 (r0 := VV.tu [vi (w64 (0 - r836.1)), vi 0]) (ans := [.reg (nN 3 []), .reg (.n :: .n :: .call (vb r822) :: nN 4 (.call (vb r826) :: .n :: .b false :: [])), .br false, .reg (nN 3 (.call (vb r831) :: .n :: [])), .br false, .reg (nN 3 []), .br true, .reg (nN 3 (.call (VV.tu [vi r836.1, vi r836.2]) :: nN 5 [])), .reg (nN 4 [])]) (fr := true) (by kernel_rfl) (an (an (t3 tt) (an (an e829 (an (Qo h830) tt)) (an (an (t3 (an e833 (ti tt))) (an (Qo h834) tt)) (an (t3 tt) (an (dt h835) (an e838 (an (t4 tt) tt))))))) (t2 tt)) (Wv.refl _)
    ·obtain ⟨h839, h⟩ := ifn h
     have e840 := (show Jz Try.prog 3 (a2.toNat * 1) (List.map vi a0.Phases) = some (vi (a0.Phases.getD a2.toNat 0)) from Qa3 ag3 vi a0.Phases 0 h839 (by omega))
     obtain ⟨h841, h⟩ := ifn h
     have e842 := (show Jz Try.prog 3 (a1.toNat * 1) (List.map vi a0.Phases) = some (vi (a0.Phases.getD a1.toNat 0)) from Qa3 ag3 vi a0.Phases 0 h841 (by omega))
     obtain ⟨r843, h844, h⟩ := bs h
     have e845 := (Qdg k (w64 ((w64 ((a0.Phases.getD a2.toNat 0) - (a0.Phases.getD a1.toNat 0))) + 500)) 1000 _ h844)
     have e846 := (t3 (an h839 (an e840 (t3 (an h841 (an e842 (t2 (an e845 (t3 tt)))))))))
     injection h with h; subst h
     exact Qq pm pn Try.func12 (r0 := VV.tu [vi (w64 (r843 - 500)), vi 0]) (ans := [.reg (nN 3 []), .reg (.n :: .n :: .call (vb r822) :: nN 4 (.call (vb r826) :: .n :: .b false :: [])), .br false, .reg (nN 3 (.call (vb r831) :: .n :: [])), .br false, .reg (nN 3 []), .br false, .reg (Quk a0 a2 a1 r843)]) (fr := true) (by kernel_rfl) (an (an (t3 tt) (an (an e829 (an (Qo h830) tt)) (an (an (t3 (an e833 (ti tt))) (an (Qo h834) tt)) (an (an (t3 tt) (tf h835)) (an e846 tt))))) (t2 tt)) (Wv.refl _)
   ·injection h with h; subst h
    exact Qq pm pn Try.func12 (r0 := VV.tu [vi 0, vi 14]) (ans := [.reg (nN 3 []), .reg (.n :: .n :: .call (vb r822) :: nN 4 (.call (vb r826) :: .n :: .b false :: [])), .br false, .reg (nN 3 (.call (vb r831) :: .n :: [])), .br true, .reg (.n :: .n :: [])]) (fr := true) (by kernel_rfl) (an (an (t3 tt) (an (an e829 (an (Qo h830) tt)) (an (t3 (an e833 (ti tt))) (an (Zl (Zb h834)) (an (t2 tt) tt))))) (t2 tt)) (Wv.refl _)
  ·injection h with h; subst h
   exact Qq pm pn Try.func12 (r0 := VV.tu [vi 0, vi 6]) (ans := [.reg (nN 3 []), .reg (.n :: .n :: .call (vb r822) :: nN 4 (.call (vb r826) :: .n :: .b false :: [])), .br true, .reg (.n :: .n :: [])]) (fr := true) (by kernel_rfl) (an (an (t3 tt) (an e829 (an (Zl (Zb h830)) (an (t2 tt) tt)))) (t2 tt)) (Wv.refl _)
 ·have e847 := (t2 (an e824 (t2 (u5 (Zl (Zb h825)) tt))))
  injection h with h; subst h
  exact Qq pm pn Try.func12 (r0 := VV.tu [vi 0, vi 6]) (ans := [.reg (nN 3 []), .reg (.n :: .n :: .call (vb r822) :: .n :: .n :: nS 4 (.b true :: [])), .br true, .reg (.n :: .n :: [])]) (fr := true) (by kernel_rfl) (an (an (t3 tt) (an e847 (an rt (an (t2 tt) tt)))) (t2 tt)) (Wv.refl _)
def Qg : Nat -> Qb -> Int -> Int -> Option (Int × Int)
 | 0, _, _, _ => none
 | k + 1, a0, a1, a2 => Xo (Qg k) k a0 a1 a2
theorem Y0 (k : Nat) : ∀ (a0 : Qb) (a1 : Int) (a2 : Int) (r : (Int × Int)) (h : Qg k a0 a1 a2 = some r), VC Try.prog 12 [VV.ag (Qe a0), vi a1, vi a2] (VV.tu [vi r.1, vi r.2]) := by
 induction k with
 | zero => intro a0 a1 a2 r h; rw [Qg.eq_1] at h; cases h
 | succ k ih => intro a0 a1 a2 r h; rw [Qg.eq_2] at h; exact Qbi (Qg k) k a0 a1 a2 ih r h
def Qsk (z0 : (List Int)) (z1 : Int) (z2 : (Int × Int)) : List Ans := (nN 4 (.v (vi (z0.getD z1.toNat 0)) :: nN 7 (.v (vi (z0.getD ((w64 (z1 + 1)).tmod (z0.length : Int)).toNat 0)) :: .call (VV.tu [vi z2.1, vi z2.2]) :: nN 5 [])))
def Zx (a0 : Qb) (a1 : (List Int)) (x6 : Int) : VS := ⟨mkA [(1, VV.tr (List.map vi a1) a1.length), (2, VV.pt 0 0), (6, vi x6)], [some ⟨true, 1, Qe a0⟩], .nil⟩
def Xp (a0 : Qb) (a1 : (List Int)) (r : Unit) : VS := ⟨mkA [(4, vi 0), (5, vi 6)], [], .nil⟩
def Zv (a0 : Qb) (a1 : (List Int)) (r : Unit) : VS := ⟨mkA [(1, VV.tr (List.map vi a1) a1.length), (2, VV.pt 0 0)], [some ⟨true, 1, Qe a0⟩], .nil⟩
def Qr (k : Nat) (a0 : Qb) (a1 : (List Int)) : Nat -> Int -> Option (Sum Unit Unit)
 | 0, _ => none
 | fuel + 1, x6 => if x6 < (a1.length : Int) then (if 0 <= x6 /\ x6 < (a1.length : Int) then ((Zq k a0 (a1.getD x6.toNat 0)).bind fun r944 => (if r944 = true then (Qr k a0 a1 fuel (w64 (x6 + 1))) else (some (.inl ())))) else none) else (some (.inr ()))
theorem Wp (k : Nat) (a0 : Qb) (a1 : (List Int)) : ∀ (fuel : Nat) (x6 : Int) (r : Sum Unit Unit), Qr k a0 a1 fuel x6 = some r -> (match r with | .inl r => Yo none Try.prog (szF Try.f29) (Yr Try.f29 0) (Zx a0 a1 x6) .ret (Xp a0 a1 r) | .inr r => Yo none Try.prog (szF Try.f29) (Yr Try.f29 0) (Zx a0 a1 x6) (.exit 0) (Zv a0 a1 r)) := by
 intro fuel
 induction fuel with
 | zero => intro x6 r h; rw [Qr.eq_1] at h; cases h
 | succ fuel ih =>
  intro x6 r h
  rw [Qr.eq_2] at h
  rcases ifs h with ⟨h941, h⟩ | ⟨h941, h⟩
  ·obtain ⟨h942, h⟩ := ifn h
   have e943 := (show Jz Try.prog 3 (x6.toNat * 1) (List.map vi a1) = some (vi (a1.getD x6.toNat 0)) from Qa3 ag3 vi a1 0 h942 (by omega))
   obtain ⟨r944, h945, h⟩ := bs h
   have e946 := (Ju k a0 (a1.getD x6.toNat 0) _ h945)
   have e947 := (t3 (an h942 (an e943 (an e946 (ti tt)))))
   rcases ifs h with ⟨h948, h⟩ | ⟨h948, h⟩
   ·have h2 := ih _ _ h
    obtain ⟨q, hv, hq⟩ := pkR (rd := none) (P := Try.prog) (fn := Try.f29) (k := 0) (s := (Zx a0 a1 x6)) (ans := [.reg (nN 4 []), .br true, .reg (nN 4 (.v (vi (a1.getD x6.toNat 0)) :: .call (vb r944) :: .n :: [])), .br false, .reg (nN 3 [])]) (c := ⟨[(1, none), (2, none), (6, none)], [none], []⟩) (e := .normal) (s1 := (Zx a0 a1 (w64 (x6 + 1)))) (an (an (an (t4 tt) (te h941)) (an (an e947 (an (Qo h948) tt)) (t3 tt))) (ti tt)) (by kernel_rfl)
    cases r with
    | inl r => exact Zp pm pn hv hq h2
    | inr r =>
     exact Zp pm pn hv hq h2
   ·injection h with h; subst h
    exact Xz (c := ⟨[(4, none), (5, none)], [], []⟩) (s1 := (Xp a0 a1 ())) pm pn (ans := [.reg (nN 4 []), .br true, .reg (nN 4 (.v (vi (a1.getD x6.toNat 0)) :: .call (vb r944) :: .n :: [])), .br true, .reg (.n :: .n :: [])]) (by kernel_rfl) (by intro e; cases e) (an (an (an (t4 tt) (te h941)) (an e947 (an (Zl (Zb h948)) (an (t2 tt) tt)))) (ti tt))
  ·injection h with h; subst h
   exact Xz (c := ⟨[(1, none), (2, none)], [none], []⟩) (s1 := (Zv a0 a1 ())) pm pn (ans := [.reg (nN 4 []), .br false]) (by kernel_rfl) (by intro e; cases e) (an (an (t4 tt) (tf h941)) (ti tt))
def Zy (a0 : Qb) (a1 : (List Int)) (x7 : Int) (x8 : Int) : VS := ⟨mkA [(1, VV.tr (List.map vi a1) a1.length), (2, VV.pt 0 0), (7, vi x7), (8, vi x8)], [some ⟨true, 1, Qe a0⟩], .nil⟩
def Xq (a0 : Qb) (a1 : (List Int)) (r : Int) : VS := ⟨mkA [(4, vi 0), (5, vi r)], [], .nil⟩
def Xr (a0 : Qb) (a1 : (List Int)) (r : Int) : VS := ⟨mkA [(7, vi r)], [], .nil⟩
def Ql (k : Nat) (a0 : Qb) (a1 : (List Int)) : Nat -> Int -> Int -> Option (Sum Int Int)
 | 0, _, _ => none
 | fuel + 1, x7, x8 => if x8 < (a1.length : Int) then (if 0 <= x8 /\ x8 < (a1.length : Int) then (if (a1.length : Int) ≠ 0 then (if 0 <= (w64 (x8 + 1)).tmod (a1.length : Int) /\ (w64 (x8 + 1)).tmod (a1.length : Int) < (a1.length : Int) then ((Qg k a0 (a1.getD x8.toNat 0) (a1.getD ((w64 (x8 + 1)).tmod (a1.length : Int)).toNat 0)).bind fun r983 => (if r983.2 = 0 then (Ql k a0 a1 fuel (w64 (x7 + r983.1)) (w64 (x8 + 1))) else (some (.inl r983.2)))) else none) else none) else none) else (some (.inr x7))
theorem Wq (k : Nat) (a0 : Qb) (a1 : (List Int)) : ∀ (fuel : Nat) (x7 : Int) (x8 : Int) (r : Sum Int Int), Ql k a0 a1 fuel x7 x8 = some r -> (match r with | .inl r => Yo none Try.prog (szF Try.f29) (Yr Try.f29 1) (Zy a0 a1 x7 x8) .ret (Xq a0 a1 r) | .inr r => Yo none Try.prog (szF Try.f29) (Yr Try.f29 1) (Zy a0 a1 x7 x8) (.exit 2) (Xr a0 a1 r)) := by
 intro fuel
 induction fuel with
 | zero => intro x7 x8 r h; rw [Ql.eq_1] at h; cases h
 | succ fuel ih =>
  intro x7 x8 r h
  rw [Ql.eq_2] at h
  rcases ifs h with ⟨h977, h⟩ | ⟨h977, h⟩
  ·obtain ⟨h978, h⟩ := ifn h
   have e979 := (show Jz Try.prog 3 (x8.toNat * 1) (List.map vi a1) = some (vi (a1.getD x8.toNat 0)) from Qa3 ag3 vi a1 0 h978 (by omega))
   obtain ⟨h980, h⟩ := ifn h
   obtain ⟨h981, h⟩ := ifn h
   have e982 := (show Jz Try.prog 3 (((w64 (x8 + 1)).tmod (a1.length : Int)).toNat * 1) (List.map vi a1) = some (vi (a1.getD ((w64 (x8 + 1)).tmod (a1.length : Int)).toNat 0)) from Qa3 ag3 vi a1 0 h981 (by omega))
   obtain ⟨r983, h984, h⟩ := bs h
   have e985 := (Y0 k a0 (a1.getD x8.toNat 0) (a1.getD ((w64 (x8 + 1)).tmod (a1.length : Int)).toNat 0) _ h984)
   have e986 := (t3 (an h978 (an e979 (t5 (an h980 (an h981 (an e982 (an e985 (t5 tt)))))))))
   rcases ifs h with ⟨h987, h⟩ | ⟨h987, h⟩
   ·have h2 := ih _ _ _ h
    obtain ⟨q, hv, hq⟩ := pkR (rd := none) (P := Try.prog) (fn := Try.f29) (k := 1) (s := (Zy a0 a1 x7 x8)) (ans := [.reg (nN 4 []), .br true, .reg (Qsk a1 x8 r983), .reg (.n :: .n :: []), .br false, .reg (nN 4 []), .reg (nN 3 [])]) (c := ⟨[(1, none), (2, none), (7, none), (8, none)], [none], []⟩) (e := .normal) (s1 := (Zy a0 a1 (w64 (x7 + r983.1)) (w64 (x8 + 1)))) (an (an (an (t4 tt) (te h977)) (an (an e986 (an (an (t2 tt) (ta h987)) (t4 tt))) (t3 tt))) (ti tt)) (by kernel_rfl)
    cases r with
    | inl r => exact Zp pm pn hv hq h2
    | inr r =>
     exact Zp pm pn hv hq h2
   ·injection h with h; subst h
    exact Xz (c := ⟨[(4, none), (5, none)], [], []⟩) (s1 := (Xq a0 a1 r983.2)) pm pn (ans := [.reg (nN 4 []), .br true, .reg (Qsk a1 x8 r983), .reg (.n :: .n :: []), .br true, .reg (nN 3 [])]) (by kernel_rfl) (by intro e; cases e) (an (an (an (t4 tt) (te h977)) (an e986 (an (t2 tt) (an (td h987) (an (t3 tt) tt))))) (ti tt))
  ·injection h with h; subst h
   exact Xz (c := ⟨[(7, none)], [], []⟩) (s1 := (Xr a0 a1 x7)) pm pn (ans := [.reg (nN 4 []), .br false]) (by kernel_rfl) (by intro e; cases e) (an (an (t4 tt) (tf h977)) (ti tt))
def Xj (k : Nat) (a0 : Qb) (a1 : (List Int)) : Option (Int × Int) :=
 (Z8 k (a1.length : Int) 2 144).bind fun r921 => (if r921 = true then ((Qr k a0 a1 k 0).bind fun r950 => (match r950 with | .inl r951 => (some (0, 6)) | .inr r952 => ((Ql k a0 a1 k 0 0).bind fun r989 => (match r989 with | .inl r990 => (some (0, r990)) | .inr r991 => (some (r991, 0)))))) else (some (0, 10)))
theorem Qa8 (k : Nat) (a0 : Qb) (a1 : (List Int)) (r : (Int × Int)) (h : Xj k a0 a1 = some r) : VC Try.prog 29 [VV.ag (Qe a0), VV.tr (List.map vi a1) a1.length] (VV.tu [vi r.1, vi r.2]) := by
 unfold Xj at h
 obtain ⟨r921, h922, h⟩ := bs h
 have e923 := (Ja k (a1.length : Int) 2 144 _ h922)
 rcases ifs h with ⟨h924, h⟩ | ⟨h924, h⟩
 ·obtain ⟨r950, h949, h⟩ := bs h
  have hph949 := Wp k a0 a1 _ _ _ h949
  cases r950 with
  | inl r951 =>
   dsimp only at h
   have e953 := (an (ti tt) (VRun.loop hph949))
   injection h with h; subst h
   exact Qq pm pn Try.func29 (r0 := VV.tu [vi 0, vi 6]) (ans := [.reg (nN 3 []), .reg (.n :: .n :: .call (vb r921) :: .n :: []), .br false, .reg (.n :: []), .sub ⟨[(1, none), (2, none), (6, none)], [none], []⟩ .ret (Xp a0 a1 r951)]) (fr := true) (by kernel_rfl) (an (an (t3 tt) (an (an (t2 (an e923 (ti tt))) (an (Qo h924) tt)) (an (ti tt) e953))) (t2 tt)) (Wv.refl _)
  | inr r952 =>
   dsimp only at h
   have e954 := (an (ti tt) (VRun.loop hph949))
   obtain ⟨r989, h988, h⟩ := bs h
   have hph988 := Wq k a0 a1 _ _ _ _ h988
   cases r989 with
   | inl r990 =>
    dsimp only at h
    have e992 := (an (ti tt) (VRun.loop hph988))
    injection h with h; subst h
    exact Qq pm pn Try.func29 (r0 := VV.tu [vi 0, vi r990]) (ans := [.reg (nN 3 []), .reg (.n :: .n :: .call (vb r921) :: .n :: []), .br false, .reg (.n :: []), .sub ⟨[(1, none), (2, none), (6, none)], [none], []⟩ (.exit 0) (Zv a0 a1 r952), .reg (.n :: []), .reg (.n :: []), .sub ⟨[(1, none), (2, none), (7, none), (8, none)], [none], []⟩ .ret (Xq a0 a1 r990)]) (fr := true) (by kernel_rfl) (an (an (t3 tt) (an (an (t2 (an e923 (ti tt))) (an (Qo h924) tt)) (an (an (ti tt) e954) (u2 (ti tt) e992)))) (t2 tt)) (Wv.refl _)
   | inr r991 =>
    dsimp only at h
    have e993 := (an (ti tt) (VRun.loop hph988))
    injection h with h; subst h
    exact Qq pm pn Try.func29 (r0 := VV.tu [vi r991, vi 0]) (ans := [.reg (nN 3 []), .reg (.n :: .n :: .call (vb r921) :: .n :: []), .br false, .reg (.n :: []), .sub ⟨[(1, none), (2, none), (6, none)], [none], []⟩ (.exit 0) (Zv a0 a1 r952), .reg (.n :: []), .reg (.n :: []), .sub ⟨[(1, none), (2, none), (7, none), (8, none)], [none], []⟩ (.exit 2) (Xr a0 a1 r991), .reg (nN 3 [])]) (fr := true) (by kernel_rfl) (an (an (t3 tt) (an (an (t2 (an e923 (ti tt))) (an (Qo h924) tt)) (an (an (ti tt) e954) (an (ti tt) (an (an (ti tt) e993) (an (t3 tt) tt)))))) (t2 tt)) (Wv.refl _)
 ·injection h with h; subst h
  exact Qq pm pn Try.func29 (r0 := VV.tu [vi 0, vi 10]) (ans := [.reg (nN 3 []), .reg (.n :: .n :: .call (vb r921) :: .n :: []), .br true, .reg (.n :: .n :: [])]) (fr := true) (by kernel_rfl) (an (an (t3 tt) (an (t2 (an e923 (ti tt))) (an (Zl (Zb h924)) (an (t2 tt) tt)))) (t2 tt)) (Wv.refl _)
theorem Qul (z0 : Qb) (z1 : Int) : [VV.ag (Qe z0), VV.tr (List.map vi ([z1, w64 (z1 + 1), w64 ((w64 (z1 + 1)) + z0.Width), w64 (z1 + z0.Width)] : List Int)) (([z1, w64 (z1 + 1), w64 ((w64 (z1 + 1)) + z0.Width), w64 (z1 + z0.Width)] : List Int).length)] = [VV.ag (Qe z0), VV.tr [vi z1, vi (w64 (z1 + 1)), vi (w64 ((w64 (z1 + 1)) + z0.Width)), vi (w64 (z1 + z0.Width))] 4] := by first | rfl | (simp only [Xc, map_cons, map_nil, un_i, Qck, length_map, length_cons, length_nil, Q5]; done) | (simp only [Xc, map_cons, map_nil, un_i, Qck, length_map, length_cons, length_nil, Q5]; rfl) | (simp only [Xc, map_cons, map_nil, un_i, Qck, length_map, length_cons, length_nil, Q5, Qe, length_cons, length_nil, length_append]; done)
def Qn (a0 : Qb) (y1 : List A37) (x4 : Int) : VS := ⟨mkA [(1, VV.pt 0 0), (3, VV.rf 1 0 y1.length), (4, vi x4)], [some ⟨true, 1, Qe a0⟩, some ⟨false, 2, flatMap Xt y1⟩], .nil⟩
def Xk (a0 : Qb) (r : (List A37)) : VS := ⟨mkA [(3, VV.rf 1 0 r.length)], [some ⟨true, 1, Qe a0⟩, some ⟨false, 2, flatMap Xt r⟩], .nil⟩
def Qh (k : Nat) (a0 : Qb) : Nat -> (List A37) -> Int -> Option ((List A37))
 | 0, _, _ => none
 | fuel + 1, y1, x4 => if x4 < (a0.Phases.length : Int) then (if a0.Width ≠ 0 then (if ((w64 (x4 + 1)).tmod a0.Width) = 0 then (Qh k a0 fuel y1 (w64 (x4 + 1))) else ((Xj k a0 ([x4, w64 (x4 + 1), w64 ((w64 (x4 + 1)) + a0.Width), w64 (x4 + a0.Width)] : List Int)).bind fun r1105 => (if r1105.2 = 0 then (if r1105.1 = 0 then (Qh k a0 fuel y1 (w64 (x4 + 1))) else (if y1.length + ([(⟨x4, w64 (r1105.1.tdiv 1000)⟩ : A37)] : List A37).length <= 1000000000 then (Qh k a0 fuel (y1 ++ ([(⟨x4, w64 (r1105.1.tdiv 1000)⟩ : A37)] : List A37)) (w64 (x4 + 1))) else none)) else (Qh k a0 fuel y1 (w64 (x4 + 1)))))) else none) else (some y1)
theorem Y4 (k : Nat) (a0 : Qb) : ∀ (fuel : Nat) (y1 : List A37) (x4 : Int) (r : (List A37)), Qh k a0 fuel y1 x4 = some r -> (Yo none Try.prog (szF Try.f11) (Yr Try.f11 0) (Qn a0 y1 x4) (.exit 0) (Xk a0 r)) := by
 intro fuel
 induction fuel with
 | zero => intro y1 x4 r h; rw [Qh.eq_1] at h; cases h
 | succ fuel ih =>
  intro y1 x4 r h
  rw [Qh.eq_2] at h
  rcases ifs h with ⟨h1102, h⟩ | ⟨h1102, h⟩
  ·obtain ⟨h1103, h⟩ := ifn h
   rcases ifs h with ⟨h1104, h⟩ | ⟨h1104, h⟩
   ·have h2 := ih _ _ _ h
    obtain ⟨q, hv, hq⟩ := pkR (rd := none) (P := Try.prog) (fn := Try.f11) (k := 0) (s := (Qn a0 y1 x4)) (ans := [.reg (nN 5 []), .br true, .reg (nN 6 []), .br true, .reg (nN 3 [])]) (c := ⟨[(1, none), (3, none), (4, none)], [none, none], []⟩) (e := .normal) (s1 := (Qn a0 y1 (w64 (x4 + 1)))) (an (an (an (t5 tt) (te h1102)) (an (an (t4 (an h1103 (ti tt))) (te h1104)) (t3 tt))) (ti tt)) (by kernel_rfl)
    exact Zp pm pn hv hq h2
   ·obtain ⟨r1105, h1106, h⟩ := bs h
    have e1107 := (VC.args (Qa8 k a0 ([x4, w64 (x4 + 1), w64 ((w64 (x4 + 1)) + a0.Width), w64 (x4 + a0.Width)] : List Int) _ h1106) (Qul a0 x4))
    have e1108 := (t9 (t5 (an e1107 (t5 tt))))
    rcases ifs h with ⟨h1109, h⟩ | ⟨h1109, h⟩
    ·have e1110 := (t3 (u2 (te h1109) (te h1109)))
     rcases ifs h with ⟨h1111, h⟩ | ⟨h1111, h⟩
     ·have h2 := ih _ _ _ h
      obtain ⟨q, hv, hq⟩ := pkR (rd := none) (P := Try.prog) (fn := Try.f11) (k := 0) (s := (Qn a0 y1 x4)) (ans := [.reg (nN 5 []), .br true, .reg (nN 6 []), .br false, .reg (nN 13 (.v VV.any :: .call (VV.tu [vi r1105.1, vi r1105.2]) :: nN 5 [])), .reg (nN 5 (.b true :: [])), .br false, .reg (nN 3 [])]) (c := ⟨[(1, none), (3, none), (4, none)], [none, none], []⟩) (e := .normal) (s1 := (Qn a0 y1 (w64 (x4 + 1)))) (an (an (an (t5 tt) (te h1102)) (an (an (an (t4 (an h1103 (ti tt))) (tf h1104)) (an e1108 (an e1110 (ta h1111)))) (t3 tt))) (ti tt)) (by kernel_rfl)
      exact Zp pm pn hv hq h2
     ·have e1112 := (show (1000 : Int) ≠ 0 from (by decide))
      obtain ⟨h1113, h⟩ := ifn h
      have e1114 := (show List.length (flatMap Xt y1) = y1.length * 2 /\ List.length [vi x4, vi (w64 (r1105.1.tdiv 1000))] = 1 * 2 /\ (y1.length + 1) * 16 <= 140737488355328 /\ y1.length + 1 < 1099511627776 /\ List.all [vi x4, vi (w64 (r1105.1.tdiv 1000))] VV.still = true from ⟨(by rw [Qas Qbj] <;> simp), (by rw [show [vi x4, vi (w64 (r1105.1.tdiv 1000))] = flatMap Xt ([(⟨x4, w64 (r1105.1.tdiv 1000)⟩ : A37)] : List A37) from rfl]; rw [Qas Qbj] <;> simp), (by first | omega | (simp at h1113 ⊢; omega)), (by first | omega | (simp at h1113 ⊢; omega)), (by rw [show [vi x4, vi (w64 (r1105.1.tdiv 1000))] = flatMap Xt ([(⟨x4, w64 (r1105.1.tdiv 1000)⟩ : A37)] : List A37) from rfl]; exact Qf0 _)⟩)
      have e1115 := (t3 (an e1112 (t2 (an e1114 (ti tt)))))
      have h2 := ih _ _ _ h
      obtain ⟨q, hv, hq⟩ := pkR (rd := none) (P := Try.prog) (fn := Try.f11) (k := 0) (s := (Qn a0 y1 x4)) (ans := [.reg (nN 5 []), .br true, .reg (nN 6 []), .br false, .reg (nN 13 (.v VV.any :: .call (VV.tu [vi r1105.1, vi r1105.2]) :: nN 5 [])), .reg (nN 5 (.b true :: [])), .br true, .reg (nN 8 []), .reg (nN 3 [])]) (c := ⟨[(1, none), (3, some (VV.rf 1 0 ((y1 ++ ([(⟨x4, w64 (r1105.1.tdiv 1000)⟩ : A37)] : List A37)).length))), (4, none)], [none, some (flatMap Xt (y1 ++ ([(⟨x4, w64 (r1105.1.tdiv 1000)⟩ : A37)] : List A37)))], []⟩) (e := .normal) (s1 := (Qn a0 (y1 ++ ([(⟨x4, w64 (r1105.1.tdiv 1000)⟩ : A37)] : List A37)) (w64 (x4 + 1)))) (an (an (an (t5 tt) (te h1102)) (an (an (an (t4 (an h1103 (ti tt))) (tf h1104)) (an e1108 (an e1110 (an (td h1111) e1115)))) (t3 tt))) (an (an (show Wv (VV.rf 1 0 (y1.length + 1)) (VV.rf 1 0 ((y1 ++ ([(⟨x4, w64 (r1105.1.tdiv 1000)⟩ : A37)] : List A37)).length)) from (Wv.of_eq (by simp))) tt) (an (show (flatMap Xt y1) ++ [vi x4, vi (w64 (r1105.1.tdiv 1000))] = flatMap Xt (y1 ++ ([(⟨x4, w64 (r1105.1.tdiv 1000)⟩ : A37)] : List A37)) from (by rw [show [vi x4, vi (w64 (r1105.1.tdiv 1000))] = flatMap Xt ([(⟨x4, w64 (r1105.1.tdiv 1000)⟩ : A37)] : List A37) from rfl]; exact List.flatMap_append.symm)) tt))) (by kernel_rfl)
      exact Zp pm pn hv hq h2
    ·have e1116 := (t3 (u2 (df h1109) (tf h1109)))
     have h2 := ih _ _ _ h
     obtain ⟨q, hv, hq⟩ := pkR (rd := none) (P := Try.prog) (fn := Try.f11) (k := 0) (s := (Qn a0 y1 x4)) (ans := [.reg (nN 5 []), .br true, .reg (nN 6 []), .br false, .reg (nN 13 (.v VV.any :: .call (VV.tu [vi r1105.1, vi r1105.2]) :: nN 5 [])), .reg (nN 3 (.skip :: .skip :: .b false :: [])), .br false, .reg (nN 3 [])]) (c := ⟨[(1, none), (3, none), (4, none)], [none, none], []⟩) (e := .normal) (s1 := (Qn a0 y1 (w64 (x4 + 1)))) (an (an (an (t5 tt) (te h1102)) (an (an (an (t4 (an h1103 (ti tt))) (tf h1104)) (an e1108 (an e1116 (an rf tt)))) (t3 tt))) (ti tt)) (by kernel_rfl)
     exact Zp pm pn hv hq h2
  ·injection h with h; subst h
   exact Xz (c := ⟨[(3, none)], [none, none], []⟩) (s1 := (Xk a0 y1)) pm pn (ans := [.reg (nN 5 []), .br false]) (by kernel_rfl) (by intro e; cases e) (an (an (t5 tt) (tf h1102)) (ti tt))
theorem Qum (z0 : (List A37)) : VV.fw 2 (List.drop 0 (List.map unfr (flatMap Xt z0))) z0.length = VV.fw 2 (flatMap Xt z0) z0.length := by first | rfl | (simp only [Qcl, map_cons, map_nil, length_map, Qam]; done) | (simp only [Qcl, map_cons, map_nil, length_map, Qam]; rfl) | (simp only [Qcl, map_cons, map_nil, length_map, Qam, length_cons, length_nil, length_append]; done)
def Xd (k : Nat) (a0 : Qb) : Option (List A37) :=
 (Qh k a0 k ([] : List A37) 0).bind fun r1118 => (some r1118)
theorem Qay (k : Nat) (a0 : Qb) (r : (List A37)) (h : Xd k a0 = some r) : VC Try.prog 11 [VV.ag (Qe a0)] (VV.fw 2 (flatMap Xt r) r.length) := by
 unfold Xd at h
 obtain ⟨r1118, h1117, h⟩ := bs h
 have hph1117 := Y4 k a0 _ _ _ _ h1117
 have e1119 := (an (ti tt) (VRun.loop hph1117))
 injection h with h; subst h
 exact Qq pm pn Try.func11 (r0 := VV.fw 2 (List.drop 0 (List.map unfr (flatMap Xt r1118))) r1118.length) (ans := [.reg (.n :: .n :: []), .reg (.n :: []), .reg (.n :: []), .sub ⟨[(1, none), (3, none), (4, none)], [none], [.t 3 2]⟩ (.exit 0) (Xk a0 r1118), .reg (.n :: .n :: [])]) (fr := true) (by kernel_rfl) (an (an (t2 tt) (an (ti tt) (an (an (ti tt) e1119) (an (t2 tt) tt)))) (an (show List.all (flatMap Xt r1118) new0 = true from (by exact Qhn _)) tt)) (Wv.of_eq (Qum r1118))
end Go.Proofs.Ytenebnfhhhcfaaa.Vg

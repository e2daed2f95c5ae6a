/- Written by a program out of the program: what Go functions do, as plain functions, and their contracts. -/
import Derived.Test.YtpaclgmigndilaaWa
namespace Go.Proofs.Ytpaclgmigndilaa.Vg
set_option maxRecDepth 100000
set_option maxHeartbeats 4000000
set_option linter.unusedVariables false
set_option linter.unusedSimpArgs false
open Go Go.Proofs.Ytpaclgmigndilaa.Ev Go.Proofs.Ytpaclgmigndilaa.Vv
structure SRange where
  Lo : Int
  Hi : Int
  deriving Inhabited
def c_SRange (x : SRange) : List VV := [vi x.Lo, vi x.Hi]
theorem len_c_SRange (x : SRange) : (c_SRange x).length = 2 := rfl
theorem still_c_SRange (xs : List SRange) : (xs.flatMap c_SRange).all VV.still = true := all_flat (fun _ => rfl) xs
theorem isC_c_SRange (xs : List SRange) : (xs.flatMap c_SRange).all VV.isC = true := all_flat (fun _ => rfl) xs
theorem new0_c_SRange (xs : List SRange) : (xs.flatMap c_SRange).all new0 = true := all_flat (fun _ => rfl) xs
theorem unfr_c_SRange (xs : List SRange) : (xs.flatMap c_SRange).map unfr = xs.flatMap c_SRange := unfr_flat (fun _ => rfl) xs
theorem ag3 : isAggT Go.Proofs.Try.prog 3 = some false := by kernel_rfl
theorem ag26 : isAggT Go.Proofs.Try.prog 26 = some true := by kernel_rfl
theorem sz26 : szOf Go.Proofs.Try.prog 26 = some 2 := by kernel_rfl
theorem eqok26 : EqOK Go.Proofs.Try.prog 26 [some (.i .i64), some (.i .i64)] := eqOK_of (by kernel_rfl) (by kernel_rfl) (eqT_struct Go.Proofs.Try.underlying26 (by kernel_rfl) (by kernel_rfl) (by kernel_rfl) (.cons (by decide +kernel) rfl (eqT_int Go.Proofs.Try.underlying3 (by kernel_rfl) (by kernel_rfl)) (.cons (by decide +kernel) rfl (eqT_int Go.Proofs.Try.underlying3 (by kernel_rfl) (by kernel_rfl)) .nil)))
def nawake (k : Nat) : Option Bool := some true
theorem nawake_ok (k : Nat) (r : Bool) (h : nawake k = some r) : VC Go.Proofs.Try.prog 11 [] (vb r) := by
  injection h with h; subst h
  exact vc_awake
def nspeculumbase_CopyRanges (k : Nat) (a0 : (List SRange)) : Option (List SRange) :=
  if ([] : List SRange).length + a0.length ≤ 1000000000 then (some (([] : List SRange) ++ a0)) else none
theorem nspeculumbase_CopyRanges_ok (k : Nat) (a0 : (List SRange)) (r : (List SRange)) (h : nspeculumbase_CopyRanges k a0 = some r) : VC Go.Proofs.Try.prog 13 [VV.tr (List.flatMap c_SRange a0) a0.length] (VV.fw 2 (List.flatMap c_SRange r) r.length) := by
 unfold nspeculumbase_CopyRanges at h
 obtain ⟨h11, h⟩ := ifn h
 have e12 := (show List.length [] = 0 * 2 ∧ List.length (List.flatMap c_SRange a0) = a0.length * 2 ∧ (0 + a0.length) * 16 ≤ 140737488355328 ∧ 0 + a0.length < 1099511627776 ∧ List.all (List.flatMap c_SRange a0) VV.still = true from ⟨(by rw [show [] = List.flatMap c_SRange ([] : List SRange) from rfl]; rw [flatMap_len len_c_SRange] <;> simp), (by rw [flatMap_len len_c_SRange] <;> simp), (by first | omega | (simp at h11 ⊢; omega)), (by first | omega | (simp at h11 ⊢; omega)), (by exact still_c_SRange _)⟩)
 injection h with h; subst h
 exact fun_ok pm pn Go.Proofs.Try.func13 (r0 := VV.fw 2 (List.drop 0 (List.map unfr ([] ++ (List.flatMap c_SRange a0)))) (0 + a0.length)) (ans := [.reg (.n :: []), .reg (nN 4 [])]) (fr := true) (by kernel_rfl) (an (an (ti trivial) (an (ti (ti (an e12 (ti trivial)))) trivial)) (an (show List.all ([] ++ (List.flatMap c_SRange a0)) new0 = true from (by rw [show [] ++ (List.flatMap c_SRange a0) = List.flatMap c_SRange (([] : List SRange) ++ a0) from (by rw [show [] = List.flatMap c_SRange ([] : List SRange) from rfl]; exact List.flatMap_append.symm)]; exact new0_c_SRange _)) trivial)) (Wv.of_eq (by simp only [show [] ++ (List.flatMap c_SRange a0) = List.flatMap c_SRange (([] : List SRange) ++ a0) from (by rw [show [] = List.flatMap c_SRange ([] : List SRange) from rfl]; exact List.flatMap_append.symm), drop0, unfr_vi, unfr_vb, unfr_vs, List.map_cons, List.map_nil, un_i, un_k, un_b, un_s, un_tr, un_fr, List.length_map, List.length_replicate, List.length_append, List.length_set, List.length_cons, List.length_nil, unfr_c_SRange]))
def nsupport_areWithin_l0_0_h (a0 : Int) (a1 : Int) (a2 : (List Int)) (x11 : Int) : VS := ⟨mkA [(0, vi a0), (1, vi a1), (9, VV.tr (List.map vi a2) a2.length), (10, vi (a2.length : Int)), (11, vi x11)], [], .nil⟩
def nsupport_areWithin_l0_0_e0 (a0 : Int) (a1 : Int) (a2 : (List Int)) (r : Unit) : VS := ⟨mkA [(6, vb false)], [], .nil⟩
def nsupport_areWithin_l0_0_e1 (a0 : Int) (a1 : Int) (a2 : (List Int)) (r : Unit) : VS := ⟨mkA [], [], .nil⟩
def nsupport_areWithin_l0_0 (k : Nat) (a0 : Int) (a1 : Int) (a2 : (List Int)) : Nat → Int → Option (Sum Unit Unit)
  | 0, _ => none
  | fuel + 1, x11 => if x11 < (a2.length : Int) then (if 0 ≤ x11 ∧ x11 < (a2.length : Int) then (if (a2.getD x11.toNat 0) < a0 then (some (.inl ())) else (if a1 < (a2.getD x11.toNat 0) then (some (.inl ())) else (nsupport_areWithin_l0_0 k a0 a1 a2 fuel (w64 (x11 + 1))))) else none) else (some (.inr ()))
theorem nsupport_areWithin_l0_0_ok (k : Nat) (a0 : Int) (a1 : Int) (a2 : (List Int)) : ∀ (fuel : Nat) (x11 : Int) (r : Sum Unit Unit), nsupport_areWithin_l0_0 k a0 a1 a2 fuel x11 = some r → (match r with | .inl r => VLoop none Go.Proofs.Try.prog (szF Go.Proofs.Try.f59) (bodyOf Go.Proofs.Try.f59 0) (nsupport_areWithin_l0_0_h a0 a1 a2 x11) .ret (nsupport_areWithin_l0_0_e0 a0 a1 a2 r) | .inr r => VLoop none Go.Proofs.Try.prog (szF Go.Proofs.Try.f59) (bodyOf Go.Proofs.Try.f59 0) (nsupport_areWithin_l0_0_h a0 a1 a2 x11) (.exit 0) (nsupport_areWithin_l0_0_e1 a0 a1 a2 r)) := by
 intro fuel
 induction fuel with
 | zero => intro x11 r h; rw [nsupport_areWithin_l0_0.eq_1] at h; cases h
 | succ fuel ih =>
  intro x11 r h
  rw [nsupport_areWithin_l0_0.eq_2] at h
  rcases ifs h with ⟨h57, h⟩ | ⟨h57, h⟩
  ·obtain ⟨h58, h⟩ := ifn h
   have e59 := (show loadL Go.Proofs.Try.prog 3 (x11.toNat * 1) (List.map vi a2) = some (vi (a2.getD x11.toNat 0)) from ld_map ag3 vi a2 0 h58 (by omega))
   rcases ifs h with ⟨h60, h⟩ | ⟨h60, h⟩
   ·have e61 := (ti (ti (ti (ti (an (decide_eq_true h60) (an (decide_eq_true h60) (an (decide_eq_true h60) (an (decide_eq_true h60) trivial))))))))
    injection h with h; subst h
    exact round_stop (c := ⟨[(6, none)], [], []⟩) (s1 := (nsupport_areWithin_l0_0_e0 a0 a1 a2 ())) pm pn (ans := [.reg (.n :: []), .br true, .reg (.n :: .v (vi (a2.getD x11.toNat 0)) :: .n :: []), .reg (nN 4 (nS 3 (.b true :: []))), .br true, .reg (.n :: [])]) (by kernel_rfl) (by intro e; cases e) (an (an (ti trivial) (an (an (decide_eq_true h57) trivial) (an (an h58 (an e59 (ti trivial))) (an e61 (an rt (an (ti trivial) trivial)))))) (ti trivial))
   ·have e62 := (ti (ti (ti (ti (an (an (decide_eq_false h60) trivial) (an (an (decide_eq_false h60) trivial) (an (an (decide_eq_false h60) trivial) (an (decide_eq_false h60) trivial))))))))
    rcases ifs h with ⟨h63, h⟩ | ⟨h63, h⟩
    ·injection h with h; subst h
     exact round_stop (c := ⟨[(6, none)], [], []⟩) (s1 := (nsupport_areWithin_l0_0_e0 a0 a1 a2 ())) pm pn (ans := [.reg (.n :: []), .br true, .reg (.n :: .v (vi (a2.getD x11.toNat 0)) :: .n :: []), .reg (nN 7 (.b false :: [])), .br true, .reg (.n :: [])]) (by kernel_rfl) (by intro e; cases e) (an (an (ti trivial) (an (an (decide_eq_true h57) trivial) (an (an h58 (an e59 (ti trivial))) (an e62 (an (decide_eq_true h63) (an (ti trivial) trivial)))))) (ti trivial))
    ·have h2 := ih _ _ h
     obtain ⟨q, hv, hq⟩ := pkR (rd := none) (P := Go.Proofs.Try.prog) (fn := Go.Proofs.Try.f59) (k := 0) (s := (nsupport_areWithin_l0_0_h a0 a1 a2 x11)) (ans := [.reg (.n :: []), .br true, .reg (.n :: .v (vi (a2.getD x11.toNat 0)) :: .n :: []), .reg (nN 7 (.b false :: [])), .br false, .reg (.n :: .n :: [])]) (c := ⟨[(0, none), (1, none), (9, none), (10, none), (11, none)], [], []⟩) (e := .normal) (s1 := (nsupport_areWithin_l0_0_h a0 a1 a2 (w64 (x11 + 1)))) (an (an (ti trivial) (an (an (decide_eq_true h57) trivial) (an (an (an h58 (an e59 (ti trivial))) (an e62 (an (decide_eq_false h63) trivial))) (ti (ti trivial))))) (ti trivial)) (by kernel_rfl)
     cases r with
     | inl r => exact round_next pm pn hv hq h2
     | inr r =>
      exact round_next pm pn hv hq h2
  ·injection h with h; subst h
   exact round_stop (c := ⟨[], [], []⟩) (s1 := (nsupport_areWithin_l0_0_e1 a0 a1 a2 ())) pm pn (ans := [.reg (.n :: []), .br false]) (by kernel_rfl) (by intro e; cases e) (an (an (ti trivial) (an (decide_eq_false h57) trivial)) (ti trivial))
def nsupport_areWithin (k : Nat) (a0 : Int) (a1 : Int) (a2 : (List Int)) : Option Bool :=
  (nsupport_areWithin_l0_0 k a0 a1 a2 k 0).bind fun r65 => (match r65 with | .inl r66 => (some false) | .inr r67 => (some true))
theorem nsupport_areWithin_ok (k : Nat) (a0 : Int) (a1 : Int) (a2 : (List Int)) (r : Bool) (h : nsupport_areWithin k a0 a1 a2 = some r) : VC Go.Proofs.Try.prog 59 [vi a0, vi a1, VV.tr (List.map vi a2) a2.length] (vb r) := by
 unfold nsupport_areWithin at h
 obtain ⟨r65, h64, h⟩ := bs h
 have hph64 := nsupport_areWithin_l0_0_ok k a0 a1 a2 _ _ _ h64
 cases r65 with
 | inl r66 =>
  dsimp only at h
  have e68 := (an (ti trivial) (VRun.loop hph64))
  injection h with h; subst h
  exact fun_ok pm pn Go.Proofs.Try.func59 (r0 := vb false) (ans := [.reg (.n :: []), .reg (nN 3 []), .sub ⟨[(0, none), (1, none), (9, none), (10, none), (11, none)], [], []⟩ .ret (nsupport_areWithin_l0_0_e0 a0 a1 a2 r66)]) (fr := true) (by kernel_rfl) (an (an (ti trivial) (an (ti (ti (ti trivial))) e68)) (ti trivial)) (Wv.refl _)
 | inr r67 =>
  dsimp only at h
  have e69 := (an (ti trivial) (VRun.loop hph64))
  injection h with h; subst h
  exact fun_ok pm pn Go.Proofs.Try.func59 (r0 := vb true) (ans := [.reg (.n :: []), .reg (nN 3 []), .sub ⟨[(0, none), (1, none), (9, none), (10, none), (11, none)], [], []⟩ (.exit 0) (nsupport_areWithin_l0_0_e1 a0 a1 a2 r67), .reg (.n :: [])]) (fr := true) (by kernel_rfl) (an (an (ti trivial) (an (an (ti (ti (ti trivial))) e69) (an (ti trivial) trivial))) (ti trivial)) (Wv.refl _)
theorem eqCA_0 (z0 : (List SRange)) : [vi 1, vi 40, VV.tr (List.map vi ([(z0.length : Int)] : List Int)) (([(z0.length : Int)] : List Int).length)] = [vi 1, vi 40, VV.tr (List.drop 0 (List.map unfr [vi (z0.length : Int)])) 1] := by first | rfl | (simp only [drop0, unfr_vi, List.map_cons, List.map_nil, un_i, un_tr, List.length_map, List.length_cons, List.length_nil]; done) | (simp only [drop0, unfr_vi, List.map_cons, List.map_nil, un_i, un_tr, List.length_map, List.length_cons, List.length_nil]; rfl) | (simp only [drop0, unfr_vi, List.map_cons, List.map_nil, un_i, un_tr, List.length_map, List.length_cons, List.length_nil, List.length_cons, List.length_nil, List.length_append]; done)
def nnumber_size (k : Nat) (a0 : Int) : Option Int :=
  if a0 < 0 then (some (IntKind.u64.wrap (0 - (IntKind.u64.wrap a0)))) else (some (IntKind.u64.wrap a0))
theorem nnumber_size_ok (k : Nat) (a0 : Int) (r : Int) (h : nnumber_size k a0 = some r) : VC Go.Proofs.Try.prog 99 [vi a0] (VV.c (.int .u64 r)) := by
 unfold nnumber_size at h
 rcases ifs h with ⟨h78, h⟩ | ⟨h78, h⟩
 ·injection h with h; subst h
  exact fun_ok pm pn Go.Proofs.Try.func99 (r0 := VV.c (.int .u64 (IntKind.u64.wrap (0 - (IntKind.u64.wrap a0))))) (ans := [.reg (.n :: []), .reg (.n :: .n :: []), .br true, .reg (nN 4 [])]) (fr := true) (by kernel_rfl) (an (an (ti trivial) (an (ti (ti trivial)) (an (decide_eq_true h78) (an (ti (ti (ti (ti trivial)))) trivial)))) (ti trivial)) (Wv.refl _)
 ·injection h with h; subst h
  exact fun_ok pm pn Go.Proofs.Try.func99 (r0 := VV.c (.int .u64 (IntKind.u64.wrap a0))) (ans := [.reg (.n :: []), .reg (.n :: .n :: []), .br false, .reg (nN 3 [])]) (fr := true) (by kernel_rfl) (an (an (ti trivial) (an (an (ti (ti trivial)) (an (decide_eq_false h78) trivial)) (an (ti (ti (ti trivial))) trivial))) (ti trivial)) (Wv.refl _)
def arCA_0 (z0 : Int) (z1 : Int) : List Ans := (.n :: .n :: .call (VV.c (.int .u64 z0)) :: nN 4 (.call (VV.c (.int .u64 z1)) :: .n :: .b false :: []))
def nnumber_CheckRange (k : Nat) (a0 : SRange) : Option Int :=
  (nnumber_size k a0.Lo).bind fun r89 => (if 1000000000000000 < r89 then (some 2) else ((nnumber_size k a0.Hi).bind fun r93 => (if 1000000000000000 < r93 then (some 2) else (if a0.Hi < a0.Lo then (some 9) else (some 0)))))
theorem nnumber_CheckRange_ok (k : Nat) (a0 : SRange) (r : Int) (h : nnumber_CheckRange k a0 = some r) : VC Go.Proofs.Try.prog 60 [VV.ag (c_SRange a0)] (vi r) := by
 unfold nnumber_CheckRange at h
 obtain ⟨r89, h90, h⟩ := bs h
 rcases ifs h with ⟨h91, h⟩ | ⟨h91, h⟩
 ·have e92 := (ti (ti (an (nnumber_size_ok k a0.Lo _ h90) (ti (ti (an (decide_eq_true h91) (an (decide_eq_true h91) (an (decide_eq_true h91) (an (decide_eq_true h91) (an (decide_eq_true h91) trivial))))))))))
  injection h with h; subst h
  exact fun_ok pm pn Go.Proofs.Try.func60 (r0 := vi 2) (ans := [.reg (.n :: .n :: []), .reg (.n :: .n :: .call (VV.c (.int .u64 r89)) :: .n :: .n :: nS 4 (.b true :: [])), .br true, .reg (.n :: [])]) (fr := true) (by kernel_rfl) (an (an (ti (ti trivial)) (an e92 (an rt (an (ti trivial) trivial)))) (ti trivial)) (Wv.refl _)
 ·obtain ⟨r93, h94, h⟩ := bs h
  have e95 := (an (decide_eq_false h91) (nnumber_size_ok k a0.Hi _ h94))
  have e96 := (ti (ti (an (nnumber_size_ok k a0.Lo _ h90) (ti (ti (an (an (decide_eq_false h91) trivial) (an (an (decide_eq_false h91) trivial) (an e95 (an (an (decide_eq_false h91) trivial) (an (decide_eq_false h91) trivial))))))))))
  rcases ifs h with ⟨h97, h⟩ | ⟨h97, h⟩
  ·injection h with h; subst h
   exact fun_ok pm pn Go.Proofs.Try.func60 (r0 := vi 2) (ans := [.reg (.n :: .n :: []), .reg (arCA_0 r89 r93), .br true, .reg (.n :: [])]) (fr := true) (by kernel_rfl) (an (an (ti (ti trivial)) (an e96 (an (decide_eq_true h97) (an (ti trivial) trivial)))) (ti trivial)) (Wv.refl _)
  ·rcases ifs h with ⟨h98, h⟩ | ⟨h98, h⟩
   ·injection h with h; subst h
    exact fun_ok pm pn Go.Proofs.Try.func60 (r0 := vi 9) (ans := [.reg (.n :: .n :: []), .reg (arCA_0 r89 r93), .br false, .reg (nN 5 []), .br true, .reg (.n :: [])]) (fr := true) (by kernel_rfl) (an (an (ti (ti trivial)) (an (an e96 (an (decide_eq_false h97) trivial)) (an (ti (ti (ti (ti (ti trivial))))) (an (decide_eq_true h98) (an (ti trivial) trivial))))) (ti trivial)) (Wv.refl _)
   ·injection h with h; subst h
    exact fun_ok pm pn Go.Proofs.Try.func60 (r0 := vi 0) (ans := [.reg (.n :: .n :: []), .reg (arCA_0 r89 r93), .br false, .reg (nN 5 []), .br false, .reg (.n :: [])]) (fr := true) (by kernel_rfl) (an (an (ti (ti trivial)) (an (an e96 (an (decide_eq_false h97) trivial)) (an (an (ti (ti (ti (ti (ti trivial))))) (an (decide_eq_false h98) trivial)) (an (ti trivial) trivial)))) (ti trivial)) (Wv.refl _)
theorem eqCA_1 (z0 : Int × Int) : [VV.ag (c_SRange (⟨z0.1, z0.2⟩ : SRange))] = [VV.ag [vi z0.1, vi z0.2]] := by first | rfl | (simp only [unfr_vi, List.map_cons, List.map_nil, un_i, unfr_c_SRange]; done) | (simp only [unfr_vi, List.map_cons, List.map_nil, un_i, unfr_c_SRange]; rfl) | (simp only [unfr_vi, List.map_cons, List.map_nil, un_i, unfr_c_SRange, c_SRange, List.length_cons, List.length_nil, List.length_append]; done)
def nsupport_PeakToValley_l0_0_h (a0 : (List SRange)) (x20 : Int) : VS := ⟨mkA [(0, VV.tr (List.flatMap c_SRange a0) a0.length), (2, VV.pt 0 0), (18, VV.tr (List.flatMap c_SRange a0) a0.length), (19, vi (a0.length : Int)), (20, vi x20)], [some ⟨true, 1, [vi 0, vi 0]⟩], .nil⟩
def nsupport_PeakToValley_l0_0_e0 (a0 : (List SRange)) (r : Int) : VS := ⟨mkA [(2, VV.pt 0 0), (3, vi r)], [some ⟨true, 1, [vi 0, vi 0]⟩], .nil⟩
def nsupport_PeakToValley_l0_0_e1 (a0 : (List SRange)) (r : Unit) : VS := ⟨mkA [(0, VV.tr (List.flatMap c_SRange a0) a0.length), (2, VV.pt 0 0)], [some ⟨true, 1, [vi 0, vi 0]⟩], .nil⟩
def nsupport_PeakToValley_l0_0 (k : Nat) (a0 : (List SRange)) : Nat → Int → Option (Sum Int Unit)
  | 0, _ => none
  | fuel + 1, x20 => if x20 < (a0.length : Int) then (if 0 ≤ x20 ∧ x20 < (a0.length : Int) then ((nnumber_CheckRange k (a0.getD x20.toNat default)).bind fun r226 => (if r226 = 0 then (nsupport_PeakToValley_l0_0 k a0 fuel (w64 (x20 + 1))) else (some (.inl r226)))) else none) else (some (.inr ()))
theorem nsupport_PeakToValley_l0_0_ok (k : Nat) (a0 : (List SRange)) : ∀ (fuel : Nat) (x20 : Int) (r : Sum Int Unit), nsupport_PeakToValley_l0_0 k a0 fuel x20 = some r → (match r with | .inl r => VLoop none Go.Proofs.Try.prog (szF Go.Proofs.Try.f12) (bodyOf Go.Proofs.Try.f12 0) (nsupport_PeakToValley_l0_0_h a0 x20) .ret (nsupport_PeakToValley_l0_0_e0 a0 r) | .inr r => VLoop none Go.Proofs.Try.prog (szF Go.Proofs.Try.f12) (bodyOf Go.Proofs.Try.f12 0) (nsupport_PeakToValley_l0_0_h a0 x20) (.exit 0) (nsupport_PeakToValley_l0_0_e1 a0 r)) := by
 intro fuel
 induction fuel with
 | zero => intro x20 r h; rw [nsupport_PeakToValley_l0_0.eq_1] at h; cases h
 | succ fuel ih =>
  intro x20 r h
  rw [nsupport_PeakToValley_l0_0.eq_2] at h
  rcases ifs h with ⟨h223, h⟩ | ⟨h223, h⟩
  ·obtain ⟨h224, h⟩ := ifn h
   have e225 := (show loadL Go.Proofs.Try.prog 26 (x20.toNat * 2) (List.flatMap c_SRange a0) = some (VV.ag (c_SRange (a0.getD x20.toNat default))) from ld_whole ag26 c_SRange 2 sz26 len_c_SRange a0 default h224 (by omega))
   obtain ⟨r226, h227, h⟩ := bs h
   have e228 := (nnumber_CheckRange_ok k (a0.getD x20.toNat default) _ h227)
   rcases ifs h with ⟨h229, h⟩ | ⟨h229, h⟩
   ·have h2 := ih _ _ h
    obtain ⟨q, hv, hq⟩ := pkR (rd := none) (P := Go.Proofs.Try.prog) (fn := Go.Proofs.Try.f12) (k := 0) (s := (nsupport_PeakToValley_l0_0_h a0 x20)) (ans := [.reg (.n :: []), .br true, .reg (.n :: .v (VV.ag (c_SRange (a0.getD x20.toNat default))) :: .n :: .n :: []), .reg (.n :: .call (vi r226) :: .n :: []), .reg (.n :: .n :: []), .br false, .reg (.n :: .n :: [])]) (c := ⟨[(0, none), (2, none), (18, none), (19, none), (20, none)], [none], []⟩) (e := .normal) (s1 := (nsupport_PeakToValley_l0_0_h a0 (w64 (x20 + 1)))) (an (an (ti trivial) (an (an (decide_eq_true h223) trivial) (an (an (an h224 (an e225 (ti (ti trivial)))) (an (ti (an e228 (ti trivial))) (an (ti (ti trivial)) (an (not_f (decide_eq_true h229)) trivial)))) (ti (ti trivial))))) (ti trivial)) (by kernel_rfl)
    cases r with
    | inl r => exact round_next pm pn hv hq h2
    | inr r =>
     exact round_next pm pn hv hq h2
   ·injection h with h; subst h
    exact round_stop (c := ⟨[(2, none), (3, none)], [none], []⟩) (s1 := (nsupport_PeakToValley_l0_0_e0 a0 r226)) pm pn (ans := [.reg (.n :: []), .br true, .reg (.n :: .v (VV.ag (c_SRange (a0.getD x20.toNat default))) :: .n :: .n :: []), .reg (.n :: .call (vi r226) :: .n :: []), .reg (.n :: .n :: []), .br true, .reg (nN 4 [])]) (by kernel_rfl) (by intro e; cases e) (an (an (ti trivial) (an (an (decide_eq_true h223) trivial) (an (an h224 (an e225 (ti (ti trivial)))) (an (ti (an e228 (ti trivial))) (an (ti (ti trivial)) (an (not_t (decide_eq_false h229)) (an (ti (ti (ti (ti trivial)))) trivial))))))) (ti trivial))
  ·injection h with h; subst h
   exact round_stop (c := ⟨[(0, none), (2, none)], [none], []⟩) (s1 := (nsupport_PeakToValley_l0_0_e1 a0 ())) pm pn (ans := [.reg (.n :: []), .br false]) (by kernel_rfl) (by intro e; cases e) (an (an (ti trivial) (an (decide_eq_false h223) trivial)) (ti trivial))
theorem eqCA_2 (z0 : Int) : VV.tu [VV.ag [vi 0, vi 0], vi z0] = VV.tu [VV.ag (c_SRange (⟨0, 0⟩ : SRange)), vi z0] := by first | rfl | (simp only [unfr_vi, List.map_cons, List.map_nil, un_i, unfr_c_SRange]; done) | (simp only [unfr_vi, List.map_cons, List.map_nil, un_i, unfr_c_SRange]; rfl) | (simp only [unfr_vi, List.map_cons, List.map_nil, un_i, unfr_c_SRange, c_SRange, List.length_cons, List.length_nil, List.length_append]; done)
def nsupport_PeakToValley_l2_0_h (a0 : (List SRange)) (x33 : Int) (b1_0z : Int) (b1_1z : Int) (x40 : Int) : VS := ⟨mkA [(0, VV.tr (List.flatMap c_SRange a0) a0.length), (2, VV.pt 0 0), (7, VV.pt 1 0), (8, vi x33), (9, VV.pt 2 0), (31, VV.tr (List.flatMap c_SRange a0) a0.length), (32, vi (a0.length : Int)), (33, vi x33), (38, VV.tr (List.flatMap c_SRange a0) a0.length), (39, vi (a0.length : Int)), (40, vi x40)], [some ⟨true, 1, [vi 0, vi 0]⟩, some ⟨true, 1, [vi b1_0z, vi b1_1z]⟩, some ⟨true, 1, c_SRange (a0.getD x33.toNat default)⟩], .nil⟩
def nsupport_PeakToValley_l2_0_e0 (a0 : (List SRange)) (x33 : Int) (r : Int × Int) : VS := ⟨mkA [(0, VV.tr (List.flatMap c_SRange a0) a0.length), (2, VV.pt 0 0), (7, VV.pt 1 0), (31, VV.tr (List.flatMap c_SRange a0) a0.length), (32, vi (a0.length : Int)), (33, vi x33)], [some ⟨true, 1, [vi 0, vi 0]⟩, some ⟨true, 1, [vi r.1, vi r.2]⟩], .nil⟩
def nsupport_PeakToValley_l2_0 (k : Nat) (a0 : (List SRange)) (x33 : Int) : Nat → Int → Int → Int → Option (Int × Int)
  | 0, _, _, _ => none
  | fuel + 1, b1_0z, b1_1z, x40 => if x40 < (a0.length : Int) then (if 0 ≤ x40 ∧ x40 < (a0.length : Int) then (if x33 = x40 then (nsupport_PeakToValley_l2_0 k a0 x33 fuel b1_0z b1_1z (w64 (x40 + 1))) else (nsupport_PeakToValley_l2_0 k a0 x33 fuel (maxI b1_0z (w64 (((a0.getD x33.toNat default).Lo) - ((a0.getD x40.toNat default).Hi)))) (maxI b1_1z (w64 (((a0.getD x33.toNat default).Hi) - ((a0.getD x40.toNat default).Lo)))) (w64 (x40 + 1)))) else none) else (some (b1_0z, b1_1z))
theorem nsupport_PeakToValley_l2_0_ok (k : Nat) (a0 : (List SRange)) (x33 : Int) : ∀ (fuel : Nat) (b1_0z : Int) (b1_1z : Int) (x40 : Int) (r : Int × Int), nsupport_PeakToValley_l2_0 k a0 x33 fuel b1_0z b1_1z x40 = some r → (VLoop none Go.Proofs.Try.prog (szF Go.Proofs.Try.f12) (bodyOf Go.Proofs.Try.f12 2) (nsupport_PeakToValley_l2_0_h a0 x33 b1_0z b1_1z x40) (.exit 4) (nsupport_PeakToValley_l2_0_e0 a0 x33 r)) := by
 intro fuel
 induction fuel with
 | zero => intro b1_0z b1_1z x40 r h; rw [nsupport_PeakToValley_l2_0.eq_1] at h; cases h
 | succ fuel ih =>
  intro b1_0z b1_1z x40 r h
  rw [nsupport_PeakToValley_l2_0.eq_2] at h
  rcases ifs h with ⟨h302, h⟩ | ⟨h302, h⟩
  ·obtain ⟨h303, h⟩ := ifn h
   have e304 := (show loadL Go.Proofs.Try.prog 26 (x40.toNat * 2) (List.flatMap c_SRange a0) = some (VV.ag (c_SRange (a0.getD x40.toNat default))) from ld_whole ag26 c_SRange 2 sz26 len_c_SRange a0 default h303 (by omega))
   rcases ifs h with ⟨h305, h⟩ | ⟨h305, h⟩
   ·have h2 := ih _ _ _ _ h
    obtain ⟨q, hv, hq⟩ := pkR (rd := none) (P := Go.Proofs.Try.prog) (fn := Go.Proofs.Try.f12) (k := 2) (s := (nsupport_PeakToValley_l2_0_h a0 x33 b1_0z b1_1z x40)) (ans := [.reg (.n :: []), .br true, .reg (.n :: .n :: .v (VV.ag (c_SRange (a0.getD x40.toNat default))) :: nN 3 []), .reg (nN 3 []), .br false, .reg (.n :: .n :: [])]) (c := ⟨[(0, none), (2, none), (7, none), (8, none), (9, none), (31, none), (32, none), (33, none), (38, none), (39, none), (40, none)], [none, none, none], []⟩) (e := .normal) (s1 := (nsupport_PeakToValley_l2_0_h a0 x33 b1_0z b1_1z (w64 (x40 + 1)))) (an (an (ti trivial) (an (an (decide_eq_true h302) trivial) (an (an (ti (an h303 (an e304 (ti (ti (ti trivial)))))) (an (ti (ti (ti trivial))) (an (not_f (decide_eq_true h305)) trivial))) (ti (ti trivial))))) (ti trivial)) (by kernel_rfl)
    exact round_next pm pn hv hq h2
   ·have e306 := (ti (ti (ti (ti (ti (ti (ti (ti (ti (ti trivial))))))))))
    have e307 := (ti (ti (ti (ti (ti (ti (ti (ti (ti (ti trivial))))))))))
    have h2 := ih _ _ _ _ h
    obtain ⟨q, hv, hq⟩ := pkR (rd := none) (P := Go.Proofs.Try.prog) (fn := Go.Proofs.Try.f12) (k := 2) (s := (nsupport_PeakToValley_l2_0_h a0 x33 b1_0z b1_1z x40)) (ans := [.reg (.n :: []), .br true, .reg (.n :: .n :: .v (VV.ag (c_SRange (a0.getD x40.toNat default))) :: nN 3 []), .reg (nN 3 []), .br true, .reg (nN 10 []), .reg (nN 10 []), .reg (.n :: .n :: [])]) (c := ⟨[(0, none), (2, none), (7, none), (8, none), (9, none), (31, none), (32, none), (33, none), (38, none), (39, none), (40, none)], [none, none, none], []⟩) (e := .normal) (s1 := (nsupport_PeakToValley_l2_0_h a0 x33 (maxI b1_0z (w64 (((a0.getD x33.toNat default).Lo) - ((a0.getD x40.toNat default).Hi)))) (maxI b1_1z (w64 (((a0.getD x33.toNat default).Hi) - ((a0.getD x40.toNat default).Lo)))) (w64 (x40 + 1)))) (an (an (ti trivial) (an (an (decide_eq_true h302) trivial) (an (an (ti (an h303 (an e304 (ti (ti (ti trivial)))))) (an (ti (ti (ti trivial))) (an (not_t (decide_eq_false h305)) (an e306 e307)))) (ti (ti trivial))))) (ti trivial)) (by kernel_rfl)
    exact round_next pm pn hv hq h2
  ·injection h with h; subst h
   exact round_stop (c := ⟨[(0, none), (2, none), (7, none), (31, none), (32, none), (33, none)], [none, none], []⟩) (s1 := (nsupport_PeakToValley_l2_0_e0 a0 x33 (b1_0z, b1_1z))) pm pn (ans := [.reg (.n :: []), .br false]) (by kernel_rfl) (by intro e; cases e) (an (an (ti trivial) (an (decide_eq_false h302) trivial)) (ti trivial))
def nsupport_PeakToValley_l1_0_h (a0 : (List SRange)) (b1_0 : Int) (b1_1 : Int) (x33 : Int) : VS := ⟨mkA [(0, VV.tr (List.flatMap c_SRange a0) a0.length), (2, VV.pt 0 0), (7, VV.pt 1 0), (31, VV.tr (List.flatMap c_SRange a0) a0.length), (32, vi (a0.length : Int)), (33, vi x33)], [some ⟨true, 1, [vi 0, vi 0]⟩, some ⟨true, 1, [vi b1_0, vi b1_1]⟩], .nil⟩
def nsupport_PeakToValley_l1_0_e0 (a0 : (List SRange)) (r : Int × Int) : VS := ⟨mkA [(2, VV.pt 0 0), (7, VV.pt 1 0)], [some ⟨true, 1, [vi 0, vi 0]⟩, some ⟨true, 1, [vi r.1, vi r.2]⟩], .nil⟩
def nsupport_PeakToValley_l1_0 (k : Nat) (a0 : (List SRange)) : Nat → Int → Int → Int → Option (Int × Int)
  | 0, _, _, _ => none
  | fuel + 1, b1_0, b1_1, x33 => if x33 < (a0.length : Int) then (if 0 ≤ x33 ∧ x33 < (a0.length : Int) then ((nsupport_PeakToValley_l2_0 k a0 x33 k b1_0 b1_1 0).bind fun r309 => (nsupport_PeakToValley_l1_0 k a0 fuel r309.1 r309.2 (w64 (x33 + 1)))) else none) else (some (b1_0, b1_1))
theorem nsupport_PeakToValley_l1_0_ok (k : Nat) (a0 : (List SRange)) : ∀ (fuel : Nat) (b1_0 : Int) (b1_1 : Int) (x33 : Int) (r : Int × Int), nsupport_PeakToValley_l1_0 k a0 fuel b1_0 b1_1 x33 = some r → (VLoop none Go.Proofs.Try.prog (szF Go.Proofs.Try.f12) (bodyOf Go.Proofs.Try.f12 1) (nsupport_PeakToValley_l1_0_h a0 b1_0 b1_1 x33) (.exit 2) (nsupport_PeakToValley_l1_0_e0 a0 r)) := by
 intro fuel
 induction fuel with
 | zero => intro b1_0 b1_1 x33 r h; rw [nsupport_PeakToValley_l1_0.eq_1] at h; cases h
 | succ fuel ih =>
  intro b1_0 b1_1 x33 r h
  rw [nsupport_PeakToValley_l1_0.eq_2] at h
  rcases ifs h with ⟨h287, h⟩ | ⟨h287, h⟩
  ·obtain ⟨h288, h⟩ := ifn h
   have e289 := (show loadL Go.Proofs.Try.prog 26 (x33.toNat * 2) (List.flatMap c_SRange a0) = some (VV.ag (c_SRange (a0.getD x33.toNat default))) from ld_whole ag26 c_SRange 2 sz26 len_c_SRange a0 default h288 (by omega))
   obtain ⟨r309, h308, h⟩ := bs h
   have hph308 := nsupport_PeakToValley_l2_0_ok k a0 x33 _ _ _ _ _ h308
   have e310 := (an (ti trivial) (VRun.loop hph308))
   have h2 := ih _ _ _ _ h
   obtain ⟨q, hv, hq⟩ := pkR (rd := none) (P := Go.Proofs.Try.prog) (fn := Go.Proofs.Try.f12) (k := 1) (s := (nsupport_PeakToValley_l1_0_h a0 b1_0 b1_1 x33)) (ans := [.reg (.n :: []), .br true, .reg (.n :: .n :: .v (VV.ag (c_SRange (a0.getD x33.toNat default))) :: nN 3 []), .reg (nN 3 []), .sub ⟨[(0, none), (2, none), (7, none), (8, none), (9, none), (31, none), (32, none), (33, none), (38, none), (39, none), (40, none)], [none, none, none], []⟩ (.exit 4) (nsupport_PeakToValley_l2_0_e0 a0 x33 r309), .reg (.n :: .n :: [])]) (c := ⟨[(0, none), (2, none), (7, none), (31, none), (32, none), (33, none)], [none, none], []⟩) (e := .normal) (s1 := (nsupport_PeakToValley_l1_0_h a0 r309.1 r309.2 (w64 (x33 + 1)))) (an (an (ti trivial) (an (an (decide_eq_true h287) trivial) (an (an (ti (an h288 (an e289 (ti (ti (ti trivial)))))) (an (ti (ti (ti trivial))) e310)) (ti (ti trivial))))) (ti trivial)) (by kernel_rfl)
   exact round_next pm pn hv hq h2
  ·injection h with h; subst h
   exact round_stop (c := ⟨[(2, none), (7, none)], [none, none], []⟩) (s1 := (nsupport_PeakToValley_l1_0_e0 a0 (b1_0, b1_1))) pm pn (ans := [.reg (.n :: []), .br false]) (by kernel_rfl) (by intro e; cases e) (an (an (ti trivial) (an (decide_eq_false h287) trivial)) (ti trivial))
theorem eqCA_3 (z0 : Int × Int) : VV.tu [VV.ag [vi z0.1, vi z0.2], vi 0] = VV.tu [VV.ag (c_SRange (⟨z0.1, z0.2⟩ : SRange)), vi 0] := by first | rfl | (simp only [unfr_vi, List.map_cons, List.map_nil, un_i, unfr_c_SRange]; done) | (simp only [unfr_vi, List.map_cons, List.map_nil, un_i, unfr_c_SRange]; rfl) | (simp only [unfr_vi, List.map_cons, List.map_nil, un_i, unfr_c_SRange, c_SRange, List.length_cons, List.length_nil, List.length_append]; done)
theorem eqCA_4  : VV.tu [VV.ag [vi 0, vi 0], vi 8] = VV.tu [VV.ag (c_SRange (⟨0, 0⟩ : SRange)), vi 8] := by first | rfl | (simp only [unfr_vi, List.map_cons, List.map_nil, un_i, unfr_c_SRange]; done) | (simp only [unfr_vi, List.map_cons, List.map_nil, un_i, unfr_c_SRange]; rfl) | (simp only [unfr_vi, List.map_cons, List.map_nil, un_i, unfr_c_SRange, c_SRange, List.length_cons, List.length_nil, List.length_append]; done)
theorem eqCA_5  : VV.tu [VV.ag [vi 0, vi 0], vi 10] = VV.tu [VV.ag (c_SRange (⟨0, 0⟩ : SRange)), vi 10] := by first | rfl | (simp only [unfr_vi, List.map_cons, List.map_nil, un_i, unfr_c_SRange]; done) | (simp only [unfr_vi, List.map_cons, List.map_nil, un_i, unfr_c_SRange]; rfl) | (simp only [unfr_vi, List.map_cons, List.map_nil, un_i, unfr_c_SRange, c_SRange, List.length_cons, List.length_nil, List.length_append]; done)
def nsupport_PeakToValley (k : Nat) (a0 : (List SRange)) : Option (SRange × Int) :=
  (nsupport_areWithin k 1 40 ([(a0.length : Int)] : List Int)).bind fun r205 => (if r205 = true then ((nsupport_PeakToValley_l0_0 k a0 k 0).bind fun r231 => (match r231 with | .inl r232 => (some ((⟨0, 0⟩ : SRange), r232)) | .inr r233 => ((nsupport_PeakToValley_l1_0 k a0 k 0 0 0).bind fun r312 => ((nnumber_CheckRange k (⟨r312.1, r312.2⟩ : SRange)).bind fun r314 => (if r314 = 0 then (some ((⟨r312.1, r312.2⟩ : SRange), 0)) else (some ((⟨0, 0⟩ : SRange), 8))))))) else (some ((⟨0, 0⟩ : SRange), 10)))
theorem nsupport_PeakToValley_ok (k : Nat) (a0 : (List SRange)) (r : (SRange × Int)) (h : nsupport_PeakToValley k a0 = some r) : VC Go.Proofs.Try.prog 12 [VV.tr (List.flatMap c_SRange a0) a0.length] (VV.tu [VV.ag (c_SRange r.1), vi r.2]) := by
 unfold nsupport_PeakToValley at h
 obtain ⟨r205, h206, h⟩ := bs h
 have e207 := (VC.args (nsupport_areWithin_ok k 1 40 ([(a0.length : Int)] : List Int) _ h206) (eqCA_0 a0))
 rcases ifs h with ⟨h208, h⟩ | ⟨h208, h⟩
 ·obtain ⟨r231, h230, h⟩ := bs h
  have hph230 := nsupport_PeakToValley_l0_0_ok k a0 _ _ _ h230
  cases r231 with
  | inl r232 =>
   dsimp only at h
   have e234 := (an (ti trivial) (VRun.loop hph230))
   injection h with h; subst h
   exact fun_ok pm pn Go.Proofs.Try.func12 (r0 := VV.tu [VV.ag [vi 0, vi 0], vi r232]) (ans := [.reg (.n :: .n :: []), .reg (nN 3 (.call (vb r205) :: .n :: [])), .br false, .reg (nN 3 []), .sub ⟨[(0, none), (2, none), (18, none), (19, none), (20, none)], [none], []⟩ .ret (nsupport_PeakToValley_l0_0_e0 a0 r232)]) (fr := true) (by kernel_rfl) (an (an (ti (ti trivial)) (an (an (ti (ti (ti (an e207 (ti trivial))))) (an (not_f h208) trivial)) (an (ti (ti (ti trivial))) e234))) (an (ti (ti (ti trivial))) (ti trivial))) (Wv.of_eq (eqCA_2 r232))
  | inr r233 =>
   dsimp only at h
   have e235 := (an (ti trivial) (VRun.loop hph230))
   obtain ⟨r312, h311, h⟩ := bs h
   have hph311 := nsupport_PeakToValley_l1_0_ok k a0 _ _ _ _ _ h311
   have e313 := (an (ti trivial) (VRun.loop hph311))
   obtain ⟨r314, h315, h⟩ := bs h
   have e316 := (VC.args (nnumber_CheckRange_ok k (⟨r312.1, r312.2⟩ : SRange) _ h315) (eqCA_1 r312))
   rcases ifs h with ⟨h317, h⟩ | ⟨h317, h⟩
   ·injection h with h; subst h
    exact fun_ok pm pn Go.Proofs.Try.func12 (r0 := VV.tu [VV.ag [vi r312.1, vi r312.2], vi 0]) (ans := [.reg (.n :: .n :: []), .reg (nN 3 (.call (vb r205) :: .n :: [])), .br false, .reg (nN 3 []), .sub ⟨[(0, none), (2, none), (18, none), (19, none), (20, none)], [none], []⟩ (.exit 0) (nsupport_PeakToValley_l0_0_e1 a0 r233), .reg (.n :: []), .reg (nN 3 []), .sub ⟨[(0, none), (2, none), (7, none), (31, none), (32, none), (33, none)], [none, none], []⟩ (.exit 2) (nsupport_PeakToValley_l1_0_e0 a0 r312), .reg (.n :: .call (vi r314) :: .n :: []), .br false, .reg (nN 3 [])]) (fr := true) (by kernel_rfl) (an (an (ti (ti trivial)) (an (an (ti (ti (ti (an e207 (ti trivial))))) (an (not_f h208) trivial)) (an (an (ti (ti (ti trivial))) e235) (an (ti trivial) (an (an (ti (ti (ti trivial))) e313) (an (an (ti (an e316 (ti trivial))) (an (not_f (decide_eq_true h317)) trivial)) (an (ti (ti (ti trivial))) trivial))))))) (an (ti (ti (ti trivial))) (ti trivial))) (Wv.of_eq (eqCA_3 r312))
   ·injection h with h; subst h
    exact fun_ok pm pn Go.Proofs.Try.func12 (r0 := VV.tu [VV.ag [vi 0, vi 0], vi 8]) (ans := [.reg (.n :: .n :: []), .reg (nN 3 (.call (vb r205) :: .n :: [])), .br false, .reg (nN 3 []), .sub ⟨[(0, none), (2, none), (18, none), (19, none), (20, none)], [none], []⟩ (.exit 0) (nsupport_PeakToValley_l0_0_e1 a0 r233), .reg (.n :: []), .reg (nN 3 []), .sub ⟨[(0, none), (2, none), (7, none), (31, none), (32, none), (33, none)], [none, none], []⟩ (.exit 2) (nsupport_PeakToValley_l1_0_e0 a0 r312), .reg (.n :: .call (vi r314) :: .n :: []), .br true, .reg (nN 3 [])]) (fr := true) (by kernel_rfl) (an (an (ti (ti trivial)) (an (an (ti (ti (ti (an e207 (ti trivial))))) (an (not_f h208) trivial)) (an (an (ti (ti (ti trivial))) e235) (an (ti trivial) (an (an (ti (ti (ti trivial))) e313) (an (ti (an e316 (ti trivial))) (an (not_t (decide_eq_false h317)) (an (ti (ti (ti trivial))) trivial)))))))) (an (ti (ti (ti trivial))) (ti trivial))) (Wv.of_eq eqCA_4)
 ·injection h with h; subst h
  exact fun_ok pm pn Go.Proofs.Try.func12 (r0 := VV.tu [VV.ag [vi 0, vi 0], vi 10]) (ans := [.reg (.n :: .n :: []), .reg (nN 3 (.call (vb r205) :: .n :: [])), .br true, .reg (nN 3 [])]) (fr := true) (by kernel_rfl) (an (an (ti (ti trivial)) (an (ti (ti (ti (an e207 (ti trivial))))) (an (not_t (bool_f h208)) (an (ti (ti (ti trivial))) trivial)))) (an (ti (ti (ti trivial))) (ti trivial))) (Wv.of_eq eqCA_5)
def nspeculumbase_Within (k : Nat) (a0 : Int) (a1 : Int) (a2 : Int) : Option Bool :=
  if a1 ≤ a0 then (some (decide (a0 ≤ a2))) else (some false)
theorem nspeculumbase_Within_ok (k : Nat) (a0 : Int) (a1 : Int) (a2 : Int) (r : Bool) (h : nspeculumbase_Within k a0 a1 a2 = some r) : VC Go.Proofs.Try.prog 16 [vi a0, vi a1, vi a2] (vb r) := by
 unfold nspeculumbase_Within at h
 rcases ifs h with ⟨h324, h⟩ | ⟨h324, h⟩
 ·have e325 := (ti (ti (ti (ti (an (an (decide_eq_true h324) trivial) (an (an (decide_eq_true h324) trivial) (an (an (decide_eq_true h324) trivial) (an (decide_eq_true h324) (ti trivial)))))))))
  injection h with h; subst h
  exact fun_ok pm pn Go.Proofs.Try.func16 (r0 := vb (decide (a0 ≤ a2))) (ans := [.reg (.n :: []), .reg (nN 7 (.b true :: .n :: []))]) (fr := true) (by kernel_rfl) (an (an (ti trivial) (an e325 trivial)) (ti trivial)) (Wv.refl _)
 ·have e326 := (ti (ti (ti (ti (an (decide_eq_false h324) (an (decide_eq_false h324) (an (decide_eq_false h324) (an (decide_eq_false h324) (ti trivial)))))))))
  injection h with h; subst h
  exact fun_ok pm pn Go.Proofs.Try.func16 (r0 := vb false) (ans := [.reg (.n :: []), .reg (nN 4 (nS 3 (.b false :: .n :: [])))]) (fr := true) (by kernel_rfl) (an (an (ti trivial) (an e326 trivial)) (ti trivial)) (Wv.refl _)
def nspeculumref01_CheckRange_l0_0_h (a0 : SRange) (x10 : Int) : VS := ⟨mkA [(1, VV.pt 0 0), (9, VV.ag (c_SRange a0)), (10, vi x10)], [some ⟨true, 1, c_SRange a0⟩], .nil⟩
def nspeculumref01_CheckRange_l0_0_e0 (a0 : SRange) (r : Unit) : VS := ⟨mkA [(2, vi 2)], [], .nil⟩
def nspeculumref01_CheckRange_l0_0_e1 (a0 : SRange) (r : Unit) : VS := ⟨mkA [(1, VV.pt 0 0)], [some ⟨true, 1, c_SRange a0⟩], .nil⟩
def nspeculumref01_CheckRange_l0_0 (k : Nat) (a0 : SRange) : Nat → Int → Option (Sum Unit Unit)
  | 0, _ => none
  | fuel + 1, x10 => if x10 < 2 then (if x10 = 0 then (if a0.Lo < (-1000000000000000) then (some (.inl ())) else (if 1000000000000000 < a0.Lo then (some (.inl ())) else (nspeculumref01_CheckRange_l0_0 k a0 fuel (w64 (x10 + 1))))) else (if x10 = 1 then (if a0.Hi < (-1000000000000000) then (some (.inl ())) else (if 1000000000000000 < a0.Hi then (some (.inl ())) else (nspeculumref01_CheckRange_l0_0 k a0 fuel (w64 (x10 + 1))))) else none)) else (some (.inr ()))
theorem nspeculumref01_CheckRange_l0_0_ok (k : Nat) (a0 : SRange) : ∀ (fuel : Nat) (x10 : Int) (r : Sum Unit Unit), nspeculumref01_CheckRange_l0_0 k a0 fuel x10 = some r → (match r with | .inl r => VLoop none Go.Proofs.Try.prog (szF Go.Proofs.Try.f61) (bodyOf Go.Proofs.Try.f61 0) (nspeculumref01_CheckRange_l0_0_h a0 x10) .ret (nspeculumref01_CheckRange_l0_0_e0 a0 r) | .inr r => VLoop none Go.Proofs.Try.prog (szF Go.Proofs.Try.f61) (bodyOf Go.Proofs.Try.f61 0) (nspeculumref01_CheckRange_l0_0_h a0 x10) (.exit 0) (nspeculumref01_CheckRange_l0_0_e1 a0 r)) := by
 intro fuel
 induction fuel with
 | zero => intro x10 r h; rw [nspeculumref01_CheckRange_l0_0.eq_1] at h; cases h
 | succ fuel ih =>
  intro x10 r h
  rw [nspeculumref01_CheckRange_l0_0.eq_2] at h
  rcases ifs h with ⟨h390, h⟩ | ⟨h390, h⟩
  ·rcases ifs h with ⟨h391, h⟩ | ⟨h391, h⟩
   ·have e392 := (show (0:Int) ≤ x10 ∧ x10 < ((2 : Nat) : Int) ∧ partV (x10.toNat * 1) none [vi a0.Lo, vi a0.Hi] = some (vi a0.Lo) from ⟨by have := (of_decide_eq_true (decide_eq_true h391)); omega, by have := (of_decide_eq_true (decide_eq_true h391)); omega, by rw [show x10 = (0 : Int) from (of_decide_eq_true (decide_eq_true h391))]; rfl⟩)
    rcases ifs h with ⟨h393, h⟩ | ⟨h393, h⟩
    ·have e394 := (ti (ti (ti (an (decide_eq_true h393) (an (decide_eq_true h393) (an (decide_eq_true h393) trivial))))))
     injection h with h; subst h
     exact round_stop (c := ⟨[(2, none)], [], []⟩) (s1 := (nspeculumref01_CheckRange_l0_0_e0 a0 ())) pm pn (ans := [.reg (.n :: []), .br true, .reg (.v (vi a0.Lo) :: .n :: []), .reg (nN 3 (.skip :: .skip :: .b true :: [])), .br true, .reg (.n :: [])]) (by kernel_rfl) (by intro e; cases e) (an (an (ti trivial) (an (an (decide_eq_true h390) trivial) (an (an e392 (ti trivial)) (an e394 (an rt (an (ti trivial) trivial)))))) (ti trivial))
    ·have e395 := (ti (ti (ti (an (an (decide_eq_false h393) trivial) (an (an (decide_eq_false h393) trivial) (an (decide_eq_false h393) trivial))))))
     rcases ifs h with ⟨h396, h⟩ | ⟨h396, h⟩
     ·injection h with h; subst h
      exact round_stop (c := ⟨[(2, none)], [], []⟩) (s1 := (nspeculumref01_CheckRange_l0_0_e0 a0 ())) pm pn (ans := [.reg (.n :: []), .br true, .reg (.v (vi a0.Lo) :: .n :: []), .reg (nN 5 (.b false :: [])), .br true, .reg (.n :: [])]) (by kernel_rfl) (by intro e; cases e) (an (an (ti trivial) (an (an (decide_eq_true h390) trivial) (an (an e392 (ti trivial)) (an e395 (an (decide_eq_true h396) (an (ti trivial) trivial)))))) (ti trivial))
     ·have h2 := ih _ _ h
      obtain ⟨q, hv, hq⟩ := pkR (rd := none) (P := Go.Proofs.Try.prog) (fn := Go.Proofs.Try.f61) (k := 0) (s := (nspeculumref01_CheckRange_l0_0_h a0 x10)) (ans := [.reg (.n :: []), .br true, .reg (.v (vi a0.Lo) :: .n :: []), .reg (nN 5 (.b false :: [])), .br false, .reg (.n :: .n :: [])]) (c := ⟨[(1, none), (9, none), (10, none)], [none], []⟩) (e := .normal) (s1 := (nspeculumref01_CheckRange_l0_0_h a0 (w64 (x10 + 1)))) (an (an (ti trivial) (an (an (decide_eq_true h390) trivial) (an (an (an e392 (ti trivial)) (an e395 (an (decide_eq_false h396) trivial))) (ti (ti trivial))))) (ti trivial)) (by kernel_rfl)
      cases r with
      | inl r => exact round_next pm pn hv hq h2
      | inr r =>
       exact round_next pm pn hv hq h2
   ·rcases ifs h with ⟨h397, h⟩ | ⟨h397, h⟩
    ·have e398 := (show (0:Int) ≤ x10 ∧ x10 < ((2 : Nat) : Int) ∧ partV (x10.toNat * 1) none [vi a0.Lo, vi a0.Hi] = some (vi a0.Hi) from ⟨by have := (of_decide_eq_true (decide_eq_true h397)); omega, by have := (of_decide_eq_true (decide_eq_true h397)); omega, by rw [show x10 = (1 : Int) from (of_decide_eq_true (decide_eq_true h397))]; rfl⟩)
     rcases ifs h with ⟨h399, h⟩ | ⟨h399, h⟩
     ·have e400 := (ti (ti (ti (an (decide_eq_true h399) (an (decide_eq_true h399) (an (decide_eq_true h399) trivial))))))
      injection h with h; subst h
      exact round_stop (c := ⟨[(2, none)], [], []⟩) (s1 := (nspeculumref01_CheckRange_l0_0_e0 a0 ())) pm pn (ans := [.reg (.n :: []), .br true, .reg (.v (vi a0.Hi) :: .n :: []), .reg (nN 3 (.skip :: .skip :: .b true :: [])), .br true, .reg (.n :: [])]) (by kernel_rfl) (by intro e; cases e) (an (an (ti trivial) (an (an (decide_eq_true h390) trivial) (an (an e398 (ti trivial)) (an e400 (an rt (an (ti trivial) trivial)))))) (ti trivial))
     ·have e401 := (ti (ti (ti (an (an (decide_eq_false h399) trivial) (an (an (decide_eq_false h399) trivial) (an (decide_eq_false h399) trivial))))))
      rcases ifs h with ⟨h402, h⟩ | ⟨h402, h⟩
      ·injection h with h; subst h
       exact round_stop (c := ⟨[(2, none)], [], []⟩) (s1 := (nspeculumref01_CheckRange_l0_0_e0 a0 ())) pm pn (ans := [.reg (.n :: []), .br true, .reg (.v (vi a0.Hi) :: .n :: []), .reg (nN 5 (.b false :: [])), .br true, .reg (.n :: [])]) (by kernel_rfl) (by intro e; cases e) (an (an (ti trivial) (an (an (decide_eq_true h390) trivial) (an (an e398 (ti trivial)) (an e401 (an (decide_eq_true h402) (an (ti trivial) trivial)))))) (ti trivial))
      ·have h2 := ih _ _ h
       obtain ⟨q, hv, hq⟩ := pkR (rd := none) (P := Go.Proofs.Try.prog) (fn := Go.Proofs.Try.f61) (k := 0) (s := (nspeculumref01_CheckRange_l0_0_h a0 x10)) (ans := [.reg (.n :: []), .br true, .reg (.v (vi a0.Hi) :: .n :: []), .reg (nN 5 (.b false :: [])), .br false, .reg (.n :: .n :: [])]) (c := ⟨[(1, none), (9, none), (10, none)], [none], []⟩) (e := .normal) (s1 := (nspeculumref01_CheckRange_l0_0_h a0 (w64 (x10 + 1)))) (an (an (ti trivial) (an (an (decide_eq_true h390) trivial) (an (an (an e398 (ti trivial)) (an e401 (an (decide_eq_false h402) trivial))) (ti (ti trivial))))) (ti trivial)) (by kernel_rfl)
       cases r with
       | inl r => exact round_next pm pn hv hq h2
       | inr r =>
        exact round_next pm pn hv hq h2
    ·cases h
  ·injection h with h; subst h
   exact round_stop (c := ⟨[(1, none)], [none], []⟩) (s1 := (nspeculumref01_CheckRange_l0_0_e1 a0 ())) pm pn (ans := [.reg (.n :: []), .br false]) (by kernel_rfl) (by intro e; cases e) (an (an (ti trivial) (an (decide_eq_false h390) trivial)) (ti trivial))
def nspeculumref01_CheckRange (k : Nat) (a0 : SRange) : Option Int :=
  (nspeculumref01_CheckRange_l0_0 k a0 k 0).bind fun r404 => (match r404 with | .inl r405 => (some 2) | .inr r406 => (if a0.Hi < a0.Lo then (some 9) else (some 0)))
theorem nspeculumref01_CheckRange_ok (k : Nat) (a0 : SRange) (r : Int) (h : nspeculumref01_CheckRange k a0 = some r) : VC Go.Proofs.Try.prog 61 [VV.ag (c_SRange a0)] (vi r) := by
 unfold nspeculumref01_CheckRange at h
 obtain ⟨r404, h403, h⟩ := bs h
 have hph403 := nspeculumref01_CheckRange_l0_0_ok k a0 _ _ _ h403
 cases r404 with
 | inl r405 =>
  dsimp only at h
  have e407 := (an (ti trivial) (VRun.loop hph403))
  injection h with h; subst h
  exact fun_ok pm pn Go.Proofs.Try.func61 (r0 := vi 2) (ans := [.reg (.n :: .n :: []), .reg (nN 6 []), .sub ⟨[(1, none), (9, none), (10, none)], [none], []⟩ .ret (nspeculumref01_CheckRange_l0_0_e0 a0 r405)]) (fr := true) (by kernel_rfl) (an (an (ti (ti trivial)) (an (ti (ti (ti (ti (ti (ti trivial)))))) e407)) (ti trivial)) (Wv.refl _)
 | inr r406 =>
  dsimp only at h
  have e408 := (an (ti trivial) (VRun.loop hph403))
  rcases ifs h with ⟨h409, h⟩ | ⟨h409, h⟩
  ·injection h with h; subst h
   exact fun_ok pm pn Go.Proofs.Try.func61 (r0 := vi 9) (ans := [.reg (.n :: .n :: []), .reg (nN 6 []), .sub ⟨[(1, none), (9, none), (10, none)], [none], []⟩ (.exit 0) (nspeculumref01_CheckRange_l0_0_e1 a0 r406), .reg (nN 5 []), .br true, .reg (.n :: [])]) (fr := true) (by kernel_rfl) (an (an (ti (ti trivial)) (an (an (ti (ti (ti (ti (ti (ti trivial)))))) e408) (an (ti (ti (ti (ti (ti trivial))))) (an (decide_eq_true h409) (an (ti trivial) trivial))))) (ti trivial)) (Wv.refl _)
  ·injection h with h; subst h
   exact fun_ok pm pn Go.Proofs.Try.func61 (r0 := vi 0) (ans := [.reg (.n :: .n :: []), .reg (nN 6 []), .sub ⟨[(1, none), (9, none), (10, none)], [none], []⟩ (.exit 0) (nspeculumref01_CheckRange_l0_0_e1 a0 r406), .reg (nN 5 []), .br false, .reg (.n :: [])]) (fr := true) (by kernel_rfl) (an (an (ti (ti trivial)) (an (an (ti (ti (ti (ti (ti (ti trivial)))))) e408) (an (an (ti (ti (ti (ti (ti trivial))))) (an (decide_eq_false h409) trivial)) (an (ti trivial) trivial)))) (ti trivial)) (Wv.refl _)
def arCA_1 (z0 : (List SRange)) (z1 : Int) : List Ans := (nN 6 (.v (vi ((z0.getD ((0 : Int)).toNat default).Lo)) :: nN 4 (.v (vi ((z0.getD z1.toNat default).Hi)) :: nN 8 (.v (vi ((z0.getD ((0 : Int)).toNat default).Hi)) :: nN 4 (.v (vi ((z0.getD z1.toNat default).Lo)) :: nN 6 [])))))
def arCA_2 (z0 : (List SRange)) (z1 : Int) (z2 : Int) : List Ans := (nN 6 (.v (vi ((z0.getD z1.toNat default).Lo)) :: nN 4 (.v (vi ((z0.getD z2.toNat default).Hi)) :: nN 8 (.v (vi ((z0.getD z1.toNat default).Hi)) :: nN 4 (.v (vi ((z0.getD z2.toNat default).Lo)) :: nN 6 [])))))
def nspeculumref07_PeakToValley_l0_0_h (a0 : (List SRange)) (x4 : Int) : VS := ⟨mkA [(0, VV.tr (List.flatMap c_SRange a0) a0.length), (2, VV.pt 0 0), (4, vi x4)], [some ⟨true, 1, [vi 0, vi 0]⟩], .nil⟩
def nspeculumref07_PeakToValley_l0_0_e0 (a0 : (List SRange)) (r : Int) : VS := ⟨mkA [(2, VV.pt 0 0), (3, vi r)], [some ⟨true, 1, [vi 0, vi 0]⟩], .nil⟩
def nspeculumref07_PeakToValley_l0_0_e1 (a0 : (List SRange)) (r : Unit) : VS := ⟨mkA [(0, VV.tr (List.flatMap c_SRange a0) a0.length), (2, VV.pt 0 0)], [some ⟨true, 1, [vi 0, vi 0]⟩], .nil⟩
def nspeculumref07_PeakToValley_l0_0 (k : Nat) (a0 : (List SRange)) : Nat → Int → Option (Sum Int Unit)
  | 0, _ => none
  | fuel + 1, x4 => if x4 < (a0.length : Int) then (if 0 ≤ x4 ∧ x4 < (a0.length : Int) then ((nspeculumref01_CheckRange k (a0.getD x4.toNat default)).bind fun r561 => (if r561 = 0 then (nspeculumref07_PeakToValley_l0_0 k a0 fuel (w64 (x4 + 1))) else (some (.inl r561)))) else none) else (some (.inr ()))
theorem nspeculumref07_PeakToValley_l0_0_ok (k : Nat) (a0 : (List SRange)) : ∀ (fuel : Nat) (x4 : Int) (r : Sum Int Unit), nspeculumref07_PeakToValley_l0_0 k a0 fuel x4 = some r → (match r with | .inl r => VLoop none Go.Proofs.Try.prog (szF Go.Proofs.Try.f14) (bodyOf Go.Proofs.Try.f14 0) (nspeculumref07_PeakToValley_l0_0_h a0 x4) .ret (nspeculumref07_PeakToValley_l0_0_e0 a0 r) | .inr r => VLoop none Go.Proofs.Try.prog (szF Go.Proofs.Try.f14) (bodyOf Go.Proofs.Try.f14 0) (nspeculumref07_PeakToValley_l0_0_h a0 x4) (.exit 0) (nspeculumref07_PeakToValley_l0_0_e1 a0 r)) := by
 intro fuel
 induction fuel with
 | zero => intro x4 r h; rw [nspeculumref07_PeakToValley_l0_0.eq_1] at h; cases h
 | succ fuel ih =>
  intro x4 r h
  rw [nspeculumref07_PeakToValley_l0_0.eq_2] at h
  rcases ifs h with ⟨h558, h⟩ | ⟨h558, h⟩
  ·obtain ⟨h559, h⟩ := ifn h
   have e560 := (show loadL Go.Proofs.Try.prog 26 (x4.toNat * 2) (List.flatMap c_SRange a0) = some (VV.ag (c_SRange (a0.getD x4.toNat default))) from ld_whole ag26 c_SRange 2 sz26 len_c_SRange a0 default h559 (by omega))
   obtain ⟨r561, h562, h⟩ := bs h
   have e563 := (nspeculumref01_CheckRange_ok k (a0.getD x4.toNat default) _ h562)
   have e564 := (ti (ti (an h559 (an e560 (an e563 (ti trivial))))))
   rcases ifs h with ⟨h565, h⟩ | ⟨h565, h⟩
   ·have h2 := ih _ _ h
    obtain ⟨q, hv, hq⟩ := pkR (rd := none) (P := Go.Proofs.Try.prog) (fn := Go.Proofs.Try.f14) (k := 0) (s := (nspeculumref07_PeakToValley_l0_0_h a0 x4)) (ans := [.reg (nN 4 []), .br true, .reg (nN 3 (.v (VV.ag (c_SRange (a0.getD x4.toNat default))) :: .call (vi r561) :: .n :: [])), .reg (.n :: .n :: []), .br false, .reg (nN 3 [])]) (c := ⟨[(0, none), (2, none), (4, none)], [none], []⟩) (e := .normal) (s1 := (nspeculumref07_PeakToValley_l0_0_h a0 (w64 (x4 + 1)))) (an (an (an (ti (ti (ti (ti trivial)))) (an (decide_eq_true h558) trivial)) (an (an e564 (an (ti (ti trivial)) (an (not_f (decide_eq_true h565)) trivial))) (ti (ti (ti trivial))))) (ti trivial)) (by kernel_rfl)
    cases r with
    | inl r => exact round_next pm pn hv hq h2
    | inr r =>
     exact round_next pm pn hv hq h2
   ·injection h with h; subst h
    exact round_stop (c := ⟨[(2, none), (3, none)], [none], []⟩) (s1 := (nspeculumref07_PeakToValley_l0_0_e0 a0 r561)) pm pn (ans := [.reg (nN 4 []), .br true, .reg (nN 3 (.v (VV.ag (c_SRange (a0.getD x4.toNat default))) :: .call (vi r561) :: .n :: [])), .reg (.n :: .n :: []), .br true, .reg (nN 4 [])]) (by kernel_rfl) (by intro e; cases e) (an (an (an (ti (ti (ti (ti trivial)))) (an (decide_eq_true h558) trivial)) (an e564 (an (ti (ti trivial)) (an (not_t (decide_eq_false h565)) (an (ti (ti (ti (ti trivial)))) trivial))))) (ti trivial))
  ·injection h with h; subst h
   exact round_stop (c := ⟨[(0, none), (2, none)], [none], []⟩) (s1 := (nspeculumref07_PeakToValley_l0_0_e1 a0 ())) pm pn (ans := [.reg (nN 4 []), .br false]) (by kernel_rfl) (by intro e; cases e) (an (an (ti (ti (ti (ti trivial)))) (an (decide_eq_false h558) trivial)) (ti trivial))
def nspeculumref07_PeakToValley_l2_0_h (a0 : (List SRange)) (x7 : Int) (b1_0z : Int) (b1_1z : Int) (x8 : Int) : VS := ⟨mkA [(0, VV.tr (List.flatMap c_SRange a0) a0.length), (2, VV.pt 0 0), (6, VV.pt 1 0), (7, vi x7), (8, vi x8)], [some ⟨true, 1, [vi 0, vi 0]⟩, some ⟨true, 1, [vi b1_0z, vi b1_1z]⟩], .nil⟩
def nspeculumref07_PeakToValley_l2_0_e0 (a0 : (List SRange)) (x7 : Int) (r : Int × Int) : VS := ⟨mkA [(0, VV.tr (List.flatMap c_SRange a0) a0.length), (2, VV.pt 0 0), (6, VV.pt 1 0), (7, vi x7)], [some ⟨true, 1, [vi 0, vi 0]⟩, some ⟨true, 1, [vi r.1, vi r.2]⟩], .nil⟩
def nspeculumref07_PeakToValley_l2_0 (k : Nat) (a0 : (List SRange)) (x7 : Int) : Nat → Int → Int → Int → Option (Int × Int)
  | 0, _, _, _ => none
  | fuel + 1, b1_0z, b1_1z, x8 => if x8 < (a0.length : Int) then (if x7 = x8 then (nspeculumref07_PeakToValley_l2_0 k a0 x7 fuel b1_0z b1_1z (w64 (x8 + 1))) else (if 0 ≤ x7 ∧ x7 < (a0.length : Int) then (if 0 ≤ x8 ∧ x8 < (a0.length : Int) then (nspeculumref07_PeakToValley_l2_0 k a0 x7 fuel (maxI b1_0z (w64 (((a0.getD x7.toNat default).Lo) - ((a0.getD x8.toNat default).Hi)))) (maxI b1_1z (w64 (((a0.getD x7.toNat default).Hi) - ((a0.getD x8.toNat default).Lo)))) (w64 (x8 + 1))) else none) else none)) else (some (b1_0z, b1_1z))
theorem nspeculumref07_PeakToValley_l2_0_ok (k : Nat) (a0 : (List SRange)) (x7 : Int) : ∀ (fuel : Nat) (b1_0z : Int) (b1_1z : Int) (x8 : Int) (r : Int × Int), nspeculumref07_PeakToValley_l2_0 k a0 x7 fuel b1_0z b1_1z x8 = some r → (VLoop none Go.Proofs.Try.prog (szF Go.Proofs.Try.f14) (bodyOf Go.Proofs.Try.f14 2) (nspeculumref07_PeakToValley_l2_0_h a0 x7 b1_0z b1_1z x8) (.exit 4) (nspeculumref07_PeakToValley_l2_0_e0 a0 x7 r)) := by
 intro fuel
 induction fuel with
 | zero => intro b1_0z b1_1z x8 r h; rw [nspeculumref07_PeakToValley_l2_0.eq_1] at h; cases h
 | succ fuel ih =>
  intro b1_0z b1_1z x8 r h
  rw [nspeculumref07_PeakToValley_l2_0.eq_2] at h
  rcases ifs h with ⟨h654, h⟩ | ⟨h654, h⟩
  ·rcases ifs h with ⟨h655, h⟩ | ⟨h655, h⟩
   ·have h2 := ih _ _ _ _ h
    obtain ⟨q, hv, hq⟩ := pkR (rd := none) (P := Go.Proofs.Try.prog) (fn := Go.Proofs.Try.f14) (k := 2) (s := (nspeculumref07_PeakToValley_l2_0_h a0 x7 b1_0z b1_1z x8)) (ans := [.reg (nN 4 []), .br true, .reg (nN 3 []), .br false, .reg (nN 3 [])]) (c := ⟨[(0, none), (2, none), (6, none), (7, none), (8, none)], [none, none], []⟩) (e := .normal) (s1 := (nspeculumref07_PeakToValley_l2_0_h a0 x7 b1_0z b1_1z (w64 (x8 + 1)))) (an (an (an (ti (ti (ti (ti trivial)))) (an (decide_eq_true h654) trivial)) (an (an (ti (ti (ti trivial))) (an (not_f (decide_eq_true h655)) trivial)) (ti (ti (ti trivial))))) (ti trivial)) (by kernel_rfl)
    exact round_next pm pn hv hq h2
   ·obtain ⟨h656, h⟩ := ifn h
    have e657 := (show loadL Go.Proofs.Try.prog 3 (x7.toNat * 2 + 0) (List.flatMap c_SRange a0) = some (vi ((a0.getD x7.toNat default).Lo)) from (ld_flat ag3 c_SRange 2 0 len_c_SRange (by omega) a0 default h656 (by omega)).trans rfl)
    obtain ⟨h658, h⟩ := ifn h
    have e659 := (show loadL Go.Proofs.Try.prog 3 (x8.toNat * 2 + 1) (List.flatMap c_SRange a0) = some (vi ((a0.getD x8.toNat default).Hi)) from (ld_flat ag3 c_SRange 2 1 len_c_SRange (by omega) a0 default h658 (by omega)).trans rfl)
    have e660 := (show loadL Go.Proofs.Try.prog 3 (x7.toNat * 2 + 1) (List.flatMap c_SRange a0) = some (vi ((a0.getD x7.toNat default).Hi)) from (ld_flat ag3 c_SRange 2 1 len_c_SRange (by omega) a0 default h656 (by omega)).trans rfl)
    have e661 := (show loadL Go.Proofs.Try.prog 3 (x8.toNat * 2 + 0) (List.flatMap c_SRange a0) = some (vi ((a0.getD x8.toNat default).Lo)) from (ld_flat ag3 c_SRange 2 0 len_c_SRange (by omega) a0 default h658 (by omega)).trans rfl)
    have e662 := (ti (ti (ti (ti (an h656 (ti (an e657 (ti (ti (an h658 (ti (an e659 (ti (ti (ti (ti (ti (ti (an h656 (ti (an e660 (ti (ti (an h658 (ti (an e661 (ti (ti (ti (ti (ti (ti trivial))))))))))))))))))))))))))))))))
    have h2 := ih _ _ _ _ h
    obtain ⟨q, hv, hq⟩ := pkR (rd := none) (P := Go.Proofs.Try.prog) (fn := Go.Proofs.Try.f14) (k := 2) (s := (nspeculumref07_PeakToValley_l2_0_h a0 x7 b1_0z b1_1z x8)) (ans := [.reg (nN 4 []), .br true, .reg (nN 3 []), .br true, .reg (arCA_2 a0 x7 x8), .reg (nN 3 [])]) (c := ⟨[(0, none), (2, none), (6, none), (7, none), (8, none)], [none, none], []⟩) (e := .normal) (s1 := (nspeculumref07_PeakToValley_l2_0_h a0 x7 (maxI b1_0z (w64 (((a0.getD x7.toNat default).Lo) - ((a0.getD x8.toNat default).Hi)))) (maxI b1_1z (w64 (((a0.getD x7.toNat default).Hi) - ((a0.getD x8.toNat default).Lo)))) (w64 (x8 + 1)))) (an (an (an (ti (ti (ti (ti trivial)))) (an (decide_eq_true h654) trivial)) (an (an (ti (ti (ti trivial))) (an (not_t (decide_eq_false h655)) e662)) (ti (ti (ti trivial))))) (ti trivial)) (by kernel_rfl)
    exact round_next pm pn hv hq h2
  ·injection h with h; subst h
   exact round_stop (c := ⟨[(0, none), (2, none), (6, none), (7, none)], [none, none], []⟩) (s1 := (nspeculumref07_PeakToValley_l2_0_e0 a0 x7 (b1_0z, b1_1z))) pm pn (ans := [.reg (nN 4 []), .br false]) (by kernel_rfl) (by intro e; cases e) (an (an (ti (ti (ti (ti trivial)))) (an (decide_eq_false h654) trivial)) (ti trivial))
def nspeculumref07_PeakToValley_l1_0_h (a0 : (List SRange)) (b1_0 : Int) (b1_1 : Int) (x7 : Int) : VS := ⟨mkA [(0, VV.tr (List.flatMap c_SRange a0) a0.length), (2, VV.pt 0 0), (6, VV.pt 1 0), (7, vi x7)], [some ⟨true, 1, [vi 0, vi 0]⟩, some ⟨true, 1, [vi b1_0, vi b1_1]⟩], .nil⟩
def nspeculumref07_PeakToValley_l1_0_e0 (a0 : (List SRange)) (r : Int × Int) : VS := ⟨mkA [(2, VV.pt 0 0), (6, VV.pt 1 0)], [some ⟨true, 1, [vi 0, vi 0]⟩, some ⟨true, 1, [vi r.1, vi r.2]⟩], .nil⟩
def nspeculumref07_PeakToValley_l1_0 (k : Nat) (a0 : (List SRange)) : Nat → Int → Int → Int → Option (Int × Int)
  | 0, _, _, _ => none
  | fuel + 1, b1_0, b1_1, x7 => if x7 < (a0.length : Int) then ((nspeculumref07_PeakToValley_l2_0 k a0 x7 k b1_0 b1_1 0).bind fun r664 => (nspeculumref07_PeakToValley_l1_0 k a0 fuel r664.1 r664.2 (w64 (x7 + 1)))) else (some (b1_0, b1_1))
theorem nspeculumref07_PeakToValley_l1_0_ok (k : Nat) (a0 : (List SRange)) : ∀ (fuel : Nat) (b1_0 : Int) (b1_1 : Int) (x7 : Int) (r : Int × Int), nspeculumref07_PeakToValley_l1_0 k a0 fuel b1_0 b1_1 x7 = some r → (VLoop none Go.Proofs.Try.prog (szF Go.Proofs.Try.f14) (bodyOf Go.Proofs.Try.f14 1) (nspeculumref07_PeakToValley_l1_0_h a0 b1_0 b1_1 x7) (.exit 2) (nspeculumref07_PeakToValley_l1_0_e0 a0 r)) := by
 intro fuel
 induction fuel with
 | zero => intro b1_0 b1_1 x7 r h; rw [nspeculumref07_PeakToValley_l1_0.eq_1] at h; cases h
 | succ fuel ih =>
  intro b1_0 b1_1 x7 r h
  rw [nspeculumref07_PeakToValley_l1_0.eq_2] at h
  rcases ifs h with ⟨h635, h⟩ | ⟨h635, h⟩
  ·obtain ⟨r664, h663, h⟩ := bs h
   have hph663 := nspeculumref07_PeakToValley_l2_0_ok k a0 x7 _ _ _ _ _ h663
   have e665 := (an (ti trivial) (VRun.loop hph663))
   have h2 := ih _ _ _ _ h
   obtain ⟨q, hv, hq⟩ := pkR (rd := none) (P := Go.Proofs.Try.prog) (fn := Go.Proofs.Try.f14) (k := 1) (s := (nspeculumref07_PeakToValley_l1_0_h a0 b1_0 b1_1 x7)) (ans := [.reg (nN 4 []), .br true, .reg (.n :: []), .sub ⟨[(0, none), (2, none), (6, none), (7, none), (8, none)], [none, none], []⟩ (.exit 4) (nspeculumref07_PeakToValley_l2_0_e0 a0 x7 r664), .reg (nN 3 [])]) (c := ⟨[(0, none), (2, none), (6, none), (7, none)], [none, none], []⟩) (e := .normal) (s1 := (nspeculumref07_PeakToValley_l1_0_h a0 r664.1 r664.2 (w64 (x7 + 1)))) (an (an (an (ti (ti (ti (ti trivial)))) (an (decide_eq_true h635) trivial)) (an (an (ti trivial) e665) (ti (ti (ti trivial))))) (ti trivial)) (by kernel_rfl)
   exact round_next pm pn hv hq h2
  ·injection h with h; subst h
   exact round_stop (c := ⟨[(2, none), (6, none)], [none, none], []⟩) (s1 := (nspeculumref07_PeakToValley_l1_0_e0 a0 (b1_0, b1_1))) pm pn (ans := [.reg (nN 4 []), .br false]) (by kernel_rfl) (by intro e; cases e) (an (an (ti (ti (ti (ti trivial)))) (an (decide_eq_false h635) trivial)) (ti trivial))
def nspeculumref07_PeakToValley (k : Nat) (a0 : (List SRange)) : Option (SRange × Int) :=
  (nspeculumbase_Within k (a0.length : Int) 1 40).bind fun r538 => (if r538 = true then ((nspeculumref07_PeakToValley_l0_0 k a0 k 0).bind fun r567 => (match r567 with | .inl r568 => (some ((⟨0, 0⟩ : SRange), r568)) | .inr r569 => ((nspeculumref07_PeakToValley_l1_0 k a0 k 0 0 0).bind fun r667 => ((nspeculumref01_CheckRange k (⟨r667.1, r667.2⟩ : SRange)).bind fun r669 => (if r669 = 0 then (some ((⟨r667.1, r667.2⟩ : SRange), 0)) else (some ((⟨0, 0⟩ : SRange), 8))))))) else (some ((⟨0, 0⟩ : SRange), 10)))
theorem nspeculumref07_PeakToValley_ok (k : Nat) (a0 : (List SRange)) (r : (SRange × Int)) (h : nspeculumref07_PeakToValley k a0 = some r) : VC Go.Proofs.Try.prog 14 [VV.tr (List.flatMap c_SRange a0) a0.length] (VV.tu [VV.ag (c_SRange r.1), vi r.2]) := by
 unfold nspeculumref07_PeakToValley at h
 obtain ⟨r538, h539, h⟩ := bs h
 have e540 := (nspeculumbase_Within_ok k (a0.length : Int) 1 40 _ h539)
 rcases ifs h with ⟨h541, h⟩ | ⟨h541, h⟩
 ·obtain ⟨r567, h566, h⟩ := bs h
  have hph566 := nspeculumref07_PeakToValley_l0_0_ok k a0 _ _ _ h566
  cases r567 with
  | inl r568 =>
   dsimp only at h
   have e570 := (an (ti trivial) (VRun.loop hph566))
   injection h with h; subst h
   exact fun_ok pm pn Go.Proofs.Try.func14 (r0 := VV.tu [VV.ag [vi 0, vi 0], vi r568]) (ans := [.reg (.n :: .n :: []), .reg (.n :: .n :: .call (vb r538) :: .n :: []), .br false, .reg (.n :: []), .sub ⟨[(0, none), (2, none), (4, none)], [none], []⟩ .ret (nspeculumref07_PeakToValley_l0_0_e0 a0 r568)]) (fr := true) (by kernel_rfl) (an (an (ti (ti trivial)) (an (an (ti (ti (an e540 (ti trivial)))) (an (not_f h541) trivial)) (an (ti trivial) e570))) (an (ti (ti (ti trivial))) (ti trivial))) (Wv.of_eq (eqCA_2 r568))
  | inr r569 =>
   dsimp only at h
   have e571 := (an (ti trivial) (VRun.loop hph566))
   obtain ⟨r667, h666, h⟩ := bs h
   have hph666 := nspeculumref07_PeakToValley_l1_0_ok k a0 _ _ _ _ _ h666
   have e668 := (an (ti trivial) (VRun.loop hph666))
   obtain ⟨r669, h670, h⟩ := bs h
   have e671 := (VC.args (nspeculumref01_CheckRange_ok k (⟨r667.1, r667.2⟩ : SRange) _ h670) (eqCA_1 r667))
   rcases ifs h with ⟨h672, h⟩ | ⟨h672, h⟩
   ·injection h with h; subst h
    exact fun_ok pm pn Go.Proofs.Try.func14 (r0 := VV.tu [VV.ag [vi r667.1, vi r667.2], vi 0]) (ans := [.reg (.n :: .n :: []), .reg (.n :: .n :: .call (vb r538) :: .n :: []), .br false, .reg (.n :: []), .sub ⟨[(0, none), (2, none), (4, none)], [none], []⟩ (.exit 0) (nspeculumref07_PeakToValley_l0_0_e1 a0 r569), .reg (.n :: []), .reg (.n :: []), .sub ⟨[(0, none), (2, none), (6, none), (7, none)], [none, none], []⟩ (.exit 2) (nspeculumref07_PeakToValley_l1_0_e0 a0 r667), .reg (.n :: .call (vi r669) :: .n :: []), .br false, .reg (nN 3 [])]) (fr := true) (by kernel_rfl) (an (an (ti (ti trivial)) (an (an (ti (ti (an e540 (ti trivial)))) (an (not_f h541) trivial)) (an (an (ti trivial) e571) (an (ti trivial) (an (an (ti trivial) e668) (an (an (ti (an e671 (ti trivial))) (an (not_f (decide_eq_true h672)) trivial)) (an (ti (ti (ti trivial))) trivial))))))) (an (ti (ti (ti trivial))) (ti trivial))) (Wv.of_eq (eqCA_3 r667))
   ·injection h with h; subst h
    exact fun_ok pm pn Go.Proofs.Try.func14 (r0 := VV.tu [VV.ag [vi 0, vi 0], vi 8]) (ans := [.reg (.n :: .n :: []), .reg (.n :: .n :: .call (vb r538) :: .n :: []), .br false, .reg (.n :: []), .sub ⟨[(0, none), (2, none), (4, none)], [none], []⟩ (.exit 0) (nspeculumref07_PeakToValley_l0_0_e1 a0 r569), .reg (.n :: []), .reg (.n :: []), .sub ⟨[(0, none), (2, none), (6, none), (7, none)], [none, none], []⟩ (.exit 2) (nspeculumref07_PeakToValley_l1_0_e0 a0 r667), .reg (.n :: .call (vi r669) :: .n :: []), .br true, .reg (nN 3 [])]) (fr := true) (by kernel_rfl) (an (an (ti (ti trivial)) (an (an (ti (ti (an e540 (ti trivial)))) (an (not_f h541) trivial)) (an (an (ti trivial) e571) (an (ti trivial) (an (an (ti trivial) e668) (an (ti (an e671 (ti trivial))) (an (not_t (decide_eq_false h672)) (an (ti (ti (ti trivial))) trivial)))))))) (an (ti (ti (ti trivial))) (ti trivial))) (Wv.of_eq eqCA_4)
 ·injection h with h; subst h
  exact fun_ok pm pn Go.Proofs.Try.func14 (r0 := VV.tu [VV.ag [vi 0, vi 0], vi 10]) (ans := [.reg (.n :: .n :: []), .reg (.n :: .n :: .call (vb r538) :: .n :: []), .br true, .reg (nN 3 [])]) (fr := true) (by kernel_rfl) (an (an (ti (ti trivial)) (an (ti (ti (an e540 (ti trivial)))) (an (not_t (bool_f h541)) (an (ti (ti (ti trivial))) trivial)))) (an (ti (ti (ti trivial))) (ti trivial))) (Wv.of_eq eqCA_5)
def nspeculumbase_Mod (k : Nat) (a0 : Int) (a1 : Int) : Option Int :=
  if a1 ≠ 0 then (if (a0.tmod a1) < 0 then (some (w64 ((a0.tmod a1) + a1))) else (some (a0.tmod a1))) else none
theorem nspeculumbase_Mod_ok (k : Nat) (a0 : Int) (a1 : Int) (r : Int) (h : nspeculumbase_Mod k a0 a1 = some r) : VC Go.Proofs.Try.prog 15 [vi a0, vi a1] (vi r) := by
 unfold nspeculumbase_Mod at h
 obtain ⟨h700, h⟩ := ifn h
 rcases ifs h with ⟨h701, h⟩ | ⟨h701, h⟩
 ·injection h with h; subst h
  exact fun_ok pm pn Go.Proofs.Try.func15 (r0 := vi (w64 ((a0.tmod a1) + a1))) (ans := [.reg (.n :: []), .reg (nN 4 []), .reg (.n :: .n :: []), .br true, .reg (nN 4 [])]) (fr := true) (by kernel_rfl) (an (an (ti trivial) (an (ti (ti (an h700 (ti trivial)))) (an (ti (ti trivial)) (an (decide_eq_true h701) (an (ti (ti (ti (ti trivial)))) trivial))))) (ti trivial)) (Wv.refl _)
 ·injection h with h; subst h
  exact fun_ok pm pn Go.Proofs.Try.func15 (r0 := vi (a0.tmod a1)) (ans := [.reg (.n :: []), .reg (nN 4 []), .reg (.n :: .n :: []), .br false, .reg (.n :: .n :: [])]) (fr := true) (by kernel_rfl) (an (an (ti trivial) (an (ti (ti (an h700 (ti trivial)))) (an (an (ti (ti trivial)) (an (decide_eq_false h701) trivial)) (an (ti (ti trivial)) trivial)))) (ti trivial)) (Wv.refl _)
def arCA_3 (z0 : (List SRange)) (z1 : Int) (z2 : (List Int)) (z3 : Int) : List Ans := (nN 4 (.v (vi ((z0.getD z1.toNat default).Lo)) :: nN 3 (.v (vi (z2.getD z1.toNat 0)) :: nN 4 (.v (vi ((z0.getD z1.toNat default).Hi)) :: nN 4 (.v (vi ((z0.getD z1.toNat default).Lo)) :: .n :: .n :: .call (vi z3) :: .n :: .n :: [])))))
def arCA_4 (z0 : (List SRange)) (z1 : (SRange × Int)) : List Ans := (.n :: .call (VV.fr (List.flatMap c_SRange z0) z0.length) :: .call (VV.tu [VV.ag (c_SRange z1.1), vi z1.2]) :: nN 6 [])
def nspeculumlaw07_SupportPeaks_l0_0_h (a0 : (List SRange)) (a1 : (List Int)) (r817 : (SRange × Int)) (x10 : Int) (x11 : Int) (x9 : Int) : VS := ⟨mkA [(0, VV.tr (List.flatMap c_SRange a0) a0.length), (1, VV.tr (List.map vi a1) a1.length), (5, VV.pt 0 0), (9, vi x9), (10, vi x10), (11, vi x11)], [some ⟨true, 1, c_SRange r817.1⟩], .nil⟩
def nspeculumlaw07_SupportPeaks_l0_0_e0 (a0 : (List SRange)) (a1 : (List Int)) (r817 : (SRange × Int)) (r : Int × Int) : VS := ⟨mkA [(5, VV.pt 0 0), (9, vi r.1), (10, vi r.2)], [some ⟨true, 1, c_SRange r817.1⟩], .nil⟩
def nspeculumlaw07_SupportPeaks_l0_0 (k : Nat) (a0 : (List SRange)) (a1 : (List Int)) (r817 : (SRange × Int)) : Nat → Int → Int → Int → Option (Int × Int)
  | 0, _, _, _ => none
  | fuel + 1, x10, x11, x9 => if x11 < (a0.length : Int) then (if 0 ≤ x11 ∧ x11 < (a0.length : Int) then (if 0 ≤ x11 ∧ x11 < (a1.length : Int) then ((nspeculumbase_Mod k (a1.getD x11.toNat 0) (w64 ((w64 (((a0.getD x11.toNat default).Hi) - ((a0.getD x11.toNat default).Lo))) + 1))).bind fun r868 => (nspeculumlaw07_SupportPeaks_l0_0 k a0 a1 r817 fuel (minI x10 (w64 (((a0.getD x11.toNat default).Lo) + r868))) (w64 (x11 + 1)) (maxI x9 (w64 (((a0.getD x11.toNat default).Lo) + r868))))) else none) else none) else (some (x9, x10))
theorem nspeculumlaw07_SupportPeaks_l0_0_ok (k : Nat) (a0 : (List SRange)) (a1 : (List Int)) (r817 : (SRange × Int)) : ∀ (fuel : Nat) (x10 : Int) (x11 : Int) (x9 : Int) (r : Int × Int), nspeculumlaw07_SupportPeaks_l0_0 k a0 a1 r817 fuel x10 x11 x9 = some r → (VLoop none Go.Proofs.Try.prog (szF Go.Proofs.Try.f3) (bodyOf Go.Proofs.Try.f3 0) (nspeculumlaw07_SupportPeaks_l0_0_h a0 a1 r817 x10 x11 x9) (.exit 0) (nspeculumlaw07_SupportPeaks_l0_0_e0 a0 a1 r817 r)) := by
 intro fuel
 induction fuel with
 | zero => intro x10 x11 x9 r h; rw [nspeculumlaw07_SupportPeaks_l0_0.eq_1] at h; cases h
 | succ fuel ih =>
  intro x10 x11 x9 r h
  rw [nspeculumlaw07_SupportPeaks_l0_0.eq_2] at h
  rcases ifs h with ⟨h861, h⟩ | ⟨h861, h⟩
  ·obtain ⟨h862, h⟩ := ifn h
   have e863 := (show loadL Go.Proofs.Try.prog 3 (x11.toNat * 2 + 0) (List.flatMap c_SRange a0) = some (vi ((a0.getD x11.toNat default).Lo)) from (ld_flat ag3 c_SRange 2 0 len_c_SRange (by omega) a0 default h862 (by omega)).trans rfl)
   obtain ⟨h864, h⟩ := ifn h
   have e865 := (show loadL Go.Proofs.Try.prog 3 (x11.toNat * 1) (List.map vi a1) = some (vi (a1.getD x11.toNat 0)) from ld_map ag3 vi a1 0 h864 (by omega))
   have e866 := (show loadL Go.Proofs.Try.prog 3 (x11.toNat * 2 + 1) (List.flatMap c_SRange a0) = some (vi ((a0.getD x11.toNat default).Hi)) from (ld_flat ag3 c_SRange 2 1 len_c_SRange (by omega) a0 default h862 (by omega)).trans rfl)
   have e867 := (show loadL Go.Proofs.Try.prog 3 (x11.toNat * 2 + 0) (List.flatMap c_SRange a0) = some (vi ((a0.getD x11.toNat default).Lo)) from (ld_flat ag3 c_SRange 2 0 len_c_SRange (by omega) a0 default h862 (by omega)).trans rfl)
   obtain ⟨r868, h869, h⟩ := bs h
   have e870 := (nspeculumbase_Mod_ok k (a1.getD x11.toNat 0) (w64 ((w64 (((a0.getD x11.toNat default).Hi) - ((a0.getD x11.toNat default).Lo))) + 1)) _ h869)
   have e871 := (ti (ti (an h862 (ti (an e863 (ti (ti (an h864 (an e865 (ti (ti (an h862 (ti (an e866 (ti (ti (an h862 (ti (an e867 (ti (ti (an e870 (ti (ti trivial))))))))))))))))))))))))
   have h2 := ih _ _ _ _ h
   obtain ⟨q, hv, hq⟩ := pkR (rd := none) (P := Go.Proofs.Try.prog) (fn := Go.Proofs.Try.f3) (k := 0) (s := (nspeculumlaw07_SupportPeaks_l0_0_h a0 a1 r817 x10 x11 x9)) (ans := [.reg (nN 4 []), .br true, .reg (arCA_3 a0 x11 a1 r868), .reg (nN 8 []), .reg (nN 3 [])]) (c := ⟨[(0, none), (1, none), (5, none), (9, none), (10, none), (11, none)], [none], []⟩) (e := .normal) (s1 := (nspeculumlaw07_SupportPeaks_l0_0_h a0 a1 r817 (minI x10 (w64 (((a0.getD x11.toNat default).Lo) + r868))) (w64 (x11 + 1)) (maxI x9 (w64 (((a0.getD x11.toNat default).Lo) + r868))))) (an (an (an (ti (ti (ti (ti trivial)))) (an (decide_eq_true h861) trivial)) (an (an e871 (ti (ti (ti (ti (ti (ti (ti (ti trivial))))))))) (ti (ti (ti trivial))))) (ti trivial)) (by kernel_rfl)
   exact round_next pm pn hv hq h2
  ·injection h with h; subst h
   exact round_stop (c := ⟨[(5, none), (9, none), (10, none)], [none], []⟩) (s1 := (nspeculumlaw07_SupportPeaks_l0_0_e0 a0 a1 r817 (x9, x10))) pm pn (ans := [.reg (nN 4 []), .br false]) (by kernel_rfl) (by intro e; cases e) (an (an (ti (ti (ti (ti trivial)))) (an (decide_eq_false h861) trivial)) (ti trivial))
def nspeculumlaw07_SupportPeaks_l0_1_h (a0 : (List SRange)) (a1 : (List Int)) (r886 : (SRange × Int)) (x10 : Int) (x11 : Int) (x9 : Int) : VS := ⟨mkA [(0, VV.tr (List.flatMap c_SRange a0) a0.length), (1, VV.tr (List.map vi a1) a1.length), (5, VV.pt 0 0), (9, vi x9), (10, vi x10), (11, vi x11)], [some ⟨true, 1, c_SRange r886.1⟩], .nil⟩
def nspeculumlaw07_SupportPeaks_l0_1_e0 (a0 : (List SRange)) (a1 : (List Int)) (r886 : (SRange × Int)) (r : Int × Int) : VS := ⟨mkA [(5, VV.pt 0 0), (9, vi r.1), (10, vi r.2)], [some ⟨true, 1, c_SRange r886.1⟩], .nil⟩
def nspeculumlaw07_SupportPeaks_l0_1 (k : Nat) (a0 : (List SRange)) (a1 : (List Int)) (r886 : (SRange × Int)) : Nat → Int → Int → Int → Option (Int × Int)
  | 0, _, _, _ => none
  | fuel + 1, x10, x11, x9 => if x11 < (a0.length : Int) then (if 0 ≤ x11 ∧ x11 < (a0.length : Int) then (if 0 ≤ x11 ∧ x11 < (a1.length : Int) then ((nspeculumbase_Mod k (a1.getD x11.toNat 0) (w64 ((w64 (((a0.getD x11.toNat default).Hi) - ((a0.getD x11.toNat default).Lo))) + 1))).bind fun r937 => (nspeculumlaw07_SupportPeaks_l0_1 k a0 a1 r886 fuel (minI x10 (w64 (((a0.getD x11.toNat default).Lo) + r937))) (w64 (x11 + 1)) (maxI x9 (w64 (((a0.getD x11.toNat default).Lo) + r937))))) else none) else none) else (some (x9, x10))
theorem nspeculumlaw07_SupportPeaks_l0_1_ok (k : Nat) (a0 : (List SRange)) (a1 : (List Int)) (r886 : (SRange × Int)) : ∀ (fuel : Nat) (x10 : Int) (x11 : Int) (x9 : Int) (r : Int × Int), nspeculumlaw07_SupportPeaks_l0_1 k a0 a1 r886 fuel x10 x11 x9 = some r → (VLoop none Go.Proofs.Try.prog (szF Go.Proofs.Try.f3) (bodyOf Go.Proofs.Try.f3 0) (nspeculumlaw07_SupportPeaks_l0_1_h a0 a1 r886 x10 x11 x9) (.exit 0) (nspeculumlaw07_SupportPeaks_l0_1_e0 a0 a1 r886 r)) := by
 intro fuel
 induction fuel with
 | zero => intro x10 x11 x9 r h; rw [nspeculumlaw07_SupportPeaks_l0_1.eq_1] at h; cases h
 | succ fuel ih =>
  intro x10 x11 x9 r h
  rw [nspeculumlaw07_SupportPeaks_l0_1.eq_2] at h
  rcases ifs h with ⟨h930, h⟩ | ⟨h930, h⟩
  ·obtain ⟨h931, h⟩ := ifn h
   have e932 := (show loadL Go.Proofs.Try.prog 3 (x11.toNat * 2 + 0) (List.flatMap c_SRange a0) = some (vi ((a0.getD x11.toNat default).Lo)) from (ld_flat ag3 c_SRange 2 0 len_c_SRange (by omega) a0 default h931 (by omega)).trans rfl)
   obtain ⟨h933, h⟩ := ifn h
   have e934 := (show loadL Go.Proofs.Try.prog 3 (x11.toNat * 1) (List.map vi a1) = some (vi (a1.getD x11.toNat 0)) from ld_map ag3 vi a1 0 h933 (by omega))
   have e935 := (show loadL Go.Proofs.Try.prog 3 (x11.toNat * 2 + 1) (List.flatMap c_SRange a0) = some (vi ((a0.getD x11.toNat default).Hi)) from (ld_flat ag3 c_SRange 2 1 len_c_SRange (by omega) a0 default h931 (by omega)).trans rfl)
   have e936 := (show loadL Go.Proofs.Try.prog 3 (x11.toNat * 2 + 0) (List.flatMap c_SRange a0) = some (vi ((a0.getD x11.toNat default).Lo)) from (ld_flat ag3 c_SRange 2 0 len_c_SRange (by omega) a0 default h931 (by omega)).trans rfl)
   obtain ⟨r937, h938, h⟩ := bs h
   have e939 := (nspeculumbase_Mod_ok k (a1.getD x11.toNat 0) (w64 ((w64 (((a0.getD x11.toNat default).Hi) - ((a0.getD x11.toNat default).Lo))) + 1)) _ h938)
   have e940 := (ti (ti (an h931 (ti (an e932 (ti (ti (an h933 (an e934 (ti (ti (an h931 (ti (an e935 (ti (ti (an h931 (ti (an e936 (ti (ti (an e939 (ti (ti trivial))))))))))))))))))))))))
   have h2 := ih _ _ _ _ h
   obtain ⟨q, hv, hq⟩ := pkR (rd := none) (P := Go.Proofs.Try.prog) (fn := Go.Proofs.Try.f3) (k := 0) (s := (nspeculumlaw07_SupportPeaks_l0_1_h a0 a1 r886 x10 x11 x9)) (ans := [.reg (nN 4 []), .br true, .reg (arCA_3 a0 x11 a1 r937), .reg (nN 8 []), .reg (nN 3 [])]) (c := ⟨[(0, none), (1, none), (5, none), (9, none), (10, none), (11, none)], [none], []⟩) (e := .normal) (s1 := (nspeculumlaw07_SupportPeaks_l0_1_h a0 a1 r886 (minI x10 (w64 (((a0.getD x11.toNat default).Lo) + r937))) (w64 (x11 + 1)) (maxI x9 (w64 (((a0.getD x11.toNat default).Lo) + r937))))) (an (an (an (ti (ti (ti (ti trivial)))) (an (decide_eq_true h930) trivial)) (an (an e940 (ti (ti (ti (ti (ti (ti (ti (ti trivial))))))))) (ti (ti (ti trivial))))) (ti trivial)) (by kernel_rfl)
   exact round_next pm pn hv hq h2
  ·injection h with h; subst h
   exact round_stop (c := ⟨[(5, none), (9, none), (10, none)], [none], []⟩) (s1 := (nspeculumlaw07_SupportPeaks_l0_1_e0 a0 a1 r886 (x9, x10))) pm pn (ans := [.reg (nN 4 []), .br false]) (by kernel_rfl) (by intro e; cases e) (an (an (ti (ti (ti (ti trivial)))) (an (decide_eq_false h930) trivial)) (ti trivial))
def nspeculumlaw07_SupportPeaks (k : Nat) (a0 : (List SRange)) (a1 : (List Int)) : Option Bool :=
  (nawake k).bind fun r806 => (if r806 = true then (if 12 < (a0.length : Int) then (if (a0.length : Int) ≤ 40 then (some true) else (if 43 < (a0.length : Int) then (some true) else ((nspeculumbase_CopyRanges k a0).bind fun r814 => ((nsupport_PeakToValley k r814).bind fun r817 => ((nspeculumref07_PeakToValley k a0).bind fun r821 => (if r817.2 = r821.2 then (if ((r817.1.Lo : Int) == r821.1.Lo && ((r817.1.Hi : Int) == r821.1.Hi && true)) = true then (if r821.2 = 0 then (if (a1.length : Int) < (a0.length : Int) then (some true) else ((nspeculumlaw07_SupportPeaks_l0_0 k a0 a1 r817 k 1000000000000000 0 (-1000000000000000)).bind fun r873 => ((nspeculumbase_Within k (w64 (r873.1 - r873.2)) r817.1.Lo r817.1.Hi).bind fun r875 => (some r875)))) else (some true)) else (some false)) else (some false))))))) else (if 43 < (a0.length : Int) then (some true) else ((nspeculumbase_CopyRanges k a0).bind fun r883 => ((nsupport_PeakToValley k r883).bind fun r886 => ((nspeculumref07_PeakToValley k a0).bind fun r890 => (if r886.2 = r890.2 then (if ((r886.1.Lo : Int) == r890.1.Lo && ((r886.1.Hi : Int) == r890.1.Hi && true)) = true then (if r890.2 = 0 then (if (a1.length : Int) < (a0.length : Int) then (some true) else ((nspeculumlaw07_SupportPeaks_l0_1 k a0 a1 r886 k 1000000000000000 0 (-1000000000000000)).bind fun r942 => ((nspeculumbase_Within k (w64 (r942.1 - r942.2)) r886.1.Lo r886.1.Hi).bind fun r944 => (some r944)))) else (some true)) else (some false)) else (some false))))))) else (some false))
theorem nspeculumlaw07_SupportPeaks_ok (k : Nat) (a0 : (List SRange)) (a1 : (List Int)) (r : Bool) (h : nspeculumlaw07_SupportPeaks k a0 a1 = some r) : VC Go.Proofs.Try.prog 3 [VV.tr (List.flatMap c_SRange a0) a0.length, VV.tr (List.map vi a1) a1.length] (vb r) := by
 unfold nspeculumlaw07_SupportPeaks at h
 obtain ⟨r806, h807, h⟩ := bs h
 rcases ifs h with ⟨h808, h⟩ | ⟨h808, h⟩
 ·rcases ifs h with ⟨h809, h⟩ | ⟨h809, h⟩
  ·rcases ifs h with ⟨h810, h⟩ | ⟨h810, h⟩
   ·have e811 := (ti (ti (ti (ti (an (an (decide_eq_true h809) trivial) (an (an (decide_eq_true h809) trivial) (an (an (decide_eq_true h809) trivial) (an (decide_eq_true h809) (ti (an (decide_eq_true h810) (an (decide_eq_true h810) (an (decide_eq_true h810) (an (decide_eq_true h810) trivial)))))))))))))
    injection h with h; subst h
    exact fun_ok pm pn Go.Proofs.Try.func3 (r0 := vb true) (ans := [.reg (.n :: []), .reg (.call (vb r806) :: .n :: []), .br false, .reg (nN 7 (.b true :: .n :: nS 3 (.b true :: []))), .br true, .reg (.n :: [])]) (fr := true) (by kernel_rfl) (an (an (ti trivial) (an (an (an (nawake_ok k _ h807) (ti trivial)) (an (not_f h808) trivial)) (an e811 (an rt (an (ti trivial) trivial))))) (ti trivial)) (Wv.refl _)
   ·have e812 := (ti (ti (ti (ti (an (an (decide_eq_true h809) trivial) (an (an (decide_eq_true h809) trivial) (an (an (decide_eq_true h809) trivial) (an (decide_eq_true h809) (ti (an (an (decide_eq_false h810) trivial) (an (an (decide_eq_false h810) trivial) (an (an (decide_eq_false h810) trivial) (an (decide_eq_false h810) trivial)))))))))))))
    rcases ifs h with ⟨h813, h⟩ | ⟨h813, h⟩
    ·injection h with h; subst h
     exact fun_ok pm pn Go.Proofs.Try.func3 (r0 := vb true) (ans := [.reg (.n :: []), .reg (.call (vb r806) :: .n :: []), .br false, .reg (nN 7 (.b true :: nN 4 (.b false :: []))), .br true, .reg (.n :: [])]) (fr := true) (by kernel_rfl) (an (an (ti trivial) (an (an (an (nawake_ok k _ h807) (ti trivial)) (an (not_f h808) trivial)) (an e812 (an (decide_eq_true h813) (an (ti trivial) trivial))))) (ti trivial)) (Wv.refl _)
    ·obtain ⟨r814, h815, h⟩ := bs h
     have e816 := (show VC Go.Proofs.Try.prog 13 [VV.tr (List.flatMap c_SRange a0) a0.length] (VV.fr (List.flatMap c_SRange r814) r814.length) from (VC.weak (nspeculumbase_CopyRanges_ok k a0 _ h815) (Wv.fw rfl rfl)))
     obtain ⟨r817, h818, h⟩ := bs h
     have e819 := (nsupport_PeakToValley_ok k r814 _ h818)
     have e820 := (ti (an e816 (an e819 (ti (ti (ti (ti (ti (ti trivial)))))))))
     obtain ⟨r821, h822, h⟩ := bs h
     have e823 := (nspeculumref07_PeakToValley_ok k a0 _ h822)
     have e824 := (ti (an e823 (ti (ti (ti (ti (ti (ti trivial))))))))
     rcases ifs h with ⟨h825, h⟩ | ⟨h825, h⟩
     ·have e826 := (an (not_f (decide_eq_true h825)) trivial)
      have e827 := (an (not_f (decide_eq_true h825)) trivial)
      have e828 := (an (not_f (decide_eq_true h825)) (show List.map kdV [Value.int .i64 r817.1.Lo, Value.int .i64 r817.1.Hi] = List.map kdV [Value.int .i64 r821.1.Lo, Value.int .i64 r821.1.Hi] ∧ EqOK Go.Proofs.Try.prog 26 (List.map kdV [Value.int .i64 r821.1.Lo, Value.int .i64 r821.1.Hi]) from ⟨rfl, eqok26⟩))
      have e829 := (ti (ti (ti (ti (an e826 (an e827 (an e828 (an (not_f (decide_eq_true h825)) trivial))))))))
      rcases ifs h with ⟨h830, h⟩ | ⟨h830, h⟩
      ·rcases ifs h with ⟨h831, h⟩ | ⟨h831, h⟩
       ·have e832 := (an (not_f (decide_eq_true h831)) trivial)
        have e833 := (an (not_f (decide_eq_true h831)) trivial)
        have e834 := (an (not_f (decide_eq_true h831)) trivial)
        have e835 := (an (not_f (decide_eq_true h831)) trivial)
        have e836 := (an (not_f (decide_eq_true h831)) trivial)
        have e837 := (ti (ti (ti (an e832 (an e833 (an e834 (an e835 (an e836 (an (not_f (decide_eq_true h831)) trivial)))))))))
        rcases ifs h with ⟨h838, h⟩ | ⟨h838, h⟩
        ·injection h with h; subst h
         exact fun_ok pm pn Go.Proofs.Try.func3 (r0 := vb true) (ans := [.reg (.n :: []), .reg (.call (vb r806) :: .n :: []), .br false, .reg (nN 7 (.b true :: nN 4 (.b false :: []))), .br false, .reg (arCA_4 r814 r817), .reg (.n :: .call (VV.tu [VV.ag (c_SRange r821.1), vi r821.2]) :: nN 6 []), .reg (nN 7 (.b false :: [])), .br false, .reg (nN 8 (.b false :: [])), .br true, .reg (.n :: [])]) (fr := true) (by kernel_rfl) (an (an (ti trivial) (an (an (an (nawake_ok k _ h807) (ti trivial)) (an (not_f h808) trivial)) (an (an e812 (an (decide_eq_false h813) trivial)) (an e820 (an e824 (an (an e829 (an (not_f h830) trivial)) (an e837 (an (decide_eq_true h838) (an (ti trivial) trivial))))))))) (ti trivial)) (Wv.refl _)
        ·obtain ⟨r873, h872, h⟩ := bs h
         have hph872 := nspeculumlaw07_SupportPeaks_l0_0_ok k a0 a1 r817 _ _ _ _ _ h872
         have e874 := (an (ti trivial) (VRun.loop hph872))
         obtain ⟨r875, h876, h⟩ := bs h
         have e877 := (nspeculumbase_Within_ok k (w64 (r873.1 - r873.2)) r817.1.Lo r817.1.Hi _ h876)
         have e878 := (ti (ti (ti (ti (ti (ti (ti (an e877 (ti trivial)))))))))
         injection h with h; subst h
         exact fun_ok pm pn Go.Proofs.Try.func3 (r0 := vb r875) (ans := [.reg (.n :: []), .reg (.call (vb r806) :: .n :: []), .br false, .reg (nN 7 (.b true :: nN 4 (.b false :: []))), .br false, .reg (arCA_4 r814 r817), .reg (.n :: .call (VV.tu [VV.ag (c_SRange r821.1), vi r821.2]) :: nN 6 []), .reg (nN 7 (.b false :: [])), .br false, .reg (nN 8 (.b false :: [])), .br false, .reg (.n :: .n :: []), .reg (.n :: []), .sub ⟨[(0, none), (1, none), (5, none), (9, none), (10, none), (11, none)], [none], []⟩ (.exit 0) (nspeculumlaw07_SupportPeaks_l0_0_e0 a0 a1 r817 r873), .reg (nN 7 (.call (vb r875) :: .n :: []))]) (fr := true) (by kernel_rfl) (an (an (ti trivial) (an (an (an (nawake_ok k _ h807) (ti trivial)) (an (not_f h808) trivial)) (an (an e812 (an (decide_eq_false h813) trivial)) (an e820 (an e824 (an (an e829 (an (not_f h830) trivial)) (an (an e837 (an (decide_eq_false h838) trivial)) (an (ti (ti trivial)) (an (an (ti trivial) e874) (an e878 trivial)))))))))) (ti trivial)) (Wv.refl _)
       ·have e879 := (ti (ti (ti (an (not_t (decide_eq_false h831)) (an (not_t (decide_eq_false h831)) (an (not_t (decide_eq_false h831)) (an (not_t (decide_eq_false h831)) (an (not_t (decide_eq_false h831)) (an (not_t (decide_eq_false h831)) trivial)))))))))
        injection h with h; subst h
        exact fun_ok pm pn Go.Proofs.Try.func3 (r0 := vb true) (ans := [.reg (.n :: []), .reg (.call (vb r806) :: .n :: []), .br false, .reg (nN 7 (.b true :: nN 4 (.b false :: []))), .br false, .reg (arCA_4 r814 r817), .reg (.n :: .call (VV.tu [VV.ag (c_SRange r821.1), vi r821.2]) :: nN 6 []), .reg (nN 7 (.b false :: [])), .br false, .reg (nN 3 (nS 5 (.b true :: []))), .br true, .reg (.n :: [])]) (fr := true) (by kernel_rfl) (an (an (ti trivial) (an (an (an (nawake_ok k _ h807) (ti trivial)) (an (not_f h808) trivial)) (an (an e812 (an (decide_eq_false h813) trivial)) (an e820 (an e824 (an (an e829 (an (not_f h830) trivial)) (an e879 (an rt (an (ti trivial) trivial))))))))) (ti trivial)) (Wv.refl _)
      ·injection h with h; subst h
       exact fun_ok pm pn Go.Proofs.Try.func3 (r0 := vb false) (ans := [.reg (.n :: []), .reg (.call (vb r806) :: .n :: []), .br false, .reg (nN 7 (.b true :: nN 4 (.b false :: []))), .br false, .reg (arCA_4 r814 r817), .reg (.n :: .call (VV.tu [VV.ag (c_SRange r821.1), vi r821.2]) :: nN 6 []), .reg (nN 7 (.b false :: [])), .br true, .reg (.n :: [])]) (fr := true) (by kernel_rfl) (an (an (ti trivial) (an (an (an (nawake_ok k _ h807) (ti trivial)) (an (not_f h808) trivial)) (an (an e812 (an (decide_eq_false h813) trivial)) (an e820 (an e824 (an e829 (an (not_t (bool_f h830)) (an (ti trivial) trivial)))))))) (ti trivial)) (Wv.refl _)
     ·have e880 := (ti (ti (ti (ti (an (not_t (decide_eq_false h825)) (an (not_t (decide_eq_false h825)) (an (not_t (decide_eq_false h825)) (an (not_t (decide_eq_false h825)) trivial))))))))
      injection h with h; subst h
      exact fun_ok pm pn Go.Proofs.Try.func3 (r0 := vb false) (ans := [.reg (.n :: []), .reg (.call (vb r806) :: .n :: []), .br false, .reg (nN 7 (.b true :: nN 4 (.b false :: []))), .br false, .reg (arCA_4 r814 r817), .reg (.n :: .call (VV.tu [VV.ag (c_SRange r821.1), vi r821.2]) :: nN 6 []), .reg (nN 4 (nS 3 (.b true :: []))), .br true, .reg (.n :: [])]) (fr := true) (by kernel_rfl) (an (an (ti trivial) (an (an (an (nawake_ok k _ h807) (ti trivial)) (an (not_f h808) trivial)) (an (an e812 (an (decide_eq_false h813) trivial)) (an e820 (an e824 (an e880 (an rt (an (ti trivial) trivial)))))))) (ti trivial)) (Wv.refl _)
  ·have e881 := (ti (ti (ti (ti (an (decide_eq_false h809) (an (decide_eq_false h809) (an (decide_eq_false h809) (an (decide_eq_false h809) (ti (an (an rf trivial) (an (an rf trivial) (an (an rf trivial) (an rf trivial)))))))))))))
   rcases ifs h with ⟨h882, h⟩ | ⟨h882, h⟩
   ·injection h with h; subst h
    exact fun_ok pm pn Go.Proofs.Try.func3 (r0 := vb true) (ans := [.reg (.n :: []), .reg (.call (vb r806) :: .n :: []), .br false, .reg (nN 4 (nS 3 (.b false :: nN 4 (.b false :: [])))), .br true, .reg (.n :: [])]) (fr := true) (by kernel_rfl) (an (an (ti trivial) (an (an (an (nawake_ok k _ h807) (ti trivial)) (an (not_f h808) trivial)) (an e881 (an (decide_eq_true h882) (an (ti trivial) trivial))))) (ti trivial)) (Wv.refl _)
   ·obtain ⟨r883, h884, h⟩ := bs h
    have e885 := (show VC Go.Proofs.Try.prog 13 [VV.tr (List.flatMap c_SRange a0) a0.length] (VV.fr (List.flatMap c_SRange r883) r883.length) from (VC.weak (nspeculumbase_CopyRanges_ok k a0 _ h884) (Wv.fw rfl rfl)))
    obtain ⟨r886, h887, h⟩ := bs h
    have e888 := (nsupport_PeakToValley_ok k r883 _ h887)
    have e889 := (ti (an e885 (an e888 (ti (ti (ti (ti (ti (ti trivial)))))))))
    obtain ⟨r890, h891, h⟩ := bs h
    have e892 := (nspeculumref07_PeakToValley_ok k a0 _ h891)
    have e893 := (ti (an e892 (ti (ti (ti (ti (ti (ti trivial))))))))
    rcases ifs h with ⟨h894, h⟩ | ⟨h894, h⟩
    ·have e895 := (an (not_f (decide_eq_true h894)) trivial)
     have e896 := (an (not_f (decide_eq_true h894)) trivial)
     have e897 := (an (not_f (decide_eq_true h894)) (show List.map kdV [Value.int .i64 r886.1.Lo, Value.int .i64 r886.1.Hi] = List.map kdV [Value.int .i64 r890.1.Lo, Value.int .i64 r890.1.Hi] ∧ EqOK Go.Proofs.Try.prog 26 (List.map kdV [Value.int .i64 r890.1.Lo, Value.int .i64 r890.1.Hi]) from ⟨rfl, eqok26⟩))
     have e898 := (ti (ti (ti (ti (an e895 (an e896 (an e897 (an (not_f (decide_eq_true h894)) trivial))))))))
     rcases ifs h with ⟨h899, h⟩ | ⟨h899, h⟩
     ·rcases ifs h with ⟨h900, h⟩ | ⟨h900, h⟩
      ·have e901 := (an (not_f (decide_eq_true h900)) trivial)
       have e902 := (an (not_f (decide_eq_true h900)) trivial)
       have e903 := (an (not_f (decide_eq_true h900)) trivial)
       have e904 := (an (not_f (decide_eq_true h900)) trivial)
       have e905 := (an (not_f (decide_eq_true h900)) trivial)
       have e906 := (ti (ti (ti (an e901 (an e902 (an e903 (an e904 (an e905 (an (not_f (decide_eq_true h900)) trivial)))))))))
       rcases ifs h with ⟨h907, h⟩ | ⟨h907, h⟩
       ·injection h with h; subst h
        exact fun_ok pm pn Go.Proofs.Try.func3 (r0 := vb true) (ans := [.reg (.n :: []), .reg (.call (vb r806) :: .n :: []), .br false, .reg (nN 4 (nS 3 (.b false :: nN 4 (.b false :: [])))), .br false, .reg (arCA_4 r883 r886), .reg (.n :: .call (VV.tu [VV.ag (c_SRange r890.1), vi r890.2]) :: nN 6 []), .reg (nN 7 (.b false :: [])), .br false, .reg (nN 8 (.b false :: [])), .br true, .reg (.n :: [])]) (fr := true) (by kernel_rfl) (an (an (ti trivial) (an (an (an (nawake_ok k _ h807) (ti trivial)) (an (not_f h808) trivial)) (an (an e881 (an (decide_eq_false h882) trivial)) (an e889 (an e893 (an (an e898 (an (not_f h899) trivial)) (an e906 (an (decide_eq_true h907) (an (ti trivial) trivial))))))))) (ti trivial)) (Wv.refl _)
       ·obtain ⟨r942, h941, h⟩ := bs h
        have hph941 := nspeculumlaw07_SupportPeaks_l0_1_ok k a0 a1 r886 _ _ _ _ _ h941
        have e943 := (an (ti trivial) (VRun.loop hph941))
        obtain ⟨r944, h945, h⟩ := bs h
        have e946 := (nspeculumbase_Within_ok k (w64 (r942.1 - r942.2)) r886.1.Lo r886.1.Hi _ h945)
        have e947 := (ti (ti (ti (ti (ti (ti (ti (an e946 (ti trivial)))))))))
        injection h with h; subst h
        exact fun_ok pm pn Go.Proofs.Try.func3 (r0 := vb r944) (ans := [.reg (.n :: []), .reg (.call (vb r806) :: .n :: []), .br false, .reg (nN 4 (nS 3 (.b false :: nN 4 (.b false :: [])))), .br false, .reg (arCA_4 r883 r886), .reg (.n :: .call (VV.tu [VV.ag (c_SRange r890.1), vi r890.2]) :: nN 6 []), .reg (nN 7 (.b false :: [])), .br false, .reg (nN 8 (.b false :: [])), .br false, .reg (.n :: .n :: []), .reg (.n :: []), .sub ⟨[(0, none), (1, none), (5, none), (9, none), (10, none), (11, none)], [none], []⟩ (.exit 0) (nspeculumlaw07_SupportPeaks_l0_1_e0 a0 a1 r886 r942), .reg (nN 7 (.call (vb r944) :: .n :: []))]) (fr := true) (by kernel_rfl) (an (an (ti trivial) (an (an (an (nawake_ok k _ h807) (ti trivial)) (an (not_f h808) trivial)) (an (an e881 (an (decide_eq_false h882) trivial)) (an e889 (an e893 (an (an e898 (an (not_f h899) trivial)) (an (an e906 (an (decide_eq_false h907) trivial)) (an (ti (ti trivial)) (an (an (ti trivial) e943) (an e947 trivial)))))))))) (ti trivial)) (Wv.refl _)
      ·have e948 := (ti (ti (ti (an (not_t (decide_eq_false h900)) (an (not_t (decide_eq_false h900)) (an (not_t (decide_eq_false h900)) (an (not_t (decide_eq_false h900)) (an (not_t (decide_eq_false h900)) (an (not_t (decide_eq_false h900)) trivial)))))))))
       injection h with h; subst h
       exact fun_ok pm pn Go.Proofs.Try.func3 (r0 := vb true) (ans := [.reg (.n :: []), .reg (.call (vb r806) :: .n :: []), .br false, .reg (nN 4 (nS 3 (.b false :: nN 4 (.b false :: [])))), .br false, .reg (arCA_4 r883 r886), .reg (.n :: .call (VV.tu [VV.ag (c_SRange r890.1), vi r890.2]) :: nN 6 []), .reg (nN 7 (.b false :: [])), .br false, .reg (nN 3 (nS 5 (.b true :: []))), .br true, .reg (.n :: [])]) (fr := true) (by kernel_rfl) (an (an (ti trivial) (an (an (an (nawake_ok k _ h807) (ti trivial)) (an (not_f h808) trivial)) (an (an e881 (an (decide_eq_false h882) trivial)) (an e889 (an e893 (an (an e898 (an (not_f h899) trivial)) (an e948 (an rt (an (ti trivial) trivial))))))))) (ti trivial)) (Wv.refl _)
     ·injection h with h; subst h
      exact fun_ok pm pn Go.Proofs.Try.func3 (r0 := vb false) (ans := [.reg (.n :: []), .reg (.call (vb r806) :: .n :: []), .br false, .reg (nN 4 (nS 3 (.b false :: nN 4 (.b false :: [])))), .br false, .reg (arCA_4 r883 r886), .reg (.n :: .call (VV.tu [VV.ag (c_SRange r890.1), vi r890.2]) :: nN 6 []), .reg (nN 7 (.b false :: [])), .br true, .reg (.n :: [])]) (fr := true) (by kernel_rfl) (an (an (ti trivial) (an (an (an (nawake_ok k _ h807) (ti trivial)) (an (not_f h808) trivial)) (an (an e881 (an (decide_eq_false h882) trivial)) (an e889 (an e893 (an e898 (an (not_t (bool_f h899)) (an (ti trivial) trivial)))))))) (ti trivial)) (Wv.refl _)
    ·have e949 := (ti (ti (ti (ti (an (not_t (decide_eq_false h894)) (an (not_t (decide_eq_false h894)) (an (not_t (decide_eq_false h894)) (an (not_t (decide_eq_false h894)) trivial))))))))
     injection h with h; subst h
     exact fun_ok pm pn Go.Proofs.Try.func3 (r0 := vb false) (ans := [.reg (.n :: []), .reg (.call (vb r806) :: .n :: []), .br false, .reg (nN 4 (nS 3 (.b false :: nN 4 (.b false :: [])))), .br false, .reg (arCA_4 r883 r886), .reg (.n :: .call (VV.tu [VV.ag (c_SRange r890.1), vi r890.2]) :: nN 6 []), .reg (nN 4 (nS 3 (.b true :: []))), .br true, .reg (.n :: [])]) (fr := true) (by kernel_rfl) (an (an (ti trivial) (an (an (an (nawake_ok k _ h807) (ti trivial)) (an (not_f h808) trivial)) (an (an e881 (an (decide_eq_false h882) trivial)) (an e889 (an e893 (an e949 (an rt (an (ti trivial) trivial)))))))) (ti trivial)) (Wv.refl _)
 ·injection h with h; subst h
  exact fun_ok pm pn Go.Proofs.Try.func3 (r0 := vb false) (ans := [.reg (.n :: []), .reg (.call (vb r806) :: .n :: []), .br true, .reg (.n :: [])]) (fr := true) (by kernel_rfl) (an (an (ti trivial) (an (an (nawake_ok k _ h807) (ti trivial)) (an (not_t (bool_f h808)) (an (ti trivial) trivial)))) (ti trivial)) (Wv.refl _)
end Go.Proofs.Ytpaclgmigndilaa.Vg

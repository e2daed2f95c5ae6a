/- Written by a program out of the program: what Go functions do, as plain functions, and their contracts. -/
import Derived.Test.YtgaopkhkabbcfaaO2
namespace Go.Proofs.Ytgaopkhkabbcfaa.Vg
set_option maxRecDepth 100000
set_option maxHeartbeats 4000000
set_option linter.unusedVariables false
set_option linter.unusedSimpArgs false
open Go Go.Proofs.Ytgaopkhkabbcfaa.Ev Go.Proofs.Ytgaopkhkabbcfaa.Vv
theorem ag3 : isAggT Go.Proofs.Try.prog 3 = some false := by kernel_rfl
theorem ag34 : isAggT Go.Proofs.Try.prog 34 = some true := by kernel_rfl
theorem sz34 : szOf Go.Proofs.Try.prog 34 = some 2 := by kernel_rfl
def nspeculumbase_CopyInts (k : Nat) (a0 : (List Int)) : Option (List Int) :=
  if ([] : List Int).length + a0.length ≤ 1000000000 then (some (([] : List Int) ++ a0)) else none
theorem nspeculumbase_CopyInts_ok (k : Nat) (a0 : (List Int)) (r : (List Int)) (h : nspeculumbase_CopyInts k a0 = some r) : VC Go.Proofs.Try.prog 19 [VV.tr (List.map vi a0) a0.length] (VV.fw 1 (List.map vi r) r.length) := by
 unfold nspeculumbase_CopyInts at h
 obtain ⟨h2055, h⟩ := ifn h
 have e2056 := (show List.length [] = 0 * 1 ∧ List.length (List.map vi a0) = a0.length * 1 ∧ (0 + a0.length) * 8 ≤ 140737488355328 ∧ 0 + a0.length < 1099511627776 ∧ List.all (List.map vi a0) VV.still = true from ⟨(by rw [show [] = List.map vi ([] : List Int) from rfl]; simp), (by simp), (by first | omega | (simp at h2055 ⊢; omega)), (by first | omega | (simp at h2055 ⊢; omega)), (by exact still_vi _)⟩)
 injection h with h; subst h
 exact fun_ok pm pn Go.Proofs.Try.func19 (r0 := VV.fw 1 (List.drop 0 (List.map unfr ([] ++ (List.map vi a0)))) (0 + a0.length)) (ans := [.reg (.n :: []), .reg (nN 4 [])]) (fr := true) (by kernel_rfl) (an (an (ti trivial) (an (ti (ti (an e2056 (ti trivial)))) trivial)) (an (show List.all ([] ++ (List.map vi a0)) new0 = true from (by rw [show [] ++ (List.map vi a0) = List.map vi (([] : List Int) ++ a0) from (by rw [show [] = List.map vi ([] : List Int) from rfl]; exact List.map_append.symm)]; exact new0_vi _)) trivial)) (Wv.of_eq (by simp only [show [] ++ (List.map vi a0) = List.map vi (([] : List Int) ++ a0) from (by rw [show [] = List.map vi ([] : List Int) from rfl]; exact List.map_append.symm), drop0, unfr_vi, unfr_vb, unfr_vs, List.map_cons, List.map_nil, un_i, un_k, un_b, un_s, un_tr, un_fr, List.length_map, List.length_replicate, List.length_append, List.length_set, List.length_cons, List.length_nil, unfr_c_SElement, unfr_c_SFrac, unfr_c_Sway, unfr_c_SMatrix, unfr_c_SPair, unfr_c_SConic, unfr_c_SRange, unfr_c_SSpot, unfr_c_A77, unfr_c_A72]))
def noptics_SagTable_l0_0_h (a0 : SConic) (a1 : (List Int)) (y1 : List SRange) (x25 : Int) : VS := ⟨mkA [(2, VV.pt 0 0), (7, VV.rf 1 0 y1.length), (23, VV.tr (List.map vi a1) a1.length), (24, vi (a1.length : Int)), (25, vi x25)], [some ⟨true, 1, c_SConic a0⟩, some ⟨false, 2, List.flatMap c_SRange y1⟩], .nil⟩
def noptics_SagTable_l0_0_e0 (a0 : SConic) (a1 : (List Int)) (r : Int) : VS := ⟨mkA [(4, VV.c (.slice none 0 0)), (5, vi r)], [], .nil⟩
def noptics_SagTable_l0_0_e1 (a0 : SConic) (a1 : (List Int)) (r : (List SRange)) : VS := ⟨mkA [(7, VV.rf 1 0 r.length)], [some ⟨true, 1, c_SConic a0⟩, some ⟨false, 2, List.flatMap c_SRange r⟩], .nil⟩
def noptics_SagTable_l0_0 (k : Nat) (a0 : SConic) (a1 : (List Int)) : Nat → (List SRange) → Int → Option (Sum Int (List SRange))
  | 0, _, _ => none
  | fuel + 1, y1, x25 => if x25 < (a1.length : Int) then (if 0 ≤ x25 ∧ x25 < (a1.length : Int) then ((noptics_Sag k a0 (a1.getD x25.toNat 0)).bind fun r2137 => (if r2137.2 = 0 then (if 0 ≤ x25 ∧ x25 < (y1.length : Int) then (noptics_SagTable_l0_0 k a0 a1 fuel (y1.set x25.toNat r2137.1) (w64 (x25 + 1))) else none) else (some (.inl r2137.2)))) else none) else (some (.inr y1))
theorem noptics_SagTable_l0_0_ok (k : Nat) (a0 : SConic) (a1 : (List Int)) : ∀ (fuel : Nat) (y1 : List SRange) (x25 : Int) (r : Sum Int (List SRange)), noptics_SagTable_l0_0 k a0 a1 fuel y1 x25 = some r → (match r with | .inl r => VLoop none Go.Proofs.Try.prog (szF Go.Proofs.Try.f18) (bodyOf Go.Proofs.Try.f18 0) (noptics_SagTable_l0_0_h a0 a1 y1 x25) .ret (noptics_SagTable_l0_0_e0 a0 a1 r) | .inr r => VLoop none Go.Proofs.Try.prog (szF Go.Proofs.Try.f18) (bodyOf Go.Proofs.Try.f18 0) (noptics_SagTable_l0_0_h a0 a1 y1 x25) (.exit 0) (noptics_SagTable_l0_0_e1 a0 a1 r)) := by
 intro fuel
 induction fuel with
 | zero => intro y1 x25 r h; rw [noptics_SagTable_l0_0.eq_1] at h; cases h
 | succ fuel ih =>
  intro y1 x25 r h
  rw [noptics_SagTable_l0_0.eq_2] at h
  rcases ifs h with ⟨h2134, h⟩ | ⟨h2134, h⟩
  ·obtain ⟨h2135, h⟩ := ifn h
   have e2136 := (show loadL Go.Proofs.Try.prog 3 (x25.toNat * 1) (List.map vi a1) = some (vi (a1.getD x25.toNat 0)) from ld_map ag3 vi a1 0 h2135 (by omega))
   obtain ⟨r2137, h2138, h⟩ := bs h
   have e2139 := (noptics_Sag_ok k a0 (a1.getD x25.toNat 0) _ h2138)
   have e2140 := (ti (ti (an e2139 (ti (ti (ti (ti (ti (ti trivial)))))))))
   rcases ifs h with ⟨h2141, h⟩ | ⟨h2141, h⟩
   ·obtain ⟨h2142, h⟩ := ifn h
    have e2143 := (show (0 + x25.toNat * 2) + 2 ≤ List.length (List.flatMap c_SRange y1) from (by rw [flat_len len_c_SRange]; have := h2142; omega))
    have h2 := ih _ _ _ h
    obtain ⟨q, hv, hq⟩ := pkR (rd := none) (P := Go.Proofs.Try.prog) (fn := Go.Proofs.Try.f18) (k := 0) (s := (noptics_SagTable_l0_0_h a0 a1 y1 x25)) (ans := [.reg (.n :: []), .br true, .reg (.n :: .n :: .v (vi (a1.getD x25.toNat 0)) :: .n :: .n :: []), .reg (.n :: .n :: .call (VV.tu [VV.ag (c_SRange r2137.1), vi r2137.2]) :: nN 6 []), .reg (.n :: .n :: []), .br false, .reg (nN 5 []), .reg (.n :: .n :: [])]) (c := ⟨[(2, none), (7, some (VV.rf 1 0 ((y1.set x25.toNat r2137.1).length))), (23, none), (24, none), (25, none)], [none, some (List.flatMap c_SRange (y1.set x25.toNat r2137.1))], []⟩) (e := .normal) (s1 := (noptics_SagTable_l0_0_h a0 a1 (y1.set x25.toNat r2137.1) (w64 (x25 + 1)))) (an (an (ti trivial) (an (an (decide_eq_true h2134) trivial) (an (an (ti (an h2135 (an e2136 (ti (ti trivial))))) (an e2140 (an (an (ti (ti trivial)) (an (not_f (decide_eq_true h2141)) trivial)) (ti (ti (ti (an h2142 (an e2143 trivial)))))))) (ti (ti trivial))))) (an (an (show Wv (VV.rf 1 0 y1.length) (VV.rf 1 0 ((y1.set x25.toNat r2137.1).length)) from (Wv.of_eq (by simp))) trivial) (an (show putT (0 + x25.toNat * 2) (List.flatMap c_SRange y1) [vi r2137.1.Lo, vi r2137.1.Hi] = List.flatMap c_SRange (y1.set x25.toNat r2137.1) from (by exact putT_flat len_c_SRange y1 h2142 r2137.1 (by omega))) trivial))) (by kernel_rfl)
    cases r with
    | inl r => exact round_next pm pn hv hq h2
    | inr r =>
     exact round_next pm pn hv hq h2
   ·injection h with h; subst h
    exact round_stop (c := ⟨[(4, none), (5, none)], [], []⟩) (s1 := (noptics_SagTable_l0_0_e0 a0 a1 r2137.2)) pm pn (ans := [.reg (.n :: []), .br true, .reg (.n :: .n :: .v (vi (a1.getD x25.toNat 0)) :: .n :: .n :: []), .reg (.n :: .n :: .call (VV.tu [VV.ag (c_SRange r2137.1), vi r2137.2]) :: nN 6 []), .reg (.n :: .n :: []), .br true, .reg (nN 3 [])]) (by kernel_rfl) (by intro e; cases e) (an (an (ti trivial) (an (an (decide_eq_true h2134) trivial) (an (ti (an h2135 (an e2136 (ti (ti trivial))))) (an e2140 (an (ti (ti trivial)) (an (not_t (decide_eq_false h2141)) (an (ti (ti (ti trivial))) trivial))))))) (ti trivial))
  ·injection h with h; subst h
   exact round_stop (c := ⟨[(7, none)], [none, none], []⟩) (s1 := (noptics_SagTable_l0_0_e1 a0 a1 y1)) pm pn (ans := [.reg (.n :: []), .br false]) (by kernel_rfl) (by intro e; cases e) (an (an (ti trivial) (an (decide_eq_false h2134) trivial)) (ti trivial))
theorem eqOT_0 (z0 : (List SRange)) : VV.tu [VV.fw 2 (List.drop 0 (List.map unfr (List.flatMap c_SRange z0))) z0.length, vi 0] = VV.tu [VV.fw 2 (List.flatMap c_SRange z0) z0.length, vi 0] := by first | rfl | (simp only [drop0, unfr_vi, List.map_cons, List.map_nil, un_i, List.length_map, List.length_cons, List.length_nil, unfr_c_SRange]; done) | (simp only [drop0, unfr_vi, List.map_cons, List.map_nil, un_i, List.length_map, List.length_cons, List.length_nil, unfr_c_SRange]; rfl) | (simp only [drop0, unfr_vi, List.map_cons, List.map_nil, un_i, List.length_map, List.length_cons, List.length_nil, unfr_c_SRange, c_SRange, List.length_cons, List.length_nil, List.length_append]; done)
def noptics_SagTable (k : Nat) (a0 : SConic) (a1 : (List Int)) : Option ((List SRange) × Int) :=
  (noptics_CheckConic k a0).bind fun r2105 => (if r2105 = 0 then (if 40 < (a1.length : Int) then (some ([], 8)) else (if 0 ≤ (a1.length : Int) ∧ (a1.length : Int) ≤ 1000000000 then ((noptics_SagTable_l0_0 k a0 a1 k (List.replicate (a1.length : Int).toNat (⟨0, 0⟩ : SRange)) 0).bind fun r2145 => (match r2145 with | .inl r2146 => (some ([], r2146)) | .inr r2147 => (some (r2147, 0)))) else none)) else (some ([], r2105)))
theorem noptics_SagTable_ok (k : Nat) (a0 : SConic) (a1 : (List Int)) (r : ((List SRange) × Int)) (h : noptics_SagTable k a0 a1 = some r) : VC Go.Proofs.Try.prog 18 [VV.ag (c_SConic a0), VV.tr (List.map vi a1) a1.length] (VV.tu [VV.fw 2 (List.flatMap c_SRange r.1) r.1.length, vi r.2]) := by
 unfold noptics_SagTable at h
 obtain ⟨r2105, h2106, h⟩ := bs h
 have e2107 := (ti (an (noptics_CheckConic_ok k a0 _ h2106) (ti trivial)))
 rcases ifs h with ⟨h2108, h⟩ | ⟨h2108, h⟩
 ·rcases ifs h with ⟨h2109, h⟩ | ⟨h2109, h⟩
  ·injection h with h; subst h
   exact fun_ok pm pn Go.Proofs.Try.func18 (r0 := VV.tu [VV.c (.slice none 0 0), vi 8]) (ans := [.reg (nN 3 []), .reg (.n :: .call (vi r2105) :: .n :: []), .reg (.n :: .n :: []), .br false, .reg (nN 3 []), .br true, .reg (.n :: .n :: [])]) (fr := true) (by kernel_rfl) (an (an (ti (ti (ti trivial))) (an (an e2107 (an (ti (ti trivial)) (an (not_f (decide_eq_true h2108)) trivial))) (an (ti (ti (ti trivial))) (an (decide_eq_true h2109) (an (ti (ti trivial)) trivial))))) (ti (ti trivial))) (Wv.tuL (.cons Wv.nilFw (.cons (Wv.refl _) .nil)))
  ·obtain ⟨h2110, h⟩ := ifn h
   have e2111 := (show 0 ≤ (a1.length : Int) ∧ (a1.length : Int) = (a1.length : Int) ∧ (16 * (a1.length : Int).toNat) ≤ 281474976710656 ∧ (a1.length : Int) < 1099511627776 from ⟨by omega, rfl, by omega, by omega⟩)
   obtain ⟨r2145, h2144, h⟩ := bs h
   have hph2144 := noptics_SagTable_l0_0_ok k a0 a1 _ _ _ _ h2144
   cases r2145 with
   | inl r2146 =>
    dsimp only at h
    have e2148 := (an (an (an (show Wv (VV.rf 1 0 ((a1.length : Int).toNat)) (VV.rf 1 0 ((List.replicate (a1.length : Int).toNat (⟨0, 0⟩ : SRange)).length)) from (Wv.of_eq (by simp))) trivial) (an (show zeroCells (.agg #[.int .i64 0, .int .i64 0]) ((a1.length : Int).toNat * 2) = List.flatMap c_SRange (List.replicate (a1.length : Int).toNat (⟨0, 0⟩ : SRange)) from zero_flat c_SRange (.agg #[.int .i64 0, .int .i64 0]) (⟨0, 0⟩ : SRange) 2 (by decide) rfl rfl _) trivial)) (VRun.loop hph2144))
    injection h with h; subst h
    exact fun_ok pm pn Go.Proofs.Try.func18 (r0 := VV.tu [VV.c (.slice none 0 0), vi r2146]) (ans := [.reg (nN 3 []), .reg (.n :: .call (vi r2105) :: .n :: []), .reg (.n :: .n :: []), .br false, .reg (nN 3 []), .br false, .reg (nN 4 []), .reg (nN 3 []), .sub ⟨[(2, none), (7, some (VV.rf 1 0 ((List.replicate (a1.length : Int).toNat (⟨0, 0⟩ : SRange)).length))), (23, none), (24, none), (25, none)], [none, some (List.flatMap c_SRange (List.replicate (a1.length : Int).toNat (⟨0, 0⟩ : SRange)))], []⟩ .ret (noptics_SagTable_l0_0_e0 a0 a1 r2146)]) (fr := true) (by kernel_rfl) (an (an (ti (ti (ti trivial))) (an (an e2107 (an (ti (ti trivial)) (an (not_f (decide_eq_true h2108)) trivial))) (an (an (ti (ti (ti trivial))) (an (decide_eq_false h2109) trivial)) (an (ti (ti (an e2111 (ti trivial)))) (an (ti (ti (ti trivial))) e2148))))) (ti (ti trivial))) (Wv.tuL (.cons Wv.nilFw (.cons (Wv.refl _) .nil)))
   | inr r2147 =>
    dsimp only at h
    have e2149 := (an (an (an (show Wv (VV.rf 1 0 ((a1.length : Int).toNat)) (VV.rf 1 0 ((List.replicate (a1.length : Int).toNat (⟨0, 0⟩ : SRange)).length)) from (Wv.of_eq (by simp))) trivial) (an (show zeroCells (.agg #[.int .i64 0, .int .i64 0]) ((a1.length : Int).toNat * 2) = List.flatMap c_SRange (List.replicate (a1.length : Int).toNat (⟨0, 0⟩ : SRange)) from zero_flat c_SRange (.agg #[.int .i64 0, .int .i64 0]) (⟨0, 0⟩ : SRange) 2 (by decide) rfl rfl _) trivial)) (VRun.loop hph2144))
    injection h with h; subst h
    exact fun_ok pm pn Go.Proofs.Try.func18 (r0 := VV.tu [VV.fw 2 (List.drop 0 (List.map unfr (List.flatMap c_SRange r2147))) r2147.length, vi 0]) (ans := [.reg (nN 3 []), .reg (.n :: .call (vi r2105) :: .n :: []), .reg (.n :: .n :: []), .br false, .reg (nN 3 []), .br false, .reg (nN 4 []), .reg (nN 3 []), .sub ⟨[(2, none), (7, some (VV.rf 1 0 ((List.replicate (a1.length : Int).toNat (⟨0, 0⟩ : SRange)).length))), (23, none), (24, none), (25, none)], [none, some (List.flatMap c_SRange (List.replicate (a1.length : Int).toNat (⟨0, 0⟩ : SRange)))], []⟩ (.exit 0) (noptics_SagTable_l0_0_e1 a0 a1 r2147), .reg (nN 3 [])]) (fr := true) (by kernel_rfl) (an (an (ti (ti (ti trivial))) (an (an e2107 (an (ti (ti trivial)) (an (not_f (decide_eq_true h2108)) trivial))) (an (an (ti (ti (ti trivial))) (an (decide_eq_false h2109) trivial)) (an (ti (ti (an e2111 (ti trivial)))) (an (an (ti (ti (ti trivial))) e2149) (an (ti (ti (ti trivial))) trivial)))))) (an (show List.all (List.flatMap c_SRange r2147) new0 = true from (by exact new0_c_SRange _)) (ti trivial))) (Wv.of_eq (eqOT_0 r2147))
 ·injection h with h; subst h
  exact fun_ok pm pn Go.Proofs.Try.func18 (r0 := VV.tu [VV.c (.slice none 0 0), vi r2105]) (ans := [.reg (nN 3 []), .reg (.n :: .call (vi r2105) :: .n :: []), .reg (.n :: .n :: []), .br true, .reg (nN 3 [])]) (fr := true) (by kernel_rfl) (an (an (ti (ti (ti trivial))) (an e2107 (an (ti (ti trivial)) (an (not_t (decide_eq_false h2108)) (an (ti (ti (ti trivial))) trivial))))) (ti (ti trivial))) (Wv.tuL (.cons Wv.nilFw (.cons (Wv.refl _) .nil)))
def arOT_0 (z0 : (List Int)) (z1 : Int) (z2 : (SRange × Int)) : List Ans := (nN 4 (.v (vi (z0.getD z1.toNat 0)) :: .call (VV.tu [VV.ag (c_SRange z2.1), vi z2.2]) :: nN 6 []))
def nspeculumref02_SagTable_l0_0_h (a0 : SConic) (a1 : (List Int)) (y1 : List SRange) (x7 : Int) : VS := ⟨mkA [(1, VV.tr (List.map vi a1) a1.length), (2, VV.pt 0 0), (6, VV.rf 1 0 y1.length), (7, vi x7)], [some ⟨true, 1, c_SConic a0⟩, some ⟨false, 2, List.flatMap c_SRange y1⟩], .nil⟩
def nspeculumref02_SagTable_l0_0_e0 (a0 : SConic) (a1 : (List Int)) (r : Int) : VS := ⟨mkA [(4, VV.c (.slice none 0 0)), (5, vi r)], [], .nil⟩
def nspeculumref02_SagTable_l0_0_e1 (a0 : SConic) (a1 : (List Int)) (r : (List SRange)) : VS := ⟨mkA [(6, VV.rf 1 0 r.length)], [some ⟨true, 1, c_SConic a0⟩, some ⟨false, 2, List.flatMap c_SRange r⟩], .nil⟩
def nspeculumref02_SagTable_l0_0 (k : Nat) (a0 : SConic) (a1 : (List Int)) : Nat → (List SRange) → Int → Option (Sum Int (List SRange))
  | 0, _, _ => none
  | fuel + 1, y1, x7 => if x7 < (a1.length : Int) then (if 0 ≤ x7 ∧ x7 < (a1.length : Int) then ((nspeculumref02_Sag k a0 (a1.getD x7.toNat 0)).bind fun r2240 => (if r2240.2 = 0 then (if y1.length + ([r2240.1] : List SRange).length ≤ 1000000000 then (nspeculumref02_SagTable_l0_0 k a0 a1 fuel (y1 ++ ([r2240.1] : List SRange)) (w64 (x7 + 1))) else none) else (some (.inl r2240.2)))) else none) else (some (.inr y1))
theorem nspeculumref02_SagTable_l0_0_ok (k : Nat) (a0 : SConic) (a1 : (List Int)) : ∀ (fuel : Nat) (y1 : List SRange) (x7 : Int) (r : Sum Int (List SRange)), nspeculumref02_SagTable_l0_0 k a0 a1 fuel y1 x7 = some r → (match r with | .inl r => VLoop none Go.Proofs.Try.prog (szF Go.Proofs.Try.f20) (bodyOf Go.Proofs.Try.f20 0) (nspeculumref02_SagTable_l0_0_h a0 a1 y1 x7) .ret (nspeculumref02_SagTable_l0_0_e0 a0 a1 r) | .inr r => VLoop none Go.Proofs.Try.prog (szF Go.Proofs.Try.f20) (bodyOf Go.Proofs.Try.f20 0) (nspeculumref02_SagTable_l0_0_h a0 a1 y1 x7) (.exit 0) (nspeculumref02_SagTable_l0_0_e1 a0 a1 r)) := by
 intro fuel
 induction fuel with
 | zero => intro y1 x7 r h; rw [nspeculumref02_SagTable_l0_0.eq_1] at h; cases h
 | succ fuel ih =>
  intro y1 x7 r h
  rw [nspeculumref02_SagTable_l0_0.eq_2] at h
  rcases ifs h with ⟨h2237, h⟩ | ⟨h2237, h⟩
  ·obtain ⟨h2238, h⟩ := ifn h
   have e2239 := (show loadL Go.Proofs.Try.prog 3 (x7.toNat * 1) (List.map vi a1) = some (vi (a1.getD x7.toNat 0)) from ld_map ag3 vi a1 0 h2238 (by omega))
   obtain ⟨r2240, h2241, h⟩ := bs h
   have e2242 := (nspeculumref02_Sag_ok k a0 (a1.getD x7.toNat 0) _ h2241)
   have e2243 := (ti (ti (ti (an h2238 (an e2239 (an e2242 (ti (ti (ti (ti (ti (ti trivial))))))))))))
   rcases ifs h with ⟨h2244, h⟩ | ⟨h2244, h⟩
   ·obtain ⟨h2245, h⟩ := ifn h
    have e2246 := (show List.length (List.flatMap c_SRange y1) = y1.length * 2 ∧ List.length [vi r2240.1.Lo, vi r2240.1.Hi] = 1 * 2 ∧ (y1.length + 1) * 16 ≤ 140737488355328 ∧ y1.length + 1 < 1099511627776 ∧ List.all [vi r2240.1.Lo, vi r2240.1.Hi] VV.still = true from ⟨(by rw [flatMap_len len_c_SRange] <;> simp), (by rw [show [vi r2240.1.Lo, vi r2240.1.Hi] = List.flatMap c_SRange ([r2240.1] : List SRange) from rfl]; rw [flatMap_len len_c_SRange] <;> simp), (by first | omega | (simp at h2245 ⊢; omega)), (by first | omega | (simp at h2245 ⊢; omega)), (by rw [show [vi r2240.1.Lo, vi r2240.1.Hi] = List.flatMap c_SRange ([r2240.1] : List SRange) from rfl]; exact still_c_SRange _)⟩)
    have h2 := ih _ _ _ h
    obtain ⟨q, hv, hq⟩ := pkR (rd := none) (P := Go.Proofs.Try.prog) (fn := Go.Proofs.Try.f20) (k := 0) (s := (nspeculumref02_SagTable_l0_0_h a0 a1 y1 x7)) (ans := [.reg (nN 4 []), .br true, .reg (arOT_0 a1 x7 r2240), .reg (.n :: .n :: []), .br false, .reg (nN 5 []), .reg (nN 3 [])]) (c := ⟨[(1, none), (2, none), (6, some (VV.rf 1 0 ((y1 ++ ([r2240.1] : List SRange)).length))), (7, none)], [none, some (List.flatMap c_SRange (y1 ++ ([r2240.1] : List SRange)))], []⟩) (e := .normal) (s1 := (nspeculumref02_SagTable_l0_0_h a0 a1 (y1 ++ ([r2240.1] : List SRange)) (w64 (x7 + 1)))) (an (an (an (ti (ti (ti (ti trivial)))) (an (decide_eq_true h2237) trivial)) (an (an e2243 (an (an (ti (ti trivial)) (an (not_f (decide_eq_true h2244)) trivial)) (ti (ti (ti (an e2246 (ti trivial))))))) (ti (ti (ti trivial))))) (an (an (show Wv (VV.rf 1 0 (y1.length + 1)) (VV.rf 1 0 ((y1 ++ ([r2240.1] : List SRange)).length)) from (Wv.of_eq (by simp))) trivial) (an (show (List.flatMap c_SRange y1) ++ [vi r2240.1.Lo, vi r2240.1.Hi] = List.flatMap c_SRange (y1 ++ ([r2240.1] : List SRange)) from (by rw [show [vi r2240.1.Lo, vi r2240.1.Hi] = List.flatMap c_SRange ([r2240.1] : List SRange) from rfl]; exact List.flatMap_append.symm)) trivial))) (by kernel_rfl)
    cases r with
    | inl r => exact round_next pm pn hv hq h2
    | inr r =>
     exact round_next pm pn hv hq h2
   ·injection h with h; subst h
    exact round_stop (c := ⟨[(4, none), (5, none)], [], []⟩) (s1 := (nspeculumref02_SagTable_l0_0_e0 a0 a1 r2240.2)) pm pn (ans := [.reg (nN 4 []), .br true, .reg (arOT_0 a1 x7 r2240), .reg (.n :: .n :: []), .br true, .reg (nN 3 [])]) (by kernel_rfl) (by intro e; cases e) (an (an (an (ti (ti (ti (ti trivial)))) (an (decide_eq_true h2237) trivial)) (an e2243 (an (ti (ti trivial)) (an (not_t (decide_eq_false h2244)) (an (ti (ti (ti trivial))) trivial))))) (ti trivial))
  ·injection h with h; subst h
   exact round_stop (c := ⟨[(6, none)], [none, none], []⟩) (s1 := (nspeculumref02_SagTable_l0_0_e1 a0 a1 y1)) pm pn (ans := [.reg (nN 4 []), .br false]) (by kernel_rfl) (by intro e; cases e) (an (an (ti (ti (ti (ti trivial)))) (an (decide_eq_false h2237) trivial)) (ti trivial))
def nspeculumref02_SagTable (k : Nat) (a0 : SConic) (a1 : (List Int)) : Option ((List SRange) × Int) :=
  if 40 < (a1.length : Int) then (some ([], 8)) else ((nspeculumref02_SagTable_l0_0 k a0 a1 k ([] : List SRange) 0).bind fun r2248 => (match r2248 with | .inl r2249 => (some ([], r2249)) | .inr r2250 => (some (r2250, 0))))
theorem nspeculumref02_SagTable_ok (k : Nat) (a0 : SConic) (a1 : (List Int)) (r : ((List SRange) × Int)) (h : nspeculumref02_SagTable k a0 a1 = some r) : VC Go.Proofs.Try.prog 20 [VV.ag (c_SConic a0), VV.tr (List.map vi a1) a1.length] (VV.tu [VV.fw 2 (List.flatMap c_SRange r.1) r.1.length, vi r.2]) := by
 unfold nspeculumref02_SagTable at h
 rcases ifs h with ⟨h2206, h⟩ | ⟨h2206, h⟩
 ·injection h with h; subst h
  exact fun_ok pm pn Go.Proofs.Try.func20 (r0 := VV.tu [VV.c (.slice none 0 0), vi 8]) (ans := [.reg (nN 3 []), .reg (nN 3 []), .br true, .reg (.n :: .n :: [])]) (fr := true) (by kernel_rfl) (an (an (ti (ti (ti trivial))) (an (ti (ti (ti trivial))) (an (decide_eq_true h2206) (an (ti (ti trivial)) trivial)))) (ti (ti trivial))) (Wv.tuL (.cons Wv.nilFw (.cons (Wv.refl _) .nil)))
 ·obtain ⟨r2248, h2247, h⟩ := bs h
  have hph2247 := nspeculumref02_SagTable_l0_0_ok k a0 a1 _ _ _ _ h2247
  cases r2248 with
  | inl r2249 =>
   dsimp only at h
   have e2251 := (an (ti trivial) (VRun.loop hph2247))
   injection h with h; subst h
   exact fun_ok pm pn Go.Proofs.Try.func20 (r0 := VV.tu [VV.c (.slice none 0 0), vi r2249]) (ans := [.reg (nN 3 []), .reg (nN 3 []), .br false, .reg (.n :: []), .reg (.n :: []), .sub ⟨[(1, none), (2, none), (6, none), (7, none)], [none], [.t 6 2]⟩ .ret (nspeculumref02_SagTable_l0_0_e0 a0 a1 r2249)]) (fr := true) (by kernel_rfl) (an (an (ti (ti (ti trivial))) (an (an (ti (ti (ti trivial))) (an (decide_eq_false h2206) trivial)) (an (ti trivial) (an (ti trivial) e2251)))) (ti (ti trivial))) (Wv.tuL (.cons Wv.nilFw (.cons (Wv.refl _) .nil)))
  | inr r2250 =>
   dsimp only at h
   have e2252 := (an (ti trivial) (VRun.loop hph2247))
   injection h with h; subst h
   exact fun_ok pm pn Go.Proofs.Try.func20 (r0 := VV.tu [VV.fw 2 (List.drop 0 (List.map unfr (List.flatMap c_SRange r2250))) r2250.length, vi 0]) (ans := [.reg (nN 3 []), .reg (nN 3 []), .br false, .reg (.n :: []), .reg (.n :: []), .sub ⟨[(1, none), (2, none), (6, none), (7, none)], [none], [.t 6 2]⟩ (.exit 0) (nspeculumref02_SagTable_l0_0_e1 a0 a1 r2250), .reg (nN 3 [])]) (fr := true) (by kernel_rfl) (an (an (ti (ti (ti trivial))) (an (an (ti (ti (ti trivial))) (an (decide_eq_false h2206) trivial)) (an (ti trivial) (an (an (ti trivial) e2252) (an (ti (ti (ti trivial))) trivial))))) (an (show List.all (List.flatMap c_SRange r2250) new0 = true from (by exact new0_c_SRange _)) (ti trivial))) (Wv.of_eq (eqOT_0 r2250))
def arOT_1 (z0 : (List SRange)) (z1 : Int) (z2 : (List SRange)) : List Ans := (nN 3 (.v (VV.ag (c_SRange (z0.getD z1.toNat default))) :: nN 3 (.v (VV.ag (c_SRange (z2.getD z1.toNat default))) :: .n :: [])))
def nspeculumbase_Ranges_l0_0_h (a0 : (List SRange)) (a1 : (List SRange)) (x5 : Int) : VS := ⟨mkA [(0, VV.tr (List.flatMap c_SRange a0) a0.length), (1, VV.tr (List.flatMap c_SRange a1) a1.length), (5, vi x5)], [], .nil⟩
def nspeculumbase_Ranges_l0_0_e0 (a0 : (List SRange)) (a1 : (List SRange)) (r : Unit) : VS := ⟨mkA [(4, vb false)], [], .nil⟩
def nspeculumbase_Ranges_l0_0_e1 (a0 : (List SRange)) (a1 : (List SRange)) (r : Unit) : VS := ⟨mkA [], [], .nil⟩
def nspeculumbase_Ranges_l0_0 (k : Nat) (a0 : (List SRange)) (a1 : (List SRange)) : Nat → Int → Option (Sum Unit Unit)
  | 0, _ => none
  | fuel + 1, x5 => if x5 < (a0.length : Int) then (if 0 ≤ x5 ∧ x5 < (a0.length : Int) then (if 0 ≤ x5 ∧ x5 < (a1.length : Int) then (if (((a0.getD x5.toNat default).Lo : Int) == ((a1.getD x5.toNat default).Lo) && (((a0.getD x5.toNat default).Hi : Int) == ((a1.getD x5.toNat default).Hi) && true)) = true then (nspeculumbase_Ranges_l0_0 k a0 a1 fuel (w64 (x5 + 1))) else (some (.inl ()))) else none) else none) else (some (.inr ()))
theorem nspeculumbase_Ranges_l0_0_ok (k : Nat) (a0 : (List SRange)) (a1 : (List SRange)) : ∀ (fuel : Nat) (x5 : Int) (r : Sum Unit Unit), nspeculumbase_Ranges_l0_0 k a0 a1 fuel x5 = some r → (match r with | .inl r => VLoop none Go.Proofs.Try.prog (szF Go.Proofs.Try.f21) (bodyOf Go.Proofs.Try.f21 0) (nspeculumbase_Ranges_l0_0_h a0 a1 x5) .ret (nspeculumbase_Ranges_l0_0_e0 a0 a1 r) | .inr r => VLoop none Go.Proofs.Try.prog (szF Go.Proofs.Try.f21) (bodyOf Go.Proofs.Try.f21 0) (nspeculumbase_Ranges_l0_0_h a0 a1 x5) (.exit 0) (nspeculumbase_Ranges_l0_0_e1 a0 a1 r)) := by
 intro fuel
 induction fuel with
 | zero => intro x5 r h; rw [nspeculumbase_Ranges_l0_0.eq_1] at h; cases h
 | succ fuel ih =>
  intro x5 r h
  rw [nspeculumbase_Ranges_l0_0.eq_2] at h
  rcases ifs h with ⟨h2308, h⟩ | ⟨h2308, h⟩
  ·obtain ⟨h2309, h⟩ := ifn h
   have e2310 := (show loadL Go.Proofs.Try.prog 34 (x5.toNat * 2) (List.flatMap c_SRange a0) = some (VV.ag (c_SRange (a0.getD x5.toNat default))) from ld_whole ag34 c_SRange 2 sz34 len_c_SRange a0 default h2309 (by omega))
   obtain ⟨h2311, h⟩ := ifn h
   have e2312 := (show loadL Go.Proofs.Try.prog 34 (x5.toNat * 2) (List.flatMap c_SRange a1) = some (VV.ag (c_SRange (a1.getD x5.toNat default))) from ld_whole ag34 c_SRange 2 sz34 len_c_SRange a1 default h2311 (by omega))
   have e2313 := (show List.map kdV [Value.int .i64 ((a0.getD x5.toNat default).Lo), Value.int .i64 ((a0.getD x5.toNat default).Hi)] = List.map kdV [Value.int .i64 ((a1.getD x5.toNat default).Lo), Value.int .i64 ((a1.getD x5.toNat default).Hi)] ∧ EqOK Go.Proofs.Try.prog 34 (List.map kdV [Value.int .i64 ((a1.getD x5.toNat default).Lo), Value.int .i64 ((a1.getD x5.toNat default).Hi)]) from ⟨rfl, eqok34⟩)
   have e2314 := (ti (ti (an h2309 (an e2310 (ti (ti (an h2311 (an e2312 (an e2313 trivial)))))))))
   rcases ifs h with ⟨h2315, h⟩ | ⟨h2315, h⟩
   ·have h2 := ih _ _ h
    obtain ⟨q, hv, hq⟩ := pkR (rd := none) (P := Go.Proofs.Try.prog) (fn := Go.Proofs.Try.f21) (k := 0) (s := (nspeculumbase_Ranges_l0_0_h a0 a1 x5)) (ans := [.reg (nN 4 []), .br true, .reg (arOT_1 a0 x5 a1), .br false, .reg (nN 3 [])]) (c := ⟨[(0, none), (1, none), (5, none)], [], []⟩) (e := .normal) (s1 := (nspeculumbase_Ranges_l0_0_h a0 a1 (w64 (x5 + 1)))) (an (an (an (ti (ti (ti (ti trivial)))) (an (decide_eq_true h2308) trivial)) (an (an e2314 (an (not_f h2315) trivial)) (ti (ti (ti trivial))))) (ti trivial)) (by kernel_rfl)
    cases r with
    | inl r => exact round_next pm pn hv hq h2
    | inr r =>
     exact round_next pm pn hv hq h2
   ·injection h with h; subst h
    exact round_stop (c := ⟨[(4, none)], [], []⟩) (s1 := (nspeculumbase_Ranges_l0_0_e0 a0 a1 ())) pm pn (ans := [.reg (nN 4 []), .br true, .reg (arOT_1 a0 x5 a1), .br true, .reg (.n :: [])]) (by kernel_rfl) (by intro e; cases e) (an (an (an (ti (ti (ti (ti trivial)))) (an (decide_eq_true h2308) trivial)) (an e2314 (an (not_t (bool_f h2315)) (an (ti trivial) trivial)))) (ti trivial))
  ·injection h with h; subst h
   exact round_stop (c := ⟨[], [], []⟩) (s1 := (nspeculumbase_Ranges_l0_0_e1 a0 a1 ())) pm pn (ans := [.reg (nN 4 []), .br false]) (by kernel_rfl) (by intro e; cases e) (an (an (ti (ti (ti (ti trivial)))) (an (decide_eq_false h2308) trivial)) (ti trivial))
def nspeculumbase_Ranges (k : Nat) (a0 : (List SRange)) (a1 : (List SRange)) : Option Bool :=
  if (a0.length : Int) = (a1.length : Int) then ((nspeculumbase_Ranges_l0_0 k a0 a1 k 0).bind fun r2317 => (match r2317 with | .inl r2318 => (some false) | .inr r2319 => (some true))) else (some false)
theorem nspeculumbase_Ranges_ok (k : Nat) (a0 : (List SRange)) (a1 : (List SRange)) (r : Bool) (h : nspeculumbase_Ranges k a0 a1 = some r) : VC Go.Proofs.Try.prog 21 [VV.tr (List.flatMap c_SRange a0) a0.length, VV.tr (List.flatMap c_SRange a1) a1.length] (vb r) := by
 unfold nspeculumbase_Ranges at h
 rcases ifs h with ⟨h2291, h⟩ | ⟨h2291, h⟩
 ·obtain ⟨r2317, h2316, h⟩ := bs h
  have hph2316 := nspeculumbase_Ranges_l0_0_ok k a0 a1 _ _ _ h2316
  cases r2317 with
  | inl r2318 =>
   dsimp only at h
   have e2320 := (an (ti trivial) (VRun.loop hph2316))
   injection h with h; subst h
   exact fun_ok pm pn Go.Proofs.Try.func21 (r0 := vb false) (ans := [.reg (.n :: []), .reg (nN 5 []), .br false, .reg (.n :: []), .sub ⟨[(0, none), (1, none), (5, none)], [], []⟩ .ret (nspeculumbase_Ranges_l0_0_e0 a0 a1 r2318)]) (fr := true) (by kernel_rfl) (an (an (ti trivial) (an (an (ti (ti (ti (ti (ti trivial))))) (an (not_f (decide_eq_true h2291)) trivial)) (an (ti trivial) e2320))) (ti trivial)) (Wv.refl _)
  | inr r2319 =>
   dsimp only at h
   have e2321 := (an (ti trivial) (VRun.loop hph2316))
   injection h with h; subst h
   exact fun_ok pm pn Go.Proofs.Try.func21 (r0 := vb true) (ans := [.reg (.n :: []), .reg (nN 5 []), .br false, .reg (.n :: []), .sub ⟨[(0, none), (1, none), (5, none)], [], []⟩ (.exit 0) (nspeculumbase_Ranges_l0_0_e1 a0 a1 r2319), .reg (.n :: [])]) (fr := true) (by kernel_rfl) (an (an (ti trivial) (an (an (ti (ti (ti (ti (ti trivial))))) (an (not_f (decide_eq_true h2291)) trivial)) (an (an (ti trivial) e2321) (an (ti trivial) trivial)))) (ti trivial)) (Wv.refl _)
 ·injection h with h; subst h
  exact fun_ok pm pn Go.Proofs.Try.func21 (r0 := vb false) (ans := [.reg (.n :: []), .reg (nN 5 []), .br true, .reg (.n :: [])]) (fr := true) (by kernel_rfl) (an (an (ti trivial) (an (ti (ti (ti (ti (ti trivial))))) (an (not_t (decide_eq_false h2291)) (an (ti trivial) trivial)))) (ti trivial)) (Wv.refl _)
theorem eqOT_1 (z0 : Int) : VV.tu [VV.ag [vi 0, vi 0], vi z0] = VV.tu [VV.ag (c_SRange (⟨0, 0⟩ : SRange)), vi z0] := by first | rfl | (simp only [unfr_vi, List.map_cons, List.map_nil, un_i, unfr_c_SRange]; done) | (simp only [unfr_vi, List.map_cons, List.map_nil, un_i, unfr_c_SRange]; rfl) | (simp only [unfr_vi, List.map_cons, List.map_nil, un_i, unfr_c_SRange, c_SRange, List.length_cons, List.length_nil, List.length_append]; done)
def noptics_beside_api_Range_ (k : Nat) (a0 : SRange) (a1 : (List Int)) : Option (SRange × Int) :=
  (noptics_firstError k a1).bind fun r2349 => (if r2349 = 0 then (some (a0, 0)) else (some ((⟨0, 0⟩ : SRange), r2349)))
theorem noptics_beside_api_Range__ok (k : Nat) (a0 : SRange) (a1 : (List Int)) (r : (SRange × Int)) (h : noptics_beside_api_Range_ k a0 a1 = some r) : VC Go.Proofs.Try.prog 52 [VV.ag (c_SRange a0), VV.tr (List.map vi a1) a1.length] (VV.tu [VV.ag (c_SRange r.1), vi r.2]) := by
 unfold noptics_beside_api_Range_ at h
 obtain ⟨r2349, h2350, h⟩ := bs h
 have e2351 := (ti (an (noptics_firstError_ok k a1 _ h2350) (ti trivial)))
 rcases ifs h with ⟨h2352, h⟩ | ⟨h2352, h⟩
 ·injection h with h; subst h
  exact fun_ok pm pn Go.Proofs.Try.func52 (r0 := VV.tu [VV.ag (c_SRange a0), vi 0]) (ans := [.reg (nN 3 []), .reg (.n :: .call (vi r2349) :: .n :: []), .reg (.n :: .n :: []), .br false, .reg (nN 3 [])]) (fr := true) (by kernel_rfl) (an (an (ti (ti (ti trivial))) (an (an e2351 (an (ti (ti trivial)) (an (not_f (decide_eq_true h2352)) trivial))) (an (ti (ti (ti trivial))) trivial))) (an (ti (ti (ti trivial))) (ti trivial))) (Wv.refl _)
 ·injection h with h; subst h
  exact fun_ok pm pn Go.Proofs.Try.func52 (r0 := VV.tu [VV.ag [vi 0, vi 0], vi r2349]) (ans := [.reg (nN 3 []), .reg (.n :: .call (vi r2349) :: .n :: []), .reg (.n :: .n :: []), .br true, .reg (.n :: []), .reg (nN 4 [])]) (fr := true) (by kernel_rfl) (an (an (ti (ti (ti trivial))) (an e2351 (an (ti (ti trivial)) (an (not_t (decide_eq_false h2352)) (an (ti trivial) (an (ti (ti (ti (ti trivial)))) trivial)))))) (an (ti (ti (ti trivial))) (ti trivial))) (Wv.of_eq (eqOT_1 r2349))
theorem eqOT_2 (z0 : (SRange × Int)) (z1 : (SRange × Int)) (z2 : Int) (z3 : Int) : [VV.ag (c_SRange (⟨w64 (z0.1.Lo - z1.1.Hi), w64 (z0.1.Hi - z1.1.Lo)⟩ : SRange)), VV.tr (List.map vi ([z2, z3, z0.2, z1.2] : List Int)) (([z2, z3, z0.2, z1.2] : List Int).length)] = [VV.ag [vi (w64 (z0.1.Lo - z1.1.Hi)), vi (w64 (z0.1.Hi - z1.1.Lo))], VV.tr [vi z2, vi z3, vi z0.2, vi z1.2] 4] := by first | rfl | (simp only [unfr_vi, List.map_cons, List.map_nil, un_i, un_tr, List.length_map, List.length_cons, List.length_nil, unfr_c_SRange]; done) | (simp only [unfr_vi, List.map_cons, List.map_nil, un_i, un_tr, List.length_map, List.length_cons, List.length_nil, unfr_c_SRange]; rfl) | (simp only [unfr_vi, List.map_cons, List.map_nil, un_i, un_tr, List.length_map, List.length_cons, List.length_nil, unfr_c_SRange, c_SRange, List.length_cons, List.length_nil, List.length_append]; done)
def arOT_2 (z0 : Int) (z1 : Int) (z2 : (SRange × Int)) : List Ans := (.n :: .n :: .call (vi z0) :: .n :: .call (vi z1) :: .n :: .n :: .v VV.any :: .call (VV.tu [VV.ag (c_SRange z2.1), vi z2.2]) :: nN 4 [])
def noptics_Departure (k : Nat) (a0 : SConic) (a1 : SConic) (a2 : Int) : Option (SRange × Int) :=
  (noptics_Sag k a0 a2).bind fun r2357 => ((noptics_Sag k a1 a2).bind fun r2360 => ((noptics_CheckConic k a0).bind fun r2364 => ((noptics_CheckConic k a1).bind fun r2366 => ((noptics_beside_api_Range_ k (⟨w64 (r2357.1.Lo - r2360.1.Hi), w64 (r2357.1.Hi - r2360.1.Lo)⟩ : SRange) ([r2364, r2366, r2357.2, r2360.2] : List Int)).bind fun r2368 => (some (r2368.1, r2368.2))))))
theorem noptics_Departure_ok (k : Nat) (a0 : SConic) (a1 : SConic) (a2 : Int) (r : (SRange × Int)) (h : noptics_Departure k a0 a1 a2 = some r) : VC Go.Proofs.Try.prog 22 [VV.ag (c_SConic a0), VV.ag (c_SConic a1), vi a2] (VV.tu [VV.ag (c_SRange r.1), vi r.2]) := by
 unfold noptics_Departure at h
 obtain ⟨r2357, h2358, h⟩ := bs h
 have e2359 := (ti (ti (an (noptics_Sag_ok k a0 a2 _ h2358) (ti (ti (ti (ti (ti (ti trivial)))))))))
 obtain ⟨r2360, h2361, h⟩ := bs h
 have e2362 := (ti (ti (an (noptics_Sag_ok k a1 a2 _ h2361) (ti (ti (ti (ti (ti (ti trivial)))))))))
 have e2363 := (ti (ti (ti (ti (ti (ti (ti (ti (ti (ti (ti (ti (ti trivial)))))))))))))
 obtain ⟨r2364, h2365, h⟩ := bs h
 obtain ⟨r2366, h2367, h⟩ := bs h
 obtain ⟨r2368, h2369, h⟩ := bs h
 have e2370 := (VC.args (noptics_beside_api_Range__ok k (⟨w64 (r2357.1.Lo - r2360.1.Hi), w64 (r2357.1.Hi - r2360.1.Lo)⟩ : SRange) ([r2364, r2366, r2357.2, r2360.2] : List Int) _ h2369) (eqOT_2 r2357 r2360 r2364 r2366))
 have e2371 := (ti (ti (an (noptics_CheckConic_ok k a0 _ h2365) (ti (an (noptics_CheckConic_ok k a1 _ h2367) (ti (ti (ti (an e2370 (ti (ti (ti (ti trivial)))))))))))))
 injection h with h; subst h
 exact fun_ok pm pn Go.Proofs.Try.func22 (r0 := VV.tu [VV.ag (c_SRange r2368.1), vi r2368.2]) (ans := [.reg (nN 4 []), .reg (.n :: .n :: .call (VV.tu [VV.ag (c_SRange r2357.1), vi r2357.2]) :: nN 6 []), .reg (.n :: .n :: .call (VV.tu [VV.ag (c_SRange r2360.1), vi r2360.2]) :: nN 6 []), .reg (nN 13 []), .reg (arOT_2 r2364 r2366 r2368)]) (fr := true) (by kernel_rfl) (an (an (ti (ti (ti (ti trivial)))) (an e2359 (an e2362 (an e2363 (an e2371 trivial))))) (an (ti (ti (ti trivial))) (ti trivial))) (Wv.refl _)
theorem eqOT_3 (z0 : (SRange × Int)) (z1 : (SRange × Int)) : VV.tu [VV.ag [vi (w64 (z0.1.Lo - z1.1.Hi)), vi (w64 (z0.1.Hi - z1.1.Lo))], vi 0] = VV.tu [VV.ag (c_SRange (⟨w64 (z0.1.Lo - z1.1.Hi), w64 (z0.1.Hi - z1.1.Lo)⟩ : SRange)), vi 0] := by first | rfl | (simp only [unfr_vi, List.map_cons, List.map_nil, un_i, unfr_c_SRange]; done) | (simp only [unfr_vi, List.map_cons, List.map_nil, un_i, unfr_c_SRange]; rfl) | (simp only [unfr_vi, List.map_cons, List.map_nil, un_i, unfr_c_SRange, c_SRange, List.length_cons, List.length_nil, List.length_append]; done)
theorem eqOT_4 (z0 : (SRange × Int)) : VV.tu [VV.ag [vi 0, vi 0], vi z0.2] = VV.tu [VV.ag (c_SRange (⟨0, 0⟩ : SRange)), vi z0.2] := by first | rfl | (simp only [unfr_vi, List.map_cons, List.map_nil, un_i, unfr_c_SRange]; done) | (simp only [unfr_vi, List.map_cons, List.map_nil, un_i, unfr_c_SRange]; rfl) | (simp only [unfr_vi, List.map_cons, List.map_nil, un_i, unfr_c_SRange, c_SRange, List.length_cons, List.length_nil, List.length_append]; done)
def nspeculumref02_Departure (k : Nat) (a0 : SConic) (a1 : SConic) (a2 : Int) : Option (SRange × Int) :=
  (nspeculumref02_Sag k a0 a2).bind fun r2386 => (if r2386.2 = 0 then ((nspeculumref02_Sag k a1 a2).bind fun r2390 => (if r2390.2 = 0 then (some ((⟨w64 (r2386.1.Lo - r2390.1.Hi), w64 (r2386.1.Hi - r2390.1.Lo)⟩ : SRange), 0)) else (some ((⟨0, 0⟩ : SRange), r2390.2)))) else (some ((⟨0, 0⟩ : SRange), r2386.2)))
theorem nspeculumref02_Departure_ok (k : Nat) (a0 : SConic) (a1 : SConic) (a2 : Int) (r : (SRange × Int)) (h : nspeculumref02_Departure k a0 a1 a2 = some r) : VC Go.Proofs.Try.prog 23 [VV.ag (c_SConic a0), VV.ag (c_SConic a1), vi a2] (VV.tu [VV.ag (c_SRange r.1), vi r.2]) := by
 unfold nspeculumref02_Departure at h
 obtain ⟨r2386, h2387, h⟩ := bs h
 have e2388 := (ti (ti (an (nspeculumref02_Sag_ok k a0 a2 _ h2387) (ti (ti (ti (ti (ti (ti trivial)))))))))
 rcases ifs h with ⟨h2389, h⟩ | ⟨h2389, h⟩
 ·obtain ⟨r2390, h2391, h⟩ := bs h
  have e2392 := (ti (ti (an (nspeculumref02_Sag_ok k a1 a2 _ h2391) (ti (ti (ti (ti (ti (ti trivial)))))))))
  rcases ifs h with ⟨h2393, h⟩ | ⟨h2393, h⟩
  ·have e2394 := (ti (ti (ti (ti (ti (ti (ti (ti (ti (ti (ti (ti (ti trivial)))))))))))))
   injection h with h; subst h
   exact fun_ok pm pn Go.Proofs.Try.func23 (r0 := VV.tu [VV.ag [vi (w64 (r2386.1.Lo - r2390.1.Hi)), vi (w64 (r2386.1.Hi - r2390.1.Lo))], vi 0]) (ans := [.reg (nN 4 []), .reg (.n :: .n :: .call (VV.tu [VV.ag (c_SRange r2386.1), vi r2386.2]) :: nN 6 []), .reg (.n :: .n :: []), .br false, .reg (.n :: .n :: .call (VV.tu [VV.ag (c_SRange r2390.1), vi r2390.2]) :: nN 6 []), .reg (.n :: .n :: []), .br false, .reg (nN 13 [])]) (fr := true) (by kernel_rfl) (an (an (ti (ti (ti (ti trivial)))) (an e2388 (an (an (ti (ti trivial)) (an (not_f (decide_eq_true h2389)) trivial)) (an e2392 (an (an (ti (ti trivial)) (an (not_f (decide_eq_true h2393)) trivial)) (an e2394 trivial)))))) (an (ti (ti (ti trivial))) (ti trivial))) (Wv.of_eq (eqOT_3 r2386 r2390))
  ·injection h with h; subst h
   exact fun_ok pm pn Go.Proofs.Try.func23 (r0 := VV.tu [VV.ag [vi 0, vi 0], vi r2390.2]) (ans := [.reg (nN 4 []), .reg (.n :: .n :: .call (VV.tu [VV.ag (c_SRange r2386.1), vi r2386.2]) :: nN 6 []), .reg (.n :: .n :: []), .br false, .reg (.n :: .n :: .call (VV.tu [VV.ag (c_SRange r2390.1), vi r2390.2]) :: nN 6 []), .reg (.n :: .n :: []), .br true, .reg (nN 4 [])]) (fr := true) (by kernel_rfl) (an (an (ti (ti (ti (ti trivial)))) (an e2388 (an (an (ti (ti trivial)) (an (not_f (decide_eq_true h2389)) trivial)) (an e2392 (an (ti (ti trivial)) (an (not_t (decide_eq_false h2393)) (an (ti (ti (ti (ti trivial)))) trivial))))))) (an (ti (ti (ti trivial))) (ti trivial))) (Wv.of_eq (eqOT_4 r2390))
 ·injection h with h; subst h
  exact fun_ok pm pn Go.Proofs.Try.func23 (r0 := VV.tu [VV.ag [vi 0, vi 0], vi r2386.2]) (ans := [.reg (nN 4 []), .reg (.n :: .n :: .call (VV.tu [VV.ag (c_SRange r2386.1), vi r2386.2]) :: nN 6 []), .reg (.n :: .n :: []), .br true, .reg (nN 4 [])]) (fr := true) (by kernel_rfl) (an (an (ti (ti (ti (ti trivial)))) (an e2388 (an (ti (ti trivial)) (an (not_t (decide_eq_false h2389)) (an (ti (ti (ti (ti trivial)))) trivial))))) (an (ti (ti (ti trivial))) (ti trivial))) (Wv.of_eq (eqOT_4 r2386))
def arOT_3 (z0 : (List Int)) (z1 : ((List SRange) × Int)) : List Ans := (.n :: .n :: .call (VV.fr (List.map vi z0) z0.length) :: .call (VV.tu [VV.fr (List.flatMap c_SRange z1.1) z1.1.length, vi z1.2]) :: nN 5 [])
def arOT_4 (z0 : ((List SRange) × Int)) : List Ans := (.n :: .n :: .call (VV.tu [VV.fr (List.flatMap c_SRange z0.1) z0.1.length, vi z0.2]) :: nN 5 [])
def nspeculumlaw02_OpticsTables (k : Nat) (a0 : SConic) (a1 : SConic) (a2 : (List Int)) : Option Bool :=
  (nspeculumlaw02_awake k).bind fun r2457 => (if r2457 = true then (if 50 < (a2.length : Int) then (some true) else ((nspeculumbase_CopyInts k a2).bind fun r2462 => ((noptics_SagTable k a0 r2462).bind fun r2465 => ((nspeculumref02_CheckConic k a0).bind fun r2469 => (if r2469 = 0 then ((nspeculumref02_SagTable k a0 a2).bind fun r2474 => (if r2465.2 = r2474.2 then ((nspeculumbase_Ranges k r2465.1 r2474.1).bind fun r2481 => (if r2481 = true then ((nspeculumref02_CheckConic k a1).bind fun r2487 => (if 0 < (a2.length : Int) then (if (0 : Int) ≤ 0 ∧ 0 < (a2.length : Int) then ((noptics_Departure k a0 a1 (a2.getD ((0 : Int)).toNat 0)).bind fun r2493 => (if r2487 = 0 then ((nspeculumref02_Departure k a0 a1 (a2.getD ((0 : Int)).toNat 0)).bind fun r2498 => (if r2493.2 = r2498.2 then (some ((r2493.1.Lo : Int) == r2498.1.Lo && ((r2493.1.Hi : Int) == r2498.1.Hi && true))) else (some false))) else (if r2493.2 = r2487 then (some ((r2493.1.Lo : Int) == 0 && ((r2493.1.Hi : Int) == 0 && true))) else (some false)))) else none) else ((noptics_Departure k a0 a1 (a2.length : Int)).bind fun r2510 => (if r2487 = 0 then ((nspeculumref02_Departure k a0 a1 (a2.length : Int)).bind fun r2515 => (if r2510.2 = r2515.2 then (some ((r2510.1.Lo : Int) == r2515.1.Lo && ((r2510.1.Hi : Int) == r2515.1.Hi && true))) else (some false))) else (if r2510.2 = r2487 then (some ((r2510.1.Lo : Int) == 0 && ((r2510.1.Hi : Int) == 0 && true))) else (some false)))))) else (some false))) else (some false))) else (if r2465.2 = r2469 then (if (r2465.1.length : Int) = 0 then (if 0 < (a2.length : Int) then (if (0 : Int) ≤ 0 ∧ 0 < (a2.length : Int) then ((noptics_Departure k a0 a1 (a2.getD ((0 : Int)).toNat 0)).bind fun r2542 => (if r2542.2 = r2469 then (some ((r2542.1.Lo : Int) == 0 && ((r2542.1.Hi : Int) == 0 && true))) else (some false))) else none) else ((noptics_Departure k a0 a1 (a2.length : Int)).bind fun r2550 => (if r2550.2 = r2469 then (some ((r2550.1.Lo : Int) == 0 && ((r2550.1.Hi : Int) == 0 && true))) else (some false)))) else (some false)) else (some false))))))) else (some false))
theorem nspeculumlaw02_OpticsTables_ok (k : Nat) (a0 : SConic) (a1 : SConic) (a2 : (List Int)) (r : Bool) (h : nspeculumlaw02_OpticsTables k a0 a1 a2 = some r) : VC Go.Proofs.Try.prog 5 [VV.ag (c_SConic a0), VV.ag (c_SConic a1), VV.tr (List.map vi a2) a2.length] (vb r) := by
 unfold nspeculumlaw02_OpticsTables at h
 obtain ⟨r2457, h2458, h⟩ := bs h
 have e2459 := (an (nspeculumlaw02_awake_ok k _ h2458) (ti trivial))
 rcases ifs h with ⟨h2460, h⟩ | ⟨h2460, h⟩
 ·rcases ifs h with ⟨h2461, h⟩ | ⟨h2461, h⟩
  ·injection h with h; subst h
   exact fun_ok pm pn Go.Proofs.Try.func5 (r0 := vb true) (ans := [.reg (nN 3 []), .reg (.call (vb r2457) :: .n :: []), .br false, .reg (nN 3 []), .br true, .reg (.n :: [])]) (fr := true) (by kernel_rfl) (an (an (ti (ti (ti trivial))) (an (an e2459 (an (not_f h2460) trivial)) (an (ti (ti (ti trivial))) (an (decide_eq_true h2461) (an (ti trivial) trivial))))) (ti trivial)) (Wv.refl _)
  ·obtain ⟨r2462, h2463, h⟩ := bs h
   have e2464 := (show VC Go.Proofs.Try.prog 19 [VV.tr (List.map vi a2) a2.length] (VV.fr (List.map vi r2462) r2462.length) from (VC.weak (nspeculumbase_CopyInts_ok k a2 _ h2463) (Wv.fw rfl rfl)))
   obtain ⟨r2465, h2466, h⟩ := bs h
   have e2467 := (show VC Go.Proofs.Try.prog 18 [VV.ag (c_SConic a0), VV.tr (List.map vi r2462) r2462.length] (VV.tu [VV.fr (List.flatMap c_SRange r2465.1) r2465.1.length, vi r2465.2]) from (VC.weak (noptics_SagTable_ok k a0 r2462 _ h2466) (Wv.tuL (.cons (Wv.fw rfl rfl) (.cons (Wv.refl _) .nil)))))
   have e2468 := (ti (ti (an e2464 (an e2467 (ti (ti (ti (ti (ti trivial)))))))))
   obtain ⟨r2469, h2470, h⟩ := bs h
   have e2471 := (nspeculumref02_CheckConic_ok k a0 _ h2470)
   rcases ifs h with ⟨h2472, h⟩ | ⟨h2472, h⟩
   ·have e2473 := (ti (ti (ti (an (not_f (decide_eq_true h2472)) (an (not_f (decide_eq_true h2472)) (an (not_f (decide_eq_true h2472)) (an (not_f (decide_eq_true h2472)) (ti (ti (ti (an (not_f (decide_eq_true h2472)) (an (not_f (decide_eq_true h2472)) trivial))))))))))))
    obtain ⟨r2474, h2475, h⟩ := bs h
    have e2476 := (show VC Go.Proofs.Try.prog 20 [VV.ag (c_SConic a0), VV.tr (List.map vi a2) a2.length] (VV.tu [VV.fr (List.flatMap c_SRange r2474.1) r2474.1.length, vi r2474.2]) from (VC.weak (nspeculumref02_SagTable_ok k a0 a2 _ h2475) (Wv.tuL (.cons (Wv.fw rfl rfl) (.cons (Wv.refl _) .nil)))))
    have e2477 := (ti (ti (an e2476 (ti (ti (ti (ti (ti trivial))))))))
    rcases ifs h with ⟨h2478, h⟩ | ⟨h2478, h⟩
    ·have e2479 := (an (not_f (decide_eq_true h2478)) trivial)
     have e2480 := (an (not_f (decide_eq_true h2478)) trivial)
     obtain ⟨r2481, h2482, h⟩ := bs h
     have e2483 := (an (not_f (decide_eq_true h2478)) (nspeculumbase_Ranges_ok k r2465.1 r2474.1 _ h2482))
     have e2484 := (an (not_f (decide_eq_true h2478)) trivial)
     have e2485 := (ti (ti (ti (ti (an e2479 (an e2480 (an e2483 (an e2484 (an (not_f (decide_eq_true h2478)) trivial)))))))))
     rcases ifs h with ⟨h2486, h⟩ | ⟨h2486, h⟩
     ·obtain ⟨r2487, h2488, h⟩ := bs h
      have e2489 := (nspeculumref02_CheckConic_ok k a1 _ h2488)
      rcases ifs h with ⟨h2490, h⟩ | ⟨h2490, h⟩
      ·obtain ⟨h2491, h⟩ := ifn h
       have e2492 := (show loadL Go.Proofs.Try.prog 3 (((0 : Int)).toNat * 1) (List.map vi a2) = some (vi (a2.getD ((0 : Int)).toNat 0)) from ld_map ag3 vi a2 0 h2491 (by omega))
       obtain ⟨r2493, h2494, h⟩ := bs h
       have e2495 := (noptics_Departure_ok k a0 a1 (a2.getD ((0 : Int)).toNat 0) _ h2494)
       have e2496 := (ti (ti (ti (an e2495 (ti (ti (ti (ti (ti (ti trivial))))))))))
       rcases ifs h with ⟨h2497, h⟩ | ⟨h2497, h⟩
       ·obtain ⟨r2498, h2499, h⟩ := bs h
        have e2500 := (nspeculumref02_Departure_ok k a0 a1 (a2.getD ((0 : Int)).toNat 0) _ h2499)
        have e2501 := (ti (ti (ti (an e2500 (ti (ti (ti (ti (ti (ti trivial))))))))))
        rcases ifs h with ⟨h2502, h⟩ | ⟨h2502, h⟩
        ·have e2503 := (an (decide_eq_true h2502) (show List.map kdV [Value.int .i64 r2493.1.Lo, Value.int .i64 r2493.1.Hi] = List.map kdV [Value.int .i64 r2498.1.Lo, Value.int .i64 r2498.1.Hi] ∧ EqOK Go.Proofs.Try.prog 34 (List.map kdV [Value.int .i64 r2498.1.Lo, Value.int .i64 r2498.1.Hi]) from ⟨rfl, eqok34⟩))
         have e2504 := (ti (ti (ti (ti (an (an (decide_eq_true h2502) trivial) (an (an (decide_eq_true h2502) trivial) (an e2503 (an (decide_eq_true h2502) (ti trivial)))))))))
         injection h with h; subst h
         exact fun_ok pm pn Go.Proofs.Try.func5 (r0 := vb ((r2493.1.Lo : Int) == r2498.1.Lo && ((r2493.1.Hi : Int) == r2498.1.Hi && true))) (ans := [.reg (nN 3 []), .reg (.call (vb r2457) :: .n :: []), .br false, .reg (nN 3 []), .br false, .reg (arOT_3 r2462 r2465), .reg (.n :: .call (vi r2469) :: .n :: []), .reg (nN 3 (nS 8 (.b false :: []))), .br false, .reg (.n :: .n :: []), .br true, .reg (arOT_4 r2474), .reg (nN 6 (.call (vb r2481) :: .n :: .b false :: [])), .br false, .reg (.n :: .call (vi r2487) :: .n :: []), .reg (nN 3 []), .reg (.n :: .n :: []), .br true, .reg (.n :: .n :: .v (vi (a2.getD ((0 : Int)).toNat 0)) :: .n :: []), .reg (nN 3 (.call (VV.tu [VV.ag (c_SRange r2493.1), vi r2493.2]) :: nN 6 [])), .reg (.n :: .n :: []), .br false, .reg (nN 3 (.call (VV.tu [VV.ag (c_SRange r2498.1), vi r2498.2]) :: nN 6 [])), .reg (nN 7 (.b true :: .n :: []))]) (fr := true) (by kernel_rfl) (an (an (ti (ti (ti trivial))) (an (an e2459 (an (not_f h2460) trivial)) (an (an (ti (ti (ti trivial))) (an (decide_eq_false h2461) trivial)) (an e2468 (an (ti (an e2471 (ti trivial))) (an (an e2473 (an rf trivial)) (an (an (ti (ti trivial)) (an (decide_eq_true h2472) (an e2477 (an (an e2485 (an (not_f h2486) trivial)) (ti (an e2489 (ti trivial))))))) (an (ti (ti (ti trivial))) (an (an (ti (ti trivial)) (an (decide_eq_true h2490) (ti (an h2491 (an e2492 (ti trivial)))))) (an e2496 (an (an (ti (ti trivial)) (an (not_f (decide_eq_true h2497)) trivial)) (an e2501 (an e2504 trivial))))))))))))) (ti trivial)) (Wv.refl _)
        ·have e2505 := (ti (ti (ti (ti (an (decide_eq_false h2502) (an (decide_eq_false h2502) (an (decide_eq_false h2502) (an (decide_eq_false h2502) (ti trivial)))))))))
         injection h with h; subst h
         exact fun_ok pm pn Go.Proofs.Try.func5 (r0 := vb false) (ans := [.reg (nN 3 []), .reg (.call (vb r2457) :: .n :: []), .br false, .reg (nN 3 []), .br false, .reg (arOT_3 r2462 r2465), .reg (.n :: .call (vi r2469) :: .n :: []), .reg (nN 3 (nS 8 (.b false :: []))), .br false, .reg (.n :: .n :: []), .br true, .reg (arOT_4 r2474), .reg (nN 6 (.call (vb r2481) :: .n :: .b false :: [])), .br false, .reg (.n :: .call (vi r2487) :: .n :: []), .reg (nN 3 []), .reg (.n :: .n :: []), .br true, .reg (.n :: .n :: .v (vi (a2.getD ((0 : Int)).toNat 0)) :: .n :: []), .reg (nN 3 (.call (VV.tu [VV.ag (c_SRange r2493.1), vi r2493.2]) :: nN 6 [])), .reg (.n :: .n :: []), .br false, .reg (nN 3 (.call (VV.tu [VV.ag (c_SRange r2498.1), vi r2498.2]) :: nN 6 [])), .reg (nN 4 (nS 3 (.b false :: .n :: [])))]) (fr := true) (by kernel_rfl) (an (an (ti (ti (ti trivial))) (an (an e2459 (an (not_f h2460) trivial)) (an (an (ti (ti (ti trivial))) (an (decide_eq_false h2461) trivial)) (an e2468 (an (ti (an e2471 (ti trivial))) (an (an e2473 (an rf trivial)) (an (an (ti (ti trivial)) (an (decide_eq_true h2472) (an e2477 (an (an e2485 (an (not_f h2486) trivial)) (ti (an e2489 (ti trivial))))))) (an (ti (ti (ti trivial))) (an (an (ti (ti trivial)) (an (decide_eq_true h2490) (ti (an h2491 (an e2492 (ti trivial)))))) (an e2496 (an (an (ti (ti trivial)) (an (not_f (decide_eq_true h2497)) trivial)) (an e2501 (an e2505 trivial))))))))))))) (ti trivial)) (Wv.refl _)
       ·rcases ifs h with ⟨h2506, h⟩ | ⟨h2506, h⟩
        ·have e2507 := (an (decide_eq_true h2506) (show List.map kdV [Value.int .i64 r2493.1.Lo, Value.int .i64 r2493.1.Hi] = List.map kdV [Value.int .i64 0, Value.int .i64 0] ∧ EqOK Go.Proofs.Try.prog 34 (List.map kdV [Value.int .i64 0, Value.int .i64 0]) from ⟨rfl, eqok34⟩))
         have e2508 := (ti (ti (ti (ti (an (an (decide_eq_true h2506) trivial) (an (an (decide_eq_true h2506) trivial) (an e2507 (an (decide_eq_true h2506) (ti trivial)))))))))
         injection h with h; subst h
         exact fun_ok pm pn Go.Proofs.Try.func5 (r0 := vb ((r2493.1.Lo : Int) == 0 && ((r2493.1.Hi : Int) == 0 && true))) (ans := [.reg (nN 3 []), .reg (.call (vb r2457) :: .n :: []), .br false, .reg (nN 3 []), .br false, .reg (arOT_3 r2462 r2465), .reg (.n :: .call (vi r2469) :: .n :: []), .reg (nN 3 (nS 8 (.b false :: []))), .br false, .reg (.n :: .n :: []), .br true, .reg (arOT_4 r2474), .reg (nN 6 (.call (vb r2481) :: .n :: .b false :: [])), .br false, .reg (.n :: .call (vi r2487) :: .n :: []), .reg (nN 3 []), .reg (.n :: .n :: []), .br true, .reg (.n :: .n :: .v (vi (a2.getD ((0 : Int)).toNat 0)) :: .n :: []), .reg (nN 3 (.call (VV.tu [VV.ag (c_SRange r2493.1), vi r2493.2]) :: nN 6 [])), .reg (.n :: .n :: []), .br true, .reg (nN 7 (.b true :: .n :: []))]) (fr := true) (by kernel_rfl) (an (an (ti (ti (ti trivial))) (an (an e2459 (an (not_f h2460) trivial)) (an (an (ti (ti (ti trivial))) (an (decide_eq_false h2461) trivial)) (an e2468 (an (ti (an e2471 (ti trivial))) (an (an e2473 (an rf trivial)) (an (an (ti (ti trivial)) (an (decide_eq_true h2472) (an e2477 (an (an e2485 (an (not_f h2486) trivial)) (ti (an e2489 (ti trivial))))))) (an (ti (ti (ti trivial))) (an (an (ti (ti trivial)) (an (decide_eq_true h2490) (ti (an h2491 (an e2492 (ti trivial)))))) (an e2496 (an (ti (ti trivial)) (an (not_t (decide_eq_false h2497)) (an e2508 trivial))))))))))))) (ti trivial)) (Wv.refl _)
        ·have e2509 := (ti (ti (ti (ti (an (decide_eq_false h2506) (an (decide_eq_false h2506) (an (decide_eq_false h2506) (an (decide_eq_false h2506) (ti trivial)))))))))
         injection h with h; subst h
         exact fun_ok pm pn Go.Proofs.Try.func5 (r0 := vb false) (ans := [.reg (nN 3 []), .reg (.call (vb r2457) :: .n :: []), .br false, .reg (nN 3 []), .br false, .reg (arOT_3 r2462 r2465), .reg (.n :: .call (vi r2469) :: .n :: []), .reg (nN 3 (nS 8 (.b false :: []))), .br false, .reg (.n :: .n :: []), .br true, .reg (arOT_4 r2474), .reg (nN 6 (.call (vb r2481) :: .n :: .b false :: [])), .br false, .reg (.n :: .call (vi r2487) :: .n :: []), .reg (nN 3 []), .reg (.n :: .n :: []), .br true, .reg (.n :: .n :: .v (vi (a2.getD ((0 : Int)).toNat 0)) :: .n :: []), .reg (nN 3 (.call (VV.tu [VV.ag (c_SRange r2493.1), vi r2493.2]) :: nN 6 [])), .reg (.n :: .n :: []), .br true, .reg (nN 4 (nS 3 (.b false :: .n :: [])))]) (fr := true) (by kernel_rfl) (an (an (ti (ti (ti trivial))) (an (an e2459 (an (not_f h2460) trivial)) (an (an (ti (ti (ti trivial))) (an (decide_eq_false h2461) trivial)) (an e2468 (an (ti (an e2471 (ti trivial))) (an (an e2473 (an rf trivial)) (an (an (ti (ti trivial)) (an (decide_eq_true h2472) (an e2477 (an (an e2485 (an (not_f h2486) trivial)) (ti (an e2489 (ti trivial))))))) (an (ti (ti (ti trivial))) (an (an (ti (ti trivial)) (an (decide_eq_true h2490) (ti (an h2491 (an e2492 (ti trivial)))))) (an e2496 (an (ti (ti trivial)) (an (not_t (decide_eq_false h2497)) (an e2509 trivial))))))))))))) (ti trivial)) (Wv.refl _)
      ·obtain ⟨r2510, h2511, h⟩ := bs h
       have e2512 := (noptics_Departure_ok k a0 a1 (a2.length : Int) _ h2511)
       have e2513 := (ti (ti (ti (an e2512 (ti (ti (ti (ti (ti (ti trivial))))))))))
       rcases ifs h with ⟨h2514, h⟩ | ⟨h2514, h⟩
       ·obtain ⟨r2515, h2516, h⟩ := bs h
        have e2517 := (nspeculumref02_Departure_ok k a0 a1 (a2.length : Int) _ h2516)
        have e2518 := (ti (ti (ti (an e2517 (ti (ti (ti (ti (ti (ti trivial))))))))))
        rcases ifs h with ⟨h2519, h⟩ | ⟨h2519, h⟩
        ·have e2520 := (an (decide_eq_true h2519) (show List.map kdV [Value.int .i64 r2510.1.Lo, Value.int .i64 r2510.1.Hi] = List.map kdV [Value.int .i64 r2515.1.Lo, Value.int .i64 r2515.1.Hi] ∧ EqOK Go.Proofs.Try.prog 34 (List.map kdV [Value.int .i64 r2515.1.Lo, Value.int .i64 r2515.1.Hi]) from ⟨rfl, eqok34⟩))
         have e2521 := (ti (ti (ti (ti (an (an (decide_eq_true h2519) trivial) (an (an (decide_eq_true h2519) trivial) (an e2520 (an (decide_eq_true h2519) (ti trivial)))))))))
         injection h with h; subst h
         exact fun_ok pm pn Go.Proofs.Try.func5 (r0 := vb ((r2510.1.Lo : Int) == r2515.1.Lo && ((r2510.1.Hi : Int) == r2515.1.Hi && true))) (ans := [.reg (nN 3 []), .reg (.call (vb r2457) :: .n :: []), .br false, .reg (nN 3 []), .br false, .reg (arOT_3 r2462 r2465), .reg (.n :: .call (vi r2469) :: .n :: []), .reg (nN 3 (nS 8 (.b false :: []))), .br false, .reg (.n :: .n :: []), .br true, .reg (arOT_4 r2474), .reg (nN 6 (.call (vb r2481) :: .n :: .b false :: [])), .br false, .reg (.n :: .call (vi r2487) :: .n :: []), .reg (nN 3 []), .reg (.n :: .n :: []), .br false, .reg (nN 3 (.call (VV.tu [VV.ag (c_SRange r2510.1), vi r2510.2]) :: nN 6 [])), .reg (.n :: .n :: []), .br false, .reg (nN 3 (.call (VV.tu [VV.ag (c_SRange r2515.1), vi r2515.2]) :: nN 6 [])), .reg (nN 7 (.b true :: .n :: []))]) (fr := true) (by kernel_rfl) (an (an (ti (ti (ti trivial))) (an (an e2459 (an (not_f h2460) trivial)) (an (an (ti (ti (ti trivial))) (an (decide_eq_false h2461) trivial)) (an e2468 (an (ti (an e2471 (ti trivial))) (an (an e2473 (an rf trivial)) (an (an (ti (ti trivial)) (an (decide_eq_true h2472) (an e2477 (an (an e2485 (an (not_f h2486) trivial)) (ti (an e2489 (ti trivial))))))) (an (ti (ti (ti trivial))) (an (an (ti (ti trivial)) (an (decide_eq_false h2490) trivial)) (an e2513 (an (an (ti (ti trivial)) (an (not_f (decide_eq_true h2514)) trivial)) (an e2518 (an e2521 trivial))))))))))))) (ti trivial)) (Wv.refl _)
        ·have e2522 := (ti (ti (ti (ti (an (decide_eq_false h2519) (an (decide_eq_false h2519) (an (decide_eq_false h2519) (an (decide_eq_false h2519) (ti trivial)))))))))
         injection h with h; subst h
         exact fun_ok pm pn Go.Proofs.Try.func5 (r0 := vb false) (ans := [.reg (nN 3 []), .reg (.call (vb r2457) :: .n :: []), .br false, .reg (nN 3 []), .br false, .reg (arOT_3 r2462 r2465), .reg (.n :: .call (vi r2469) :: .n :: []), .reg (nN 3 (nS 8 (.b false :: []))), .br false, .reg (.n :: .n :: []), .br true, .reg (arOT_4 r2474), .reg (nN 6 (.call (vb r2481) :: .n :: .b false :: [])), .br false, .reg (.n :: .call (vi r2487) :: .n :: []), .reg (nN 3 []), .reg (.n :: .n :: []), .br false, .reg (nN 3 (.call (VV.tu [VV.ag (c_SRange r2510.1), vi r2510.2]) :: nN 6 [])), .reg (.n :: .n :: []), .br false, .reg (nN 3 (.call (VV.tu [VV.ag (c_SRange r2515.1), vi r2515.2]) :: nN 6 [])), .reg (nN 4 (nS 3 (.b false :: .n :: [])))]) (fr := true) (by kernel_rfl) (an (an (ti (ti (ti trivial))) (an (an e2459 (an (not_f h2460) trivial)) (an (an (ti (ti (ti trivial))) (an (decide_eq_false h2461) trivial)) (an e2468 (an (ti (an e2471 (ti trivial))) (an (an e2473 (an rf trivial)) (an (an (ti (ti trivial)) (an (decide_eq_true h2472) (an e2477 (an (an e2485 (an (not_f h2486) trivial)) (ti (an e2489 (ti trivial))))))) (an (ti (ti (ti trivial))) (an (an (ti (ti trivial)) (an (decide_eq_false h2490) trivial)) (an e2513 (an (an (ti (ti trivial)) (an (not_f (decide_eq_true h2514)) trivial)) (an e2518 (an e2522 trivial))))))))))))) (ti trivial)) (Wv.refl _)
       ·rcases ifs h with ⟨h2523, h⟩ | ⟨h2523, h⟩
        ·have e2524 := (an (decide_eq_true h2523) (show List.map kdV [Value.int .i64 r2510.1.Lo, Value.int .i64 r2510.1.Hi] = List.map kdV [Value.int .i64 0, Value.int .i64 0] ∧ EqOK Go.Proofs.Try.prog 34 (List.map kdV [Value.int .i64 0, Value.int .i64 0]) from ⟨rfl, eqok34⟩))
         have e2525 := (ti (ti (ti (ti (an (an (decide_eq_true h2523) trivial) (an (an (decide_eq_true h2523) trivial) (an e2524 (an (decide_eq_true h2523) (ti trivial)))))))))
         injection h with h; subst h
         exact fun_ok pm pn Go.Proofs.Try.func5 (r0 := vb ((r2510.1.Lo : Int) == 0 && ((r2510.1.Hi : Int) == 0 && true))) (ans := [.reg (nN 3 []), .reg (.call (vb r2457) :: .n :: []), .br false, .reg (nN 3 []), .br false, .reg (arOT_3 r2462 r2465), .reg (.n :: .call (vi r2469) :: .n :: []), .reg (nN 3 (nS 8 (.b false :: []))), .br false, .reg (.n :: .n :: []), .br true, .reg (arOT_4 r2474), .reg (nN 6 (.call (vb r2481) :: .n :: .b false :: [])), .br false, .reg (.n :: .call (vi r2487) :: .n :: []), .reg (nN 3 []), .reg (.n :: .n :: []), .br false, .reg (nN 3 (.call (VV.tu [VV.ag (c_SRange r2510.1), vi r2510.2]) :: nN 6 [])), .reg (.n :: .n :: []), .br true, .reg (nN 7 (.b true :: .n :: []))]) (fr := true) (by kernel_rfl) (an (an (ti (ti (ti trivial))) (an (an e2459 (an (not_f h2460) trivial)) (an (an (ti (ti (ti trivial))) (an (decide_eq_false h2461) trivial)) (an e2468 (an (ti (an e2471 (ti trivial))) (an (an e2473 (an rf trivial)) (an (an (ti (ti trivial)) (an (decide_eq_true h2472) (an e2477 (an (an e2485 (an (not_f h2486) trivial)) (ti (an e2489 (ti trivial))))))) (an (ti (ti (ti trivial))) (an (an (ti (ti trivial)) (an (decide_eq_false h2490) trivial)) (an e2513 (an (ti (ti trivial)) (an (not_t (decide_eq_false h2514)) (an e2525 trivial))))))))))))) (ti trivial)) (Wv.refl _)
        ·have e2526 := (ti (ti (ti (ti (an (decide_eq_false h2523) (an (decide_eq_false h2523) (an (decide_eq_false h2523) (an (decide_eq_false h2523) (ti trivial)))))))))
         injection h with h; subst h
         exact fun_ok pm pn Go.Proofs.Try.func5 (r0 := vb false) (ans := [.reg (nN 3 []), .reg (.call (vb r2457) :: .n :: []), .br false, .reg (nN 3 []), .br false, .reg (arOT_3 r2462 r2465), .reg (.n :: .call (vi r2469) :: .n :: []), .reg (nN 3 (nS 8 (.b false :: []))), .br false, .reg (.n :: .n :: []), .br true, .reg (arOT_4 r2474), .reg (nN 6 (.call (vb r2481) :: .n :: .b false :: [])), .br false, .reg (.n :: .call (vi r2487) :: .n :: []), .reg (nN 3 []), .reg (.n :: .n :: []), .br false, .reg (nN 3 (.call (VV.tu [VV.ag (c_SRange r2510.1), vi r2510.2]) :: nN 6 [])), .reg (.n :: .n :: []), .br true, .reg (nN 4 (nS 3 (.b false :: .n :: [])))]) (fr := true) (by kernel_rfl) (an (an (ti (ti (ti trivial))) (an (an e2459 (an (not_f h2460) trivial)) (an (an (ti (ti (ti trivial))) (an (decide_eq_false h2461) trivial)) (an e2468 (an (ti (an e2471 (ti trivial))) (an (an e2473 (an rf trivial)) (an (an (ti (ti trivial)) (an (decide_eq_true h2472) (an e2477 (an (an e2485 (an (not_f h2486) trivial)) (ti (an e2489 (ti trivial))))))) (an (ti (ti (ti trivial))) (an (an (ti (ti trivial)) (an (decide_eq_false h2490) trivial)) (an e2513 (an (ti (ti trivial)) (an (not_t (decide_eq_false h2514)) (an e2526 trivial))))))))))))) (ti trivial)) (Wv.refl _)
     ·injection h with h; subst h
      exact fun_ok pm pn Go.Proofs.Try.func5 (r0 := vb false) (ans := [.reg (nN 3 []), .reg (.call (vb r2457) :: .n :: []), .br false, .reg (nN 3 []), .br false, .reg (arOT_3 r2462 r2465), .reg (.n :: .call (vi r2469) :: .n :: []), .reg (nN 3 (nS 8 (.b false :: []))), .br false, .reg (.n :: .n :: []), .br true, .reg (arOT_4 r2474), .reg (nN 6 (.call (vb r2481) :: .n :: .b false :: [])), .br true, .reg (.n :: [])]) (fr := true) (by kernel_rfl) (an (an (ti (ti (ti trivial))) (an (an e2459 (an (not_f h2460) trivial)) (an (an (ti (ti (ti trivial))) (an (decide_eq_false h2461) trivial)) (an e2468 (an (ti (an e2471 (ti trivial))) (an (an e2473 (an rf trivial)) (an (ti (ti trivial)) (an (decide_eq_true h2472) (an e2477 (an e2485 (an (not_t (bool_f h2486)) (an (ti trivial) trivial)))))))))))) (ti trivial)) (Wv.refl _)
    ·have e2527 := (ti (ti (ti (ti (an (not_t (decide_eq_false h2478)) (an (not_t (decide_eq_false h2478)) (an (not_t (decide_eq_false h2478)) (an (not_t (decide_eq_false h2478)) (an (not_t (decide_eq_false h2478)) trivial)))))))))
     injection h with h; subst h
     exact fun_ok pm pn Go.Proofs.Try.func5 (r0 := vb false) (ans := [.reg (nN 3 []), .reg (.call (vb r2457) :: .n :: []), .br false, .reg (nN 3 []), .br false, .reg (arOT_3 r2462 r2465), .reg (.n :: .call (vi r2469) :: .n :: []), .reg (nN 3 (nS 8 (.b false :: []))), .br false, .reg (.n :: .n :: []), .br true, .reg (arOT_4 r2474), .reg (nN 4 (nS 4 (.b true :: []))), .br true, .reg (.n :: [])]) (fr := true) (by kernel_rfl) (an (an (ti (ti (ti trivial))) (an (an e2459 (an (not_f h2460) trivial)) (an (an (ti (ti (ti trivial))) (an (decide_eq_false h2461) trivial)) (an e2468 (an (ti (an e2471 (ti trivial))) (an (an e2473 (an rf trivial)) (an (ti (ti trivial)) (an (decide_eq_true h2472) (an e2477 (an e2527 (an rt (an (ti trivial) trivial)))))))))))) (ti trivial)) (Wv.refl _)
   ·have e2528 := (an (not_t (decide_eq_false h2472)) trivial)
    have e2529 := (an (not_t (decide_eq_false h2472)) trivial)
    have e2530 := (an (not_t (decide_eq_false h2472)) trivial)
    have e2531 := (an (not_t (decide_eq_false h2472)) trivial)
    rcases ifs h with ⟨h2532, h⟩ | ⟨h2532, h⟩
    ·have e2533 := (an (not_f (decide_eq_true h2532)) trivial)
     have e2534 := (an (not_f (decide_eq_true h2532)) trivial)
     have e2535 := (an (not_f (decide_eq_true h2532)) trivial)
     have e2536 := (an (not_t (decide_eq_false h2472)) (not_f (decide_eq_true h2532)))
     have e2537 := (ti (ti (ti (an e2528 (an e2529 (an e2530 (an e2531 (an e2533 (an e2534 (an e2535 (an e2536 (an (not_t (decide_eq_false h2472)) trivial))))))))))))
     rcases ifs h with ⟨h2538, h⟩ | ⟨h2538, h⟩
     ·rcases ifs h with ⟨h2539, h⟩ | ⟨h2539, h⟩
      ·obtain ⟨h2540, h⟩ := ifn h
       have e2541 := (show loadL Go.Proofs.Try.prog 3 (((0 : Int)).toNat * 1) (List.map vi a2) = some (vi (a2.getD ((0 : Int)).toNat 0)) from ld_map ag3 vi a2 0 h2540 (by omega))
       obtain ⟨r2542, h2543, h⟩ := bs h
       have e2544 := (noptics_Departure_ok k a0 a1 (a2.getD ((0 : Int)).toNat 0) _ h2543)
       have e2545 := (ti (ti (ti (an e2544 (ti (ti (ti (ti (ti (ti trivial))))))))))
       rcases ifs h with ⟨h2546, h⟩ | ⟨h2546, h⟩
       ·have e2547 := (an (decide_eq_true h2546) (show List.map kdV [Value.int .i64 r2542.1.Lo, Value.int .i64 r2542.1.Hi] = List.map kdV [Value.int .i64 0, Value.int .i64 0] ∧ EqOK Go.Proofs.Try.prog 34 (List.map kdV [Value.int .i64 0, Value.int .i64 0]) from ⟨rfl, eqok34⟩))
        have e2548 := (ti (ti (ti (ti (an (an (decide_eq_true h2546) trivial) (an (an (decide_eq_true h2546) trivial) (an e2547 (an (decide_eq_true h2546) (ti trivial)))))))))
        injection h with h; subst h
        exact fun_ok pm pn Go.Proofs.Try.func5 (r0 := vb ((r2542.1.Lo : Int) == 0 && ((r2542.1.Hi : Int) == 0 && true))) (ans := [.reg (nN 3 []), .reg (.call (vb r2457) :: .n :: []), .br false, .reg (nN 3 []), .br false, .reg (arOT_3 r2462 r2465), .reg (.n :: .call (vi r2469) :: .n :: []), .reg (nN 10 (.b false :: .b true :: [])), .br false, .reg (.n :: .n :: []), .br false, .reg (nN 3 []), .reg (.n :: .n :: []), .br true, .reg (.n :: .n :: .v (vi (a2.getD ((0 : Int)).toNat 0)) :: .n :: []), .reg (nN 3 (.call (VV.tu [VV.ag (c_SRange r2542.1), vi r2542.2]) :: nN 6 [])), .reg (.n :: .n :: []), .br true, .reg (nN 7 (.b true :: .n :: []))]) (fr := true) (by kernel_rfl) (an (an (ti (ti (ti trivial))) (an (an e2459 (an (not_f h2460) trivial)) (an (an (ti (ti (ti trivial))) (an (decide_eq_false h2461) trivial)) (an e2468 (an (ti (an e2471 (ti trivial))) (an (an e2537 (an (not_f (decide_eq_true h2538)) trivial)) (an (an (ti (ti trivial)) (an (decide_eq_false h2472) trivial)) (an (ti (ti (ti trivial))) (an (an (ti (ti trivial)) (an (decide_eq_true h2539) (ti (an h2540 (an e2541 (ti trivial)))))) (an e2545 (an (ti (ti trivial)) (an (not_t (decide_eq_false h2472)) (an e2548 trivial))))))))))))) (ti trivial)) (Wv.refl _)
       ·have e2549 := (ti (ti (ti (ti (an (decide_eq_false h2546) (an (decide_eq_false h2546) (an (decide_eq_false h2546) (an (decide_eq_false h2546) (ti trivial)))))))))
        injection h with h; subst h
        exact fun_ok pm pn Go.Proofs.Try.func5 (r0 := vb false) (ans := [.reg (nN 3 []), .reg (.call (vb r2457) :: .n :: []), .br false, .reg (nN 3 []), .br false, .reg (arOT_3 r2462 r2465), .reg (.n :: .call (vi r2469) :: .n :: []), .reg (nN 10 (.b false :: .b true :: [])), .br false, .reg (.n :: .n :: []), .br false, .reg (nN 3 []), .reg (.n :: .n :: []), .br true, .reg (.n :: .n :: .v (vi (a2.getD ((0 : Int)).toNat 0)) :: .n :: []), .reg (nN 3 (.call (VV.tu [VV.ag (c_SRange r2542.1), vi r2542.2]) :: nN 6 [])), .reg (.n :: .n :: []), .br true, .reg (nN 4 (nS 3 (.b false :: .n :: [])))]) (fr := true) (by kernel_rfl) (an (an (ti (ti (ti trivial))) (an (an e2459 (an (not_f h2460) trivial)) (an (an (ti (ti (ti trivial))) (an (decide_eq_false h2461) trivial)) (an e2468 (an (ti (an e2471 (ti trivial))) (an (an e2537 (an (not_f (decide_eq_true h2538)) trivial)) (an (an (ti (ti trivial)) (an (decide_eq_false h2472) trivial)) (an (ti (ti (ti trivial))) (an (an (ti (ti trivial)) (an (decide_eq_true h2539) (ti (an h2540 (an e2541 (ti trivial)))))) (an e2545 (an (ti (ti trivial)) (an (not_t (decide_eq_false h2472)) (an e2549 trivial))))))))))))) (ti trivial)) (Wv.refl _)
      ·obtain ⟨r2550, h2551, h⟩ := bs h
       have e2552 := (noptics_Departure_ok k a0 a1 (a2.length : Int) _ h2551)
       have e2553 := (ti (ti (ti (an e2552 (ti (ti (ti (ti (ti (ti trivial))))))))))
       rcases ifs h with ⟨h2554, h⟩ | ⟨h2554, h⟩
       ·have e2555 := (an (decide_eq_true h2554) (show List.map kdV [Value.int .i64 r2550.1.Lo, Value.int .i64 r2550.1.Hi] = List.map kdV [Value.int .i64 0, Value.int .i64 0] ∧ EqOK Go.Proofs.Try.prog 34 (List.map kdV [Value.int .i64 0, Value.int .i64 0]) from ⟨rfl, eqok34⟩))
        have e2556 := (ti (ti (ti (ti (an (an (decide_eq_true h2554) trivial) (an (an (decide_eq_true h2554) trivial) (an e2555 (an (decide_eq_true h2554) (ti trivial)))))))))
        injection h with h; subst h
        exact fun_ok pm pn Go.Proofs.Try.func5 (r0 := vb ((r2550.1.Lo : Int) == 0 && ((r2550.1.Hi : Int) == 0 && true))) (ans := [.reg (nN 3 []), .reg (.call (vb r2457) :: .n :: []), .br false, .reg (nN 3 []), .br false, .reg (arOT_3 r2462 r2465), .reg (.n :: .call (vi r2469) :: .n :: []), .reg (nN 10 (.b false :: .b true :: [])), .br false, .reg (.n :: .n :: []), .br false, .reg (nN 3 []), .reg (.n :: .n :: []), .br false, .reg (nN 3 (.call (VV.tu [VV.ag (c_SRange r2550.1), vi r2550.2]) :: nN 6 [])), .reg (.n :: .n :: []), .br true, .reg (nN 7 (.b true :: .n :: []))]) (fr := true) (by kernel_rfl) (an (an (ti (ti (ti trivial))) (an (an e2459 (an (not_f h2460) trivial)) (an (an (ti (ti (ti trivial))) (an (decide_eq_false h2461) trivial)) (an e2468 (an (ti (an e2471 (ti trivial))) (an (an e2537 (an (not_f (decide_eq_true h2538)) trivial)) (an (an (ti (ti trivial)) (an (decide_eq_false h2472) trivial)) (an (ti (ti (ti trivial))) (an (an (ti (ti trivial)) (an (decide_eq_false h2539) trivial)) (an e2553 (an (ti (ti trivial)) (an (not_t (decide_eq_false h2472)) (an e2556 trivial))))))))))))) (ti trivial)) (Wv.refl _)
       ·have e2557 := (ti (ti (ti (ti (an (decide_eq_false h2554) (an (decide_eq_false h2554) (an (decide_eq_false h2554) (an (decide_eq_false h2554) (ti trivial)))))))))
        injection h with h; subst h
        exact fun_ok pm pn Go.Proofs.Try.func5 (r0 := vb false) (ans := [.reg (nN 3 []), .reg (.call (vb r2457) :: .n :: []), .br false, .reg (nN 3 []), .br false, .reg (arOT_3 r2462 r2465), .reg (.n :: .call (vi r2469) :: .n :: []), .reg (nN 10 (.b false :: .b true :: [])), .br false, .reg (.n :: .n :: []), .br false, .reg (nN 3 []), .reg (.n :: .n :: []), .br false, .reg (nN 3 (.call (VV.tu [VV.ag (c_SRange r2550.1), vi r2550.2]) :: nN 6 [])), .reg (.n :: .n :: []), .br true, .reg (nN 4 (nS 3 (.b false :: .n :: [])))]) (fr := true) (by kernel_rfl) (an (an (ti (ti (ti trivial))) (an (an e2459 (an (not_f h2460) trivial)) (an (an (ti (ti (ti trivial))) (an (decide_eq_false h2461) trivial)) (an e2468 (an (ti (an e2471 (ti trivial))) (an (an e2537 (an (not_f (decide_eq_true h2538)) trivial)) (an (an (ti (ti trivial)) (an (decide_eq_false h2472) trivial)) (an (ti (ti (ti trivial))) (an (an (ti (ti trivial)) (an (decide_eq_false h2539) trivial)) (an e2553 (an (ti (ti trivial)) (an (not_t (decide_eq_false h2472)) (an e2557 trivial))))))))))))) (ti trivial)) (Wv.refl _)
     ·injection h with h; subst h
      exact fun_ok pm pn Go.Proofs.Try.func5 (r0 := vb false) (ans := [.reg (nN 3 []), .reg (.call (vb r2457) :: .n :: []), .br false, .reg (nN 3 []), .br false, .reg (arOT_3 r2462 r2465), .reg (.n :: .call (vi r2469) :: .n :: []), .reg (nN 10 (.b false :: .b true :: [])), .br true, .reg (.n :: [])]) (fr := true) (by kernel_rfl) (an (an (ti (ti (ti trivial))) (an (an e2459 (an (not_f h2460) trivial)) (an (an (ti (ti (ti trivial))) (an (decide_eq_false h2461) trivial)) (an e2468 (an (ti (an e2471 (ti trivial))) (an e2537 (an (not_t (decide_eq_false h2538)) (an (ti trivial) trivial)))))))) (ti trivial)) (Wv.refl _)
    ·have e2558 := (an (not_t (decide_eq_false h2472)) (not_t (decide_eq_false h2532)))
     have e2559 := (ti (ti (ti (an e2528 (an e2529 (an e2530 (an e2531 (an (not_t (decide_eq_false h2532)) (an (not_t (decide_eq_false h2532)) (an (not_t (decide_eq_false h2532)) (an e2558 (an (not_t (decide_eq_false h2472)) trivial))))))))))))
     injection h with h; subst h
     exact fun_ok pm pn Go.Proofs.Try.func5 (r0 := vb false) (ans := [.reg (nN 3 []), .reg (.call (vb r2457) :: .n :: []), .br false, .reg (nN 3 []), .br false, .reg (arOT_3 r2462 r2465), .reg (.n :: .call (vi r2469) :: .n :: []), .reg (nN 7 (nS 3 (.b true :: .b true :: []))), .br true, .reg (.n :: [])]) (fr := true) (by kernel_rfl) (an (an (ti (ti (ti trivial))) (an (an e2459 (an (not_f h2460) trivial)) (an (an (ti (ti (ti trivial))) (an (decide_eq_false h2461) trivial)) (an e2468 (an (ti (an e2471 (ti trivial))) (an e2559 (an rt (an (ti trivial) trivial)))))))) (ti trivial)) (Wv.refl _)
 ·injection h with h; subst h
  exact fun_ok pm pn Go.Proofs.Try.func5 (r0 := vb false) (ans := [.reg (nN 3 []), .reg (.call (vb r2457) :: .n :: []), .br true, .reg (.n :: [])]) (fr := true) (by kernel_rfl) (an (an (ti (ti (ti trivial))) (an e2459 (an (not_t (bool_f h2460)) (an (ti trivial) trivial)))) (ti trivial)) (Wv.refl _)
end Go.Proofs.Ytgaopkhkabbcfaa.Vg

import Derived.Test.YtlhnkehohknhbaaB4
namespace Go.Proofs.Ytlhnkehohknhbaa.Vg
set_option maxRecDepth 100000
set_option maxHeartbeats 4000000
set_option linter.unusedVariables false
set_option linter.unusedSimpArgs false
open Go Go.Proofs.Ytlhnkehohknhbaa.Ev Go.Proofs.Ytlhnkehohknhbaa.Vv
theorem ag41 : isAggT Go.Proofs.Try.prog 41 = some false := by kernel_rfl
def npoint_wayBetween (k : Nat) (a0 : Int) (a1 : Int) : Option (Int × Bool) :=
 some (maxI (w64 (a1 - a0)) (w64 (a0 - a1)), decide (648000 < (maxI (w64 (a1 - a0)) (w64 (a0 - a1)))))
theorem npoint_wayBetween_ok (k : Nat) (a0 : Int) (a1 : Int) (r : (Int × Bool)) (h : npoint_wayBetween k a0 a1 = some r) : VC Go.Proofs.Try.prog 112 [vi a0, vi a1] (VV.tu [vi r.1, vb r.2]) := by
 unfold npoint_wayBetween at h
 injection h with h; subst h
 exact fun_ok pm pn Go.Proofs.Try.func112 (r0 := VV.tu [vi (maxI (w64 (a1 - a0)) (w64 (a0 - a1))), vb (decide (648000 < (maxI (w64 (a1 - a0)) (w64 (a0 - a1)))))]) (ans := [.reg (.n :: .n :: []), .reg (nN 8 []), .reg (nN 5 [])]) (fr := true) (by kernel_rfl) (an (an (ti (ti trivial)) (an (ti (ti (ti (ti (ti (ti (ti (ti trivial)))))))) (an (ti (ti (ti (ti (ti trivial))))) trivial))) (ti (ti trivial))) (Wv.refl _)
def nslices_Index_int_int__l0_0_h (a0 : (List Int)) (a1 : Int) (x8 : Int) : VS := ⟨mkA [(0, VV.tr (List.map vi a0) a0.length), (1, vi a1), (7, vi (a0.length : Int)), (8, vi x8)], [], .nil⟩
def nslices_Index_int_int__l0_0_e0 (a0 : (List Int)) (a1 : Int) (r : Int) : VS := ⟨mkA [(4, vi r)], [], .nil⟩
def nslices_Index_int_int__l0_0_e1 (a0 : (List Int)) (a1 : Int) (r : Unit) : VS := ⟨mkA [], [], .nil⟩
def nslices_Index_int_int__l0_0 (k : Nat) (a0 : (List Int)) (a1 : Int) : Nat -> Int -> Option (Sum Int Unit)
 | 0, _ => none
 | fuel + 1, x8 => if x8 < (a0.length : Int) then (if 0 <= x8 /\ x8 < (a0.length : Int) then (if a1 = (a0.getD x8.toNat 0) then (some (.inl x8)) else (nslices_Index_int_int__l0_0 k a0 a1 fuel (w64 (x8 + 1)))) else none) else (some (.inr ()))
theorem nslices_Index_int_int__l0_0_ok (k : Nat) (a0 : (List Int)) (a1 : Int) : ∀ (fuel : Nat) (x8 : Int) (r : Sum Int Unit), nslices_Index_int_int__l0_0 k a0 a1 fuel x8 = some r -> (match r with | .inl r => VLoop none Go.Proofs.Try.prog (szF Go.Proofs.Try.f139) (bodyOf Go.Proofs.Try.f139 0) (nslices_Index_int_int__l0_0_h a0 a1 x8) .ret (nslices_Index_int_int__l0_0_e0 a0 a1 r) | .inr r => VLoop none Go.Proofs.Try.prog (szF Go.Proofs.Try.f139) (bodyOf Go.Proofs.Try.f139 0) (nslices_Index_int_int__l0_0_h a0 a1 x8) (.exit 0) (nslices_Index_int_int__l0_0_e1 a0 a1 r)) := by
 intro fuel
 induction fuel with
 | zero => intro x8 r h; rw [nslices_Index_int_int__l0_0.eq_1] at h; cases h
 | succ fuel ih =>
  intro x8 r h
  rw [nslices_Index_int_int__l0_0.eq_2] at h
  rcases ifs h with ⟨h2056, h⟩ | ⟨h2056, h⟩
  ·obtain ⟨h2057, h⟩ := ifn h
   have e2058 := (show loadL Go.Proofs.Try.prog 3 (x8.toNat * 1) (List.map vi a0) = some (vi (a0.getD x8.toNat 0)) from ld_map ag3 vi a0 0 h2057 (by omega))
   rcases ifs h with ⟨h2059, h⟩ | ⟨h2059, h⟩
   ·injection h with h; subst h
    exact round_stop (c := ⟨[(4, none)], [], []⟩) (s1 := (nslices_Index_int_int__l0_0_e0 a0 a1 x8)) pm pn (ans := [.reg (.n :: []), .br true, .reg (.n :: .n :: []), .reg (nN 4 (.v (vi (a0.getD x8.toNat 0)) :: .n :: [])), .br true, .reg (.n :: .n :: [])]) (by kernel_rfl) (by intro e; cases e) (an (an (ti trivial) (an (an (decide_eq_true h2056) trivial) (an (ti (ti trivial)) (an (ti (ti (ti (an h2057 (an e2058 (ti trivial)))))) (an (decide_eq_true h2059) (an (ti (ti trivial)) trivial)))))) (ti trivial))
   ·have h2 := ih _ _ h
    obtain ⟨q, hv, hq⟩ := pkR (rd := none) (P := Go.Proofs.Try.prog) (fn := Go.Proofs.Try.f139) (k := 0) (s := (nslices_Index_int_int__l0_0_h a0 a1 x8)) (ans := [.reg (.n :: []), .br true, .reg (.n :: .n :: []), .reg (nN 4 (.v (vi (a0.getD x8.toNat 0)) :: .n :: [])), .br false, .reg (.n :: .n :: [])]) (c := ⟨[(0, none), (1, none), (7, none), (8, none)], [], []⟩) (e := .normal) (s1 := (nslices_Index_int_int__l0_0_h a0 a1 (w64 (x8 + 1)))) (an (an (ti trivial) (an (an (decide_eq_true h2056) trivial) (an (an (ti (ti trivial)) (an (ti (ti (ti (an h2057 (an e2058 (ti trivial)))))) (an (decide_eq_false h2059) trivial))) (ti (ti trivial))))) (ti trivial)) (by kernel_rfl)
    cases r with
    | inl r => exact round_next pm pn hv hq h2
    | inr r =>
     exact round_next pm pn hv hq h2
  ·injection h with h; subst h
   exact round_stop (c := ⟨[], [], []⟩) (s1 := (nslices_Index_int_int__l0_0_e1 a0 a1 ())) pm pn (ans := [.reg (.n :: []), .br false]) (by kernel_rfl) (by intro e; cases e) (an (an (ti trivial) (an (decide_eq_false h2056) trivial)) (ti trivial))
def nslices_Index_int_int_ (k : Nat) (a0 : (List Int)) (a1 : Int) : Option Int :=
 (nslices_Index_int_int__l0_0 k a0 a1 k 0).bind fun r2061 => (match r2061 with | .inl r2062 => (some r2062) | .inr r2063 => (some (-1)))
theorem nslices_Index_int_int__ok (k : Nat) (a0 : (List Int)) (a1 : Int) (r : Int) (h : nslices_Index_int_int_ k a0 a1 = some r) : VC Go.Proofs.Try.prog 139 [VV.tr (List.map vi a0) a0.length, vi a1] (vi r) := by
 unfold nslices_Index_int_int_ at h
 obtain ⟨r2061, h2060, h⟩ := bs h
 have hph2060 := nslices_Index_int_int__l0_0_ok k a0 a1 _ _ _ h2060
 cases r2061 with
 | inl r2062 =>
  dsimp only at h
  have e2064 := (an (ti trivial) (VRun.loop hph2060))
  injection h with h; subst h
  exact fun_ok pm pn Go.Proofs.Try.func139 (r0 := vi r2062) (ans := [.reg (.n :: []), .reg (nN 3 []), .sub ⟨[(0, none), (1, none), (7, none), (8, none)], [], []⟩ .ret (nslices_Index_int_int__l0_0_e0 a0 a1 r2062)]) (fr := true) (by kernel_rfl) (an (an (ti trivial) (an (ti (ti (ti trivial))) e2064)) (ti trivial)) (Wv.refl _)
 | inr r2063 =>
  dsimp only at h
  have e2065 := (an (ti trivial) (VRun.loop hph2060))
  injection h with h; subst h
  exact fun_ok pm pn Go.Proofs.Try.func139 (r0 := vi (-1)) (ans := [.reg (.n :: []), .reg (nN 3 []), .sub ⟨[(0, none), (1, none), (7, none), (8, none)], [], []⟩ (.exit 0) (nslices_Index_int_int__l0_0_e1 a0 a1 r2063), .reg (.n :: [])]) (fr := true) (by kernel_rfl) (an (an (ti trivial) (an (an (ti (ti (ti trivial))) e2065) (an (ti trivial) trivial))) (ti trivial)) (Wv.refl _)
def arB6_0 (z0 : Stour) (z1 : Int) (z2 : Int) : List Ans := (nN 5 (.v (VV.tr (List.map vi ((z0.stops.getD z1.toNat default).turns)) (((z0.stops.getD z1.toNat default).turns).length)) :: .n :: .call (vi z2) :: .n :: []))
def arB6_1 (z0 : Stour) (z1 : Int) (z2 : Int) : List Ans := (nN 7 (.v (VV.tr (List.map vi ((z0.stops.getD z1.toNat default).positions)) (((z0.stops.getD z1.toNat default).positions).length)) :: .n :: .n :: .v (vi (((z0.stops.getD z1.toNat default).positions).getD z2.toNat 0)) :: .n :: .n :: []))
def n_point_tour_chosen_l0_0_h (a0 : Stour) (a1 : (List Int)) (y1 : List Int) (x21 : Int) : VS := ⟨mkA [(2, VV.pt 0 0), (6, VV.rf 1 0 y1.length), (19, VV.tr (List.map vi a1) a1.length), (20, vi (a1.length : Int)), (21, vi x21)], [some ⟨true, 1, c_Stour a0⟩, some ⟨false, 1, List.map vi y1⟩], .nil⟩
def n_point_tour_chosen_l0_0_e0 (a0 : Stour) (a1 : (List Int)) (r : Unit) : VS := ⟨mkA [(4, VV.c (.slice none 0 0)), (5, vi 6)], [], .nil⟩
def n_point_tour_chosen_l0_0_e1 (a0 : Stour) (a1 : (List Int)) (r : (List Int)) : VS := ⟨mkA [(6, VV.rf 1 0 r.length)], [some ⟨true, 1, c_Stour a0⟩, some ⟨false, 1, List.map vi r⟩], .nil⟩
def n_point_tour_chosen_l0_0 (k : Nat) (a0 : Stour) (a1 : (List Int)) : Nat -> (List Int) -> Int -> Option (Sum Unit (List Int))
 | 0, _, _ => none
 | fuel + 1, y1, x21 => if x21 < (a1.length : Int) then (if 0 <= x21 /\ x21 < (a1.length : Int) then (if 0 <= x21 /\ x21 < (a0.stops.length : Int) then ((nslices_Index_int_int_ k ((a0.stops.getD x21.toNat default).turns) (a1.getD x21.toNat 0)).bind fun r2159 => (if r2159 < 0 then (some (.inl ())) else (if 0 <= r2159 /\ r2159 < (((a0.stops.getD x21.toNat default).positions).length : Int) then (if 0 <= x21 /\ x21 < (y1.length : Int) then (n_point_tour_chosen_l0_0 k a0 a1 fuel (y1.set x21.toNat (((a0.stops.getD x21.toNat default).positions).getD r2159.toNat 0)) (w64 (x21 + 1))) else none) else none))) else none) else none) else (some (.inr y1))
theorem n_point_tour_chosen_l0_0_ok (k : Nat) (a0 : Stour) (a1 : (List Int)) : ∀ (fuel : Nat) (y1 : List Int) (x21 : Int) (r : Sum Unit (List Int)), n_point_tour_chosen_l0_0 k a0 a1 fuel y1 x21 = some r -> (match r with | .inl r => VLoop none Go.Proofs.Try.prog (szF Go.Proofs.Try.f115) (bodyOf Go.Proofs.Try.f115 0) (n_point_tour_chosen_l0_0_h a0 a1 y1 x21) .ret (n_point_tour_chosen_l0_0_e0 a0 a1 r) | .inr r => VLoop none Go.Proofs.Try.prog (szF Go.Proofs.Try.f115) (bodyOf Go.Proofs.Try.f115 0) (n_point_tour_chosen_l0_0_h a0 a1 y1 x21) (.exit 0) (n_point_tour_chosen_l0_0_e1 a0 a1 r)) := by
 intro fuel
 induction fuel with
 | zero => intro y1 x21 r h; rw [n_point_tour_chosen_l0_0.eq_1] at h; cases h
 | succ fuel ih =>
  intro y1 x21 r h
  rw [n_point_tour_chosen_l0_0.eq_2] at h
  rcases ifs h with ⟨h2154, h⟩ | ⟨h2154, h⟩
  ·obtain ⟨h2155, h⟩ := ifn h
   have e2156 := (show loadL Go.Proofs.Try.prog 3 (x21.toNat * 1) (List.map vi a1) = some (vi (a1.getD x21.toNat 0)) from ld_map ag3 vi a1 0 h2155 (by omega))
   obtain ⟨h2157, h⟩ := ifn h
   have e2158 := (show loadL Go.Proofs.Try.prog 41 (x21.toNat * 8 + 6) (List.flatMap c_Sstop a0.stops) = some (VV.tr (List.map vi ((a0.stops.getD x21.toNat default).turns)) (((a0.stops.getD x21.toNat default).turns).length)) from (ld_flat ag41 c_Sstop 8 6 len_c_Sstop (by omega) a0.stops default h2157 (by omega)).trans rfl)
   obtain ⟨r2159, h2160, h⟩ := bs h
   have e2161 := (nslices_Index_int_int__ok k ((a0.stops.getD x21.toNat default).turns) (a1.getD x21.toNat 0) _ h2160)
   have e2162 := (ti (ti (ti (an h2157 (ti (an e2158 (ti (an e2161 (ti trivial)))))))))
   rcases ifs h with ⟨h2163, h⟩ | ⟨h2163, h⟩
   ·injection h with h; subst h
    exact round_stop (c := ⟨[(4, none), (5, none)], [], []⟩) (s1 := (n_point_tour_chosen_l0_0_e0 a0 a1 ())) pm pn (ans := [.reg (.n :: []), .br true, .reg (.n :: .n :: .v (vi (a1.getD x21.toNat 0)) :: .n :: .n :: []), .reg (arB6_0 a0 x21 r2159), .reg (.n :: .n :: []), .br true, .reg (.n :: .n :: [])]) (by kernel_rfl) (by intro e; cases e) (an (an (ti trivial) (an (an (decide_eq_true h2154) trivial) (an (ti (an h2155 (an e2156 (ti (ti trivial))))) (an e2162 (an (ti (ti trivial)) (an (decide_eq_true h2163) (an (ti (ti trivial)) trivial))))))) (ti trivial))
   ·have e2164 := (show loadL Go.Proofs.Try.prog 41 (x21.toNat * 8 + 7) (List.flatMap c_Sstop a0.stops) = some (VV.tr (List.map vi ((a0.stops.getD x21.toNat default).positions)) (((a0.stops.getD x21.toNat default).positions).length)) from (ld_flat ag41 c_Sstop 8 7 len_c_Sstop (by omega) a0.stops default h2157 (by omega)).trans rfl)
    obtain ⟨h2165, h⟩ := ifn h
    have e2166 := (show loadL Go.Proofs.Try.prog 3 (r2159.toNat * 1) (List.map vi ((a0.stops.getD x21.toNat default).positions)) = some (vi (((a0.stops.getD x21.toNat default).positions).getD r2159.toNat 0)) from ld_map ag3 vi ((a0.stops.getD x21.toNat default).positions) 0 h2165 (by omega))
    obtain ⟨h2167, h⟩ := ifn h
    have e2168 := (show (0 + x21.toNat * 1) + 1 <= List.length (List.map vi y1) from (by simp only [List.length_map]; omega))
    have e2169 := (ti (ti (ti (ti (ti (an h2157 (ti (an e2164 (ti (an h2165 (an e2166 (an h2167 (an e2168 trivial)))))))))))))
    have h2 := ih _ _ _ h
    obtain ⟨q, hv, hq⟩ := pkR (rd := none) (P := Go.Proofs.Try.prog) (fn := Go.Proofs.Try.f115) (k := 0) (s := (n_point_tour_chosen_l0_0_h a0 a1 y1 x21)) (ans := [.reg (.n :: []), .br true, .reg (.n :: .n :: .v (vi (a1.getD x21.toNat 0)) :: .n :: .n :: []), .reg (arB6_0 a0 x21 r2159), .reg (.n :: .n :: []), .br false, .reg (arB6_1 a0 x21 r2159), .reg (.n :: .n :: [])]) (c := ⟨[(2, none), (6, some (VV.rf 1 0 ((y1.set x21.toNat (((a0.stops.getD x21.toNat default).positions).getD r2159.toNat 0)).length))), (19, none), (20, none), (21, none)], [none, some (List.map vi (y1.set x21.toNat (((a0.stops.getD x21.toNat default).positions).getD r2159.toNat 0)))], []⟩) (e := .normal) (s1 := (n_point_tour_chosen_l0_0_h a0 a1 (y1.set x21.toNat (((a0.stops.getD x21.toNat default).positions).getD r2159.toNat 0)) (w64 (x21 + 1)))) (an (an (ti trivial) (an (an (decide_eq_true h2154) trivial) (an (an (ti (an h2155 (an e2156 (ti (ti trivial))))) (an e2162 (an (an (ti (ti trivial)) (an (decide_eq_false h2163) trivial)) e2169))) (ti (ti trivial))))) (an (an (show Wv (VV.rf 1 0 y1.length) (VV.rf 1 0 ((y1.set x21.toNat (((a0.stops.getD x21.toNat default).positions).getD r2159.toNat 0)).length)) from (Wv.of_eq (by simp))) trivial) (an (show putT (0 + x21.toNat * 1) (List.map vi y1) [vi (((a0.stops.getD x21.toNat default).positions).getD r2159.toNat 0)] = List.map vi (y1.set x21.toNat (((a0.stops.getD x21.toNat default).positions).getD r2159.toNat 0)) from (by exact putT_vi y1 h2167 (((a0.stops.getD x21.toNat default).positions).getD r2159.toNat 0) (by omega))) trivial))) (by kernel_rfl)
    cases r with
    | inl r => exact round_next pm pn hv hq h2
    | inr r =>
     exact round_next pm pn hv hq h2
  ·injection h with h; subst h
   exact round_stop (c := ⟨[(6, none)], [none, none], []⟩) (s1 := (n_point_tour_chosen_l0_0_e1 a0 a1 y1)) pm pn (ans := [.reg (.n :: []), .br false]) (by kernel_rfl) (by intro e; cases e) (an (an (ti trivial) (an (decide_eq_false h2154) trivial)) (ti trivial))
theorem eqB6_1 (z0 : (List Int)) : VV.tu [VV.fw 1 (List.drop 0 (List.map unfr (List.map vi z0))) z0.length, vi 0] = VV.tu [VV.fw 1 (List.map vi z0) z0.length, vi 0] := by first | rfl | simp only [drop0, unfr_vi, List.map_cons, List.map_nil, un_i, List.length_map, List.length_cons, List.length_nil]
def n_point_tour_chosen (k : Nat) (a0 : Stour) (a1 : (List Int)) : Option ((List Int) × Int) :=
 if (a1.length : Int) = (a0.stops.length : Int) then (if 0 <= (a1.length : Int) /\ (a1.length : Int) <= 1000000000 then ((n_point_tour_chosen_l0_0 k a0 a1 k (List.replicate (a1.length : Int).toNat (0 : Int)) 0).bind fun r2171 => (match r2171 with | .inl r2172 => (some ([], 6)) | .inr r2173 => (some (r2173, 0)))) else none) else (some ([], 10))
theorem n_point_tour_chosen_ok (k : Nat) (a0 : Stour) (a1 : (List Int)) (r : ((List Int) × Int)) (h : n_point_tour_chosen k a0 a1 = some r) : VC Go.Proofs.Try.prog 115 [VV.ag (c_Stour a0), VV.tr (List.map vi a1) a1.length] (VV.tu [VV.fw 1 (List.map vi r.1) r.1.length, vi r.2]) := by
 unfold n_point_tour_chosen at h
 rcases ifs h with ⟨h2117, h⟩ | ⟨h2117, h⟩
 ·obtain ⟨h2118, h⟩ := ifn h
  have e2119 := (show 0 <= (a1.length : Int) /\ (a1.length : Int) = (a1.length : Int) /\ (8 * (a1.length : Int).toNat) <= 281474976710656 /\ (a1.length : Int) < 1099511627776 from ⟨by omega, rfl, by omega, by omega⟩)
  obtain ⟨r2171, h2170, h⟩ := bs h
  have hph2170 := n_point_tour_chosen_l0_0_ok k a0 a1 _ _ _ _ h2170
  cases r2171 with
  | inl r2172 =>
   dsimp only at h
   have e2174 := (an (an (an (show Wv (VV.rf 1 0 ((a1.length : Int).toNat)) (VV.rf 1 0 ((List.replicate (a1.length : Int).toNat (0 : Int)).length)) from (Wv.of_eq (by simp))) trivial) (an (show List.replicate (a1.length : Int).toNat (VV.c (.int .i64 0)) = List.map vi (List.replicate (a1.length : Int).toNat (0 : Int)) from replicate_vi _) trivial)) (VRun.loop hph2170))
   injection h with h; subst h
   exact fun_ok pm pn Go.Proofs.Try.func115 (r0 := VV.tu [VV.c (.slice none 0 0), vi 6]) (ans := [.reg (nN 3 []), .reg (nN 6 []), .br false, .reg (nN 4 []), .reg (nN 3 []), .sub ⟨[(2, none), (6, some (VV.rf 1 0 ((List.replicate (a1.length : Int).toNat (0 : Int)).length))), (19, none), (20, none), (21, none)], [none, some (List.map vi (List.replicate (a1.length : Int).toNat (0 : Int)))], []⟩ .ret (n_point_tour_chosen_l0_0_e0 a0 a1 r2172)]) (fr := true) (by kernel_rfl) (an (an (ti (ti (ti trivial))) (an (an (ti (ti (ti (ti (ti (ti trivial)))))) (an (not_f (decide_eq_true h2117)) trivial)) (an (ti (ti (an e2119 (ti trivial)))) (an (ti (ti (ti trivial))) e2174)))) (ti (ti trivial))) (Wv.tuL (.cons Wv.nilFw (.cons (Wv.refl _) .nil)))
  | inr r2173 =>
   dsimp only at h
   have e2175 := (an (an (an (show Wv (VV.rf 1 0 ((a1.length : Int).toNat)) (VV.rf 1 0 ((List.replicate (a1.length : Int).toNat (0 : Int)).length)) from (Wv.of_eq (by simp))) trivial) (an (show List.replicate (a1.length : Int).toNat (VV.c (.int .i64 0)) = List.map vi (List.replicate (a1.length : Int).toNat (0 : Int)) from replicate_vi _) trivial)) (VRun.loop hph2170))
   injection h with h; subst h
   exact fun_ok pm pn Go.Proofs.Try.func115 (r0 := VV.tu [VV.fw 1 (List.drop 0 (List.map unfr (List.map vi r2173))) r2173.length, vi 0]) (ans := [.reg (nN 3 []), .reg (nN 6 []), .br false, .reg (nN 4 []), .reg (nN 3 []), .sub ⟨[(2, none), (6, some (VV.rf 1 0 ((List.replicate (a1.length : Int).toNat (0 : Int)).length))), (19, none), (20, none), (21, none)], [none, some (List.map vi (List.replicate (a1.length : Int).toNat (0 : Int)))], []⟩ (.exit 0) (n_point_tour_chosen_l0_0_e1 a0 a1 r2173), .reg (nN 3 [])]) (fr := true) (by kernel_rfl) (an (an (ti (ti (ti trivial))) (an (an (ti (ti (ti (ti (ti (ti trivial)))))) (an (not_f (decide_eq_true h2117)) trivial)) (an (ti (ti (an e2119 (ti trivial)))) (an (an (ti (ti (ti trivial))) e2175) (an (ti (ti (ti trivial))) trivial))))) (an (show List.all (List.map vi r2173) new0 = true from (by exact new0_vi _)) (ti trivial))) (Wv.of_eq (eqB6_1 r2173))
 ·injection h with h; subst h
  exact fun_ok pm pn Go.Proofs.Try.func115 (r0 := VV.tu [VV.c (.slice none 0 0), vi 10]) (ans := [.reg (nN 3 []), .reg (nN 6 []), .br true, .reg (.n :: .n :: [])]) (fr := true) (by kernel_rfl) (an (an (ti (ti (ti trivial))) (an (ti (ti (ti (ti (ti (ti trivial)))))) (an (not_t (decide_eq_false h2117)) (an (ti (ti trivial)) trivial)))) (ti (ti trivial))) (Wv.tuL (.cons Wv.nilFw (.cons (Wv.refl _) .nil)))
def npoint_costBetween (k : Nat) (a0 : Int) (a1 : Int) : Option Int :=
 (npoint_wayBetween k a0 a1).bind fun r2188 => (if r2188.2 = true then (some (w64 (r2188.1 + 10000000000))) else (some r2188.1))
theorem npoint_costBetween_ok (k : Nat) (a0 : Int) (a1 : Int) (r : Int) (h : npoint_costBetween k a0 a1 = some r) : VC Go.Proofs.Try.prog 116 [vi a0, vi a1] (vi r) := by
 unfold npoint_costBetween at h
 obtain ⟨r2188, h2189, h⟩ := bs h
 have e2190 := (ti (ti (an (npoint_wayBetween_ok k a0 a1 _ h2189) (ti (ti (ti (ti (ti trivial))))))))
 rcases ifs h with ⟨h2191, h⟩ | ⟨h2191, h⟩
 ·injection h with h; subst h
  exact fun_ok pm pn Go.Proofs.Try.func116 (r0 := vi (w64 (r2188.1 + 10000000000))) (ans := [.reg (.n :: []), .reg (.n :: .n :: .call (VV.tu [vi r2188.1, vb r2188.2]) :: nN 5 []), .reg (.n :: []), .br true, .reg (nN 3 [])]) (fr := true) (by kernel_rfl) (an (an (ti trivial) (an e2190 (an (ti trivial) (an h2191 (an (ti (ti (ti trivial))) trivial))))) (ti trivial)) (Wv.refl _)
 ·injection h with h; subst h
  exact fun_ok pm pn Go.Proofs.Try.func116 (r0 := vi r2188.1) (ans := [.reg (.n :: []), .reg (.n :: .n :: .call (VV.tu [vi r2188.1, vb r2188.2]) :: nN 5 []), .reg (.n :: []), .br false, .reg (.n :: .n :: [])]) (fr := true) (by kernel_rfl) (an (an (ti trivial) (an e2190 (an (an (ti trivial) (an (bool_f h2191) trivial)) (an (ti (ti trivial)) trivial)))) (ti trivial)) (Wv.refl _)
def npoint_CheckChoice_l0_0_h (r2215 : ((List Int) × Int)) (x14 : Int) (x15 : Int) (x42 : Int) : VS := ⟨mkA [(14, vi x14), (15, vi x15), (40, VV.fr (List.map vi r2215.1) r2215.1.length), (41, vi (r2215.1.length : Int)), (42, vi x42)], [], .nil⟩
def npoint_CheckChoice_l0_0_e0 (r2215 : ((List Int) × Int)) (r : Int) : VS := ⟨mkA [(14, vi r)], [], .nil⟩
def npoint_CheckChoice_l0_0 (k : Nat) (r2215 : ((List Int) × Int)) : Nat -> Int -> Int -> Int -> Option (Int)
 | 0, _, _, _ => none
 | fuel + 1, x14, x15, x42 => if x42 < (r2215.1.length : Int) then (if 0 <= x42 /\ x42 < (r2215.1.length : Int) then ((npoint_costBetween k x15 (r2215.1.getD x42.toNat 0)).bind fun r2235 => (npoint_CheckChoice_l0_0 k r2215 fuel (w64 (x14 + r2235)) (r2215.1.getD x42.toNat 0) (w64 (x42 + 1)))) else none) else (some x14)
theorem npoint_CheckChoice_l0_0_ok (k : Nat) (r2215 : ((List Int) × Int)) : ∀ (fuel : Nat) (x14 : Int) (x15 : Int) (x42 : Int) (r : Int), npoint_CheckChoice_l0_0 k r2215 fuel x14 x15 x42 = some r -> (VLoop none Go.Proofs.Try.prog (szF Go.Proofs.Try.f68) (bodyOf Go.Proofs.Try.f68 0) (npoint_CheckChoice_l0_0_h r2215 x14 x15 x42) (.exit 0) (npoint_CheckChoice_l0_0_e0 r2215 r)) := by
 intro fuel
 induction fuel with
 | zero => intro x14 x15 x42 r h; rw [npoint_CheckChoice_l0_0.eq_1] at h; cases h
 | succ fuel ih =>
  intro x14 x15 x42 r h
  rw [npoint_CheckChoice_l0_0.eq_2] at h
  rcases ifs h with ⟨h2232, h⟩ | ⟨h2232, h⟩
  ·obtain ⟨h2233, h⟩ := ifn h
   have e2234 := (show loadL Go.Proofs.Try.prog 3 (x42.toNat * 1) (List.map vi r2215.1) = some (vi (r2215.1.getD x42.toNat 0)) from ld_map ag3 vi r2215.1 0 h2233 (by omega))
   obtain ⟨r2235, h2236, h⟩ := bs h
   have e2237 := (npoint_costBetween_ok k x15 (r2215.1.getD x42.toNat 0) _ h2236)
   have h2 := ih _ _ _ _ h
   obtain ⟨q, hv, hq⟩ := pkR (rd := none) (P := Go.Proofs.Try.prog) (fn := Go.Proofs.Try.f68) (k := 0) (s := (npoint_CheckChoice_l0_0_h r2215 x14 x15 x42)) (ans := [.reg (.n :: []), .br true, .reg (.n :: .v (vi (r2215.1.getD x42.toNat 0)) :: .n :: []), .reg (nN 3 (.call (vi r2235) :: .n :: .n :: [])), .reg (.n :: .n :: []), .reg (.n :: .n :: [])]) (c := ⟨[(14, none), (15, none), (40, none), (41, none), (42, none)], [], []⟩) (e := .normal) (s1 := (npoint_CheckChoice_l0_0_h r2215 (w64 (x14 + r2235)) (r2215.1.getD x42.toNat 0) (w64 (x42 + 1)))) (an (an (ti trivial) (an (an (decide_eq_true h2232) trivial) (an (an (an h2233 (an e2234 (ti trivial))) (an (ti (ti (ti (an e2237 (ti (ti trivial)))))) (ti (ti trivial)))) (ti (ti trivial))))) (ti trivial)) (by kernel_rfl)
   exact round_next pm pn hv hq h2
  ·injection h with h; subst h
   exact round_stop (c := ⟨[(14, none)], [], []⟩) (s1 := (npoint_CheckChoice_l0_0_e0 r2215 x14)) pm pn (ans := [.reg (.n :: []), .br false]) (by kernel_rfl) (by intro e; cases e) (an (an (ti trivial) (an (decide_eq_false h2232) trivial)) (ti trivial))
def arB6_2 (z0 : ((List Int) × Int)) : List Ans := (.n :: .n :: .call (VV.tu [VV.fr (List.map vi z0.1) z0.1.length, vi z0.2]) :: nN 5 [])
def npoint_CheckChoice (k : Nat) (a0 : SSkyMount) (a1 : (List SSkyTarget)) (a2 : A23) (a3 : (List Int)) : Option (Int × Int) :=
 (npoint_tourOf k a0 a1 a2).bind fun r2210 => (if r2210.2.2 = 0 then ((n_point_tour_chosen k r2210.1 a3).bind fun r2215 => (if r2215.2 = 0 then ((npoint_CheckChoice_l0_0 k r2215 k 0 r2210.1.begin 0).bind fun r2239 => (some (r2239, 0))) else (some (0, r2215.2)))) else (some (0, r2210.2.2)))
theorem npoint_CheckChoice_ok (k : Nat) (a0 : SSkyMount) (a1 : (List SSkyTarget)) (a2 : A23) (a3 : (List Int)) (r : (Int × Int)) (h : npoint_CheckChoice k a0 a1 a2 a3 = some r) : VC Go.Proofs.Try.prog 68 [VV.ag (c_SSkyMount a0), VV.tr (List.flatMap c_SSkyTarget a1) a1.length, VV.ag (c_A23 a2), VV.tr (List.map vi a3) a3.length] (VV.tu [vi r.1, vi r.2]) := by
 unfold npoint_CheckChoice at h
 obtain ⟨r2210, h2211, h⟩ := bs h
 have e2212 := (show VC Go.Proofs.Try.prog 114 [VV.ag (c_SSkyMount a0), VV.tr (List.flatMap c_SSkyTarget a1) a1.length, VV.ag (c_A23 a2)] (VV.tu [VV.ag (g_Stour r2210.1), vi r2210.2.1, vi r2210.2.2]) from (VC.weak (npoint_tourOf_ok k a0 a1 a2 _ h2211) (Wv.tuL (.cons (Wv.agL (.cons (Wv.refl _) (.cons (Wv.fw rfl rfl) .nil))) (.cons (Wv.refl _) (.cons (Wv.refl _) .nil))))))
 have e2213 := (ti (ti (ti (an e2212 (ti (ti (ti (ti (ti (ti (ti (ti trivial))))))))))))
 rcases ifs h with ⟨h2214, h⟩ | ⟨h2214, h⟩
 ·obtain ⟨r2215, h2216, h⟩ := bs h
  have e2217 := (show VC Go.Proofs.Try.prog 115 [VV.ag (c_Stour r2210.1), VV.tr (List.map vi a3) a3.length] (VV.tu [VV.fr (List.map vi r2215.1) r2215.1.length, vi r2215.2]) from (VC.weak (n_point_tour_chosen_ok k r2210.1 a3 _ h2216) (Wv.tuL (.cons (Wv.fw rfl rfl) (.cons (Wv.refl _) .nil)))))
  have e2218 := (ti (ti (an e2217 (ti (ti (ti (ti (ti trivial))))))))
  rcases ifs h with ⟨h2219, h⟩ | ⟨h2219, h⟩
  ·obtain ⟨r2239, h2238, h⟩ := bs h
   have hph2238 := npoint_CheckChoice_l0_0_ok k r2215 _ _ _ _ _ h2238
   have e2240 := (an (ti trivial) (VRun.loop hph2238))
   injection h with h; subst h
   exact fun_ok pm pn Go.Proofs.Try.func68 (r0 := VV.tu [vi r2239, vi 0]) (ans := [.reg (nN 4 []), .reg (nN 3 (.call (VV.tu [VV.ag (g_Stour r2210.1), vi r2210.2.1, vi r2210.2.2]) :: nN 8 [])), .reg (.n :: .n :: []), .br false, .reg (arB6_2 r2215), .reg (.n :: .n :: []), .br false, .reg (nN 4 []), .reg (nN 3 []), .sub ⟨[(14, none), (15, none), (40, none), (41, none), (42, none)], [], []⟩ (.exit 0) (npoint_CheckChoice_l0_0_e0 r2215 r2239), .reg (nN 3 [])]) (fr := true) (by kernel_rfl) (an (an (ti (ti (ti (ti trivial)))) (an e2213 (an (an (ti (ti trivial)) (an (not_f (decide_eq_true h2214)) trivial)) (an e2218 (an (an (ti (ti trivial)) (an (not_f (decide_eq_true h2219)) trivial)) (an (ti (ti (ti (ti trivial)))) (an (an (ti (ti (ti trivial))) e2240) (an (ti (ti (ti trivial))) trivial)))))))) (ti (ti trivial))) (Wv.refl _)
  ·injection h with h; subst h
   exact fun_ok pm pn Go.Proofs.Try.func68 (r0 := VV.tu [vi 0, vi r2215.2]) (ans := [.reg (nN 4 []), .reg (nN 3 (.call (VV.tu [VV.ag (g_Stour r2210.1), vi r2210.2.1, vi r2210.2.2]) :: nN 8 [])), .reg (.n :: .n :: []), .br false, .reg (arB6_2 r2215), .reg (.n :: .n :: []), .br true, .reg (nN 3 [])]) (fr := true) (by kernel_rfl) (an (an (ti (ti (ti (ti trivial)))) (an e2213 (an (an (ti (ti trivial)) (an (not_f (decide_eq_true h2214)) trivial)) (an e2218 (an (ti (ti trivial)) (an (not_t (decide_eq_false h2219)) (an (ti (ti (ti trivial))) trivial))))))) (ti (ti trivial))) (Wv.refl _)
 ·injection h with h; subst h
  exact fun_ok pm pn Go.Proofs.Try.func68 (r0 := VV.tu [vi 0, vi r2210.2.2]) (ans := [.reg (nN 4 []), .reg (nN 3 (.call (VV.tu [VV.ag (g_Stour r2210.1), vi r2210.2.1, vi r2210.2.2]) :: nN 8 [])), .reg (.n :: .n :: []), .br true, .reg (nN 3 [])]) (fr := true) (by kernel_rfl) (an (an (ti (ti (ti (ti trivial)))) (an e2213 (an (ti (ti trivial)) (an (not_t (decide_eq_false h2214)) (an (ti (ti (ti trivial))) trivial))))) (ti (ti trivial))) (Wv.refl _)
def nspeculumbase_Has_l0_0_h (a0 : (List Int)) (a1 : Int) (x5 : Int) : VS := ⟨mkA [(0, VV.tr (List.map vi a0) a0.length), (1, vi a1), (5, vi x5)], [], .nil⟩
def nspeculumbase_Has_l0_0_e0 (a0 : (List Int)) (a1 : Int) (r : Unit) : VS := ⟨mkA [(4, vb true)], [], .nil⟩
def nspeculumbase_Has_l0_0_e1 (a0 : (List Int)) (a1 : Int) (r : Unit) : VS := ⟨mkA [], [], .nil⟩
def nspeculumbase_Has_l0_0 (k : Nat) (a0 : (List Int)) (a1 : Int) : Nat -> Int -> Option (Sum Unit Unit)
 | 0, _ => none
 | fuel + 1, x5 => if x5 < (a0.length : Int) then (if 0 <= x5 /\ x5 < (a0.length : Int) then (if (a0.getD x5.toNat 0) = a1 then (some (.inl ())) else (nspeculumbase_Has_l0_0 k a0 a1 fuel (w64 (x5 + 1)))) else none) else (some (.inr ()))
theorem nspeculumbase_Has_l0_0_ok (k : Nat) (a0 : (List Int)) (a1 : Int) : ∀ (fuel : Nat) (x5 : Int) (r : Sum Unit Unit), nspeculumbase_Has_l0_0 k a0 a1 fuel x5 = some r -> (match r with | .inl r => VLoop none Go.Proofs.Try.prog (szF Go.Proofs.Try.f81) (bodyOf Go.Proofs.Try.f81 0) (nspeculumbase_Has_l0_0_h a0 a1 x5) .ret (nspeculumbase_Has_l0_0_e0 a0 a1 r) | .inr r => VLoop none Go.Proofs.Try.prog (szF Go.Proofs.Try.f81) (bodyOf Go.Proofs.Try.f81 0) (nspeculumbase_Has_l0_0_h a0 a1 x5) (.exit 0) (nspeculumbase_Has_l0_0_e1 a0 a1 r)) := by
 intro fuel
 induction fuel with
 | zero => intro x5 r h; rw [nspeculumbase_Has_l0_0.eq_1] at h; cases h
 | succ fuel ih =>
  intro x5 r h
  rw [nspeculumbase_Has_l0_0.eq_2] at h
  rcases ifs h with ⟨h2279, h⟩ | ⟨h2279, h⟩
  ·obtain ⟨h2280, h⟩ := ifn h
   have e2281 := (show loadL Go.Proofs.Try.prog 3 (x5.toNat * 1) (List.map vi a0) = some (vi (a0.getD x5.toNat 0)) from ld_map ag3 vi a0 0 h2280 (by omega))
   rcases ifs h with ⟨h2282, h⟩ | ⟨h2282, h⟩
   ·injection h with h; subst h
    exact round_stop (c := ⟨[(4, none)], [], []⟩) (s1 := (nspeculumbase_Has_l0_0_e0 a0 a1 ())) pm pn (ans := [.reg (nN 4 []), .br true, .reg (nN 3 (.v (vi (a0.getD x5.toNat 0)) :: .n :: .n :: [])), .br true, .reg (.n :: [])]) (by kernel_rfl) (by intro e; cases e) (an (an (an (ti (ti (ti (ti trivial)))) (an (decide_eq_true h2279) trivial)) (an (ti (ti (an h2280 (an e2281 (ti (ti trivial)))))) (an (decide_eq_true h2282) (an (ti trivial) trivial)))) (ti trivial))
   ·have h2 := ih _ _ h
    obtain ⟨q, hv, hq⟩ := pkR (rd := none) (P := Go.Proofs.Try.prog) (fn := Go.Proofs.Try.f81) (k := 0) (s := (nspeculumbase_Has_l0_0_h a0 a1 x5)) (ans := [.reg (nN 4 []), .br true, .reg (nN 3 (.v (vi (a0.getD x5.toNat 0)) :: .n :: .n :: [])), .br false, .reg (nN 3 [])]) (c := ⟨[(0, none), (1, none), (5, none)], [], []⟩) (e := .normal) (s1 := (nspeculumbase_Has_l0_0_h a0 a1 (w64 (x5 + 1)))) (an (an (an (ti (ti (ti (ti trivial)))) (an (decide_eq_true h2279) trivial)) (an (an (ti (ti (an h2280 (an e2281 (ti (ti trivial)))))) (an (decide_eq_false h2282) trivial)) (ti (ti (ti trivial))))) (ti trivial)) (by kernel_rfl)
    cases r with
    | inl r => exact round_next pm pn hv hq h2
    | inr r =>
     exact round_next pm pn hv hq h2
  ·injection h with h; subst h
   exact round_stop (c := ⟨[], [], []⟩) (s1 := (nspeculumbase_Has_l0_0_e1 a0 a1 ())) pm pn (ans := [.reg (nN 4 []), .br false]) (by kernel_rfl) (by intro e; cases e) (an (an (ti (ti (ti (ti trivial)))) (an (decide_eq_false h2279) trivial)) (ti trivial))
def nspeculumbase_Has (k : Nat) (a0 : (List Int)) (a1 : Int) : Option Bool :=
 (nspeculumbase_Has_l0_0 k a0 a1 k 0).bind fun r2284 => (match r2284 with | .inl r2285 => (some true) | .inr r2286 => (some false))
theorem nspeculumbase_Has_ok (k : Nat) (a0 : (List Int)) (a1 : Int) (r : Bool) (h : nspeculumbase_Has k a0 a1 = some r) : VC Go.Proofs.Try.prog 81 [VV.tr (List.map vi a0) a0.length, vi a1] (vb r) := by
 unfold nspeculumbase_Has at h
 obtain ⟨r2284, h2283, h⟩ := bs h
 have hph2283 := nspeculumbase_Has_l0_0_ok k a0 a1 _ _ _ h2283
 cases r2284 with
 | inl r2285 =>
  dsimp only at h
  have e2287 := (an (ti trivial) (VRun.loop hph2283))
  injection h with h; subst h
  exact fun_ok pm pn Go.Proofs.Try.func81 (r0 := vb true) (ans := [.reg (.n :: []), .reg (.n :: []), .sub ⟨[(0, none), (1, none), (5, none)], [], []⟩ .ret (nspeculumbase_Has_l0_0_e0 a0 a1 r2285)]) (fr := true) (by kernel_rfl) (an (an (ti trivial) (an (ti trivial) e2287)) (ti trivial)) (Wv.refl _)
 | inr r2286 =>
  dsimp only at h
  have e2288 := (an (ti trivial) (VRun.loop hph2283))
  injection h with h; subst h
  exact fun_ok pm pn Go.Proofs.Try.func81 (r0 := vb false) (ans := [.reg (.n :: []), .reg (.n :: []), .sub ⟨[(0, none), (1, none), (5, none)], [], []⟩ (.exit 0) (nspeculumbase_Has_l0_0_e1 a0 a1 r2286), .reg (.n :: [])]) (fr := true) (by kernel_rfl) (an (an (ti trivial) (an (an (ti trivial) e2288) (an (ti trivial) trivial))) (ti trivial)) (Wv.refl _)
def nspeculumref09_Position (k : Nat) (a0 : SSkyMount) (a1 : SSkyTarget) (a2 : Int) (a3 : Int) : Option Int :=
 (nspeculumref09_Apparent k a0 a1 a2).bind fun r2302 => (some (w64 (r2302.e0 + (w64 (a3 * 1296000)))))
theorem nspeculumref09_Position_ok (k : Nat) (a0 : SSkyMount) (a1 : SSkyTarget) (a2 : Int) (a3 : Int) (r : Int) (h : nspeculumref09_Position k a0 a1 a2 a3 = some r) : VC Go.Proofs.Try.prog 120 [VV.ag (c_SSkyMount a0), VV.ag (c_SSkyTarget a1), vi a2, vi a3] (vi r) := by
 unfold nspeculumref09_Position at h
 obtain ⟨r2302, h2303, h⟩ := bs h
 have e2304 := (nspeculumref09_Apparent_ok k a0 a1 a2 _ h2303)
 have e2305 := (show (0:Int) <= 0 /\ (0:Int) < ((2 : Nat) : Int) /\ partV ((0:Int).toNat * 1) none [vi r2302.e0, vi r2302.e1] = some (vi r2302.e0) from ⟨by decide, by decide, rfl⟩)
 have e2306 := (ti (ti (ti (an e2304 (an e2305 (ti (ti (ti (ti trivial)))))))))
 injection h with h; subst h
 exact fun_ok pm pn Go.Proofs.Try.func120 (r0 := vi (w64 (r2302.e0 + (w64 (a3 * 1296000))))) (ans := [.reg (nN 3 []), .reg (nN 3 (.call (VV.ag (c_A23 r2302)) :: .v (vi r2302.e0) :: nN 4 []))]) (fr := true) (by kernel_rfl) (an (an (ti (ti (ti trivial))) (an e2306 trivial)) (ti trivial)) (Wv.refl _)
def nspeculumbase_Abs (k : Nat) (a0 : Int) : Option Int :=
 if a0 < 0 then (some (w64 (0 - a0))) else (some a0)
theorem nspeculumbase_Abs_ok (k : Nat) (a0 : Int) (r : Int) (h : nspeculumbase_Abs k a0 = some r) : VC Go.Proofs.Try.prog 113 [vi a0] (vi r) := by
 unfold nspeculumbase_Abs at h
 rcases ifs h with ⟨h2312, h⟩ | ⟨h2312, h⟩
 ·injection h with h; subst h
  exact fun_ok pm pn Go.Proofs.Try.func113 (r0 := vi (w64 (0 - a0))) (ans := [.reg (.n :: []), .reg (.n :: .n :: []), .br true, .reg (nN 3 [])]) (fr := true) (by kernel_rfl) (an (an (ti trivial) (an (ti (ti trivial)) (an (decide_eq_true h2312) (an (ti (ti (ti trivial))) trivial)))) (ti trivial)) (Wv.refl _)
 ·injection h with h; subst h
  exact fun_ok pm pn Go.Proofs.Try.func113 (r0 := vi a0) (ans := [.reg (.n :: []), .reg (.n :: .n :: []), .br false, .reg (.n :: .n :: [])]) (fr := true) (by kernel_rfl) (an (an (ti trivial) (an (an (ti (ti trivial)) (an (decide_eq_false h2312) trivial)) (an (ti (ti trivial)) trivial))) (ti trivial)) (Wv.refl _)
def nspeculumref09_Way (k : Nat) (a0 : Int) (a1 : Int) : Option (Int × Bool) :=
 (nspeculumbase_Abs k (w64 (a1 - a0))).bind fun r2316 => (some (r2316, decide (648000 < r2316)))
theorem nspeculumref09_Way_ok (k : Nat) (a0 : Int) (a1 : Int) (r : (Int × Bool)) (h : nspeculumref09_Way k a0 a1 = some r) : VC Go.Proofs.Try.prog 63 [vi a0, vi a1] (VV.tu [vi r.1, vb r.2]) := by
 unfold nspeculumref09_Way at h
 obtain ⟨r2316, h2317, h⟩ := bs h
 have e2318 := (nspeculumbase_Abs_ok k (w64 (a1 - a0)) _ h2317)
 injection h with h; subst h
 exact fun_ok pm pn Go.Proofs.Try.func63 (r0 := VV.tu [vi r2316, vb (decide (648000 < r2316))]) (ans := [.reg (.n :: .n :: []), .reg (nN 3 (.call (vi r2316) :: .n :: [])), .reg (nN 5 [])]) (fr := true) (by kernel_rfl) (an (an (ti (ti trivial)) (an (ti (ti (ti (an e2318 (ti trivial))))) (an (ti (ti (ti (ti (ti trivial))))) trivial))) (ti (ti trivial))) (Wv.refl _)
def nspeculumref09_Cost (k : Nat) (a0 : Int) (a1 : Int) : Option Int :=
 (nspeculumref09_Way k a0 a1).bind fun r2323 => (if r2323.2 = true then (some (w64 (r2323.1 + 10000000000))) else (some r2323.1))
theorem nspeculumref09_Cost_ok (k : Nat) (a0 : Int) (a1 : Int) (r : Int) (h : nspeculumref09_Cost k a0 a1 = some r) : VC Go.Proofs.Try.prog 121 [vi a0, vi a1] (vi r) := by
 unfold nspeculumref09_Cost at h
 obtain ⟨r2323, h2324, h⟩ := bs h
 have e2325 := (ti (ti (an (nspeculumref09_Way_ok k a0 a1 _ h2324) (ti (ti (ti (ti (ti trivial))))))))
 rcases ifs h with ⟨h2326, h⟩ | ⟨h2326, h⟩
 ·injection h with h; subst h
  exact fun_ok pm pn Go.Proofs.Try.func121 (r0 := vi (w64 (r2323.1 + 10000000000))) (ans := [.reg (.n :: []), .reg (.n :: .n :: .call (VV.tu [vi r2323.1, vb r2323.2]) :: nN 5 []), .reg (.n :: []), .br true, .reg (nN 3 []), .reg (.n :: .n :: [])]) (fr := true) (by kernel_rfl) (an (an (ti trivial) (an e2325 (an (an (ti trivial) (an h2326 (ti (ti (ti trivial))))) (an (ti (ti trivial)) trivial)))) (ti trivial)) (Wv.refl _)
 ·injection h with h; subst h
  exact fun_ok pm pn Go.Proofs.Try.func121 (r0 := vi r2323.1) (ans := [.reg (.n :: []), .reg (.n :: .n :: .call (VV.tu [vi r2323.1, vb r2323.2]) :: nN 5 []), .reg (.n :: []), .br false, .reg (.n :: .n :: [])]) (fr := true) (by kernel_rfl) (an (an (ti trivial) (an e2325 (an (an (ti trivial) (an (bool_f h2326) trivial)) (an (ti (ti trivial)) trivial)))) (ti trivial)) (Wv.refl _)
def arB6_3 (z0 : (List SSkyTarget)) (z1 : Int) (z2 : ((List Int) × Int)) : List Ans := (nN 4 (.v (VV.ag (c_SSkyTarget (z0.getD z1.toNat default))) :: .n :: .n :: .call (VV.tu [VV.fr (List.map vi z2.1) z2.1.length, vi z2.2]) :: nN 5 []))
def arB6_4 (z0 : (List SSkyTarget)) (z1 : Int) (z2 : (List Int)) (z3 : Int) : List Ans := (nN 4 (.v (VV.ag (c_SSkyTarget (z0.getD z1.toNat default))) :: nN 5 (.v (vi (z2.getD z1.toNat 0)) :: .call (vi z3) :: .n :: [])))
def nspeculumref09_CheckChoice_l0_0_h (a0 : SSkyMount) (a1 : (List SSkyTarget)) (a2 : A23) (a3 : (List Int)) (x10 : Int) (x11 : Int) (x12 : Int) : VS := ⟨mkA [(1, VV.tr (List.flatMap c_SSkyTarget a1) a1.length), (3, VV.tr (List.map vi a3) a3.length), (4, VV.pt 0 0), (6, VV.pt 1 0), (10, vi x10), (11, vi x11), (12, vi x12)], [some ⟨true, 1, c_SSkyMount a0⟩, some ⟨true, 1, c_A23 a2⟩], .nil⟩
def nspeculumref09_CheckChoice_l0_0_e0 (a0 : SSkyMount) (a1 : (List SSkyTarget)) (a2 : A23) (a3 : (List Int)) (r : Unit) : VS := ⟨mkA [(8, vi 0), (9, vi 6)], [], .nil⟩
def nspeculumref09_CheckChoice_l0_0_e1 (a0 : SSkyMount) (a1 : (List SSkyTarget)) (a2 : A23) (a3 : (List Int)) (r : Int) : VS := ⟨mkA [(10, vi r)], [], .nil⟩
def nspeculumref09_CheckChoice_l0_0 (k : Nat) (a0 : SSkyMount) (a1 : (List SSkyTarget)) (a2 : A23) (a3 : (List Int)) : Nat -> Int -> Int -> Int -> Option (Sum Unit Int)
 | 0, _, _, _ => none
 | fuel + 1, x10, x11, x12 => if x12 < (a1.length : Int) then (if 0 <= x12 /\ x12 < (a1.length : Int) then ((nspeculumref09_Turns k a0 (a1.getD x12.toNat default) a2.e0).bind fun r2447 => (if 0 <= x12 /\ x12 < (a3.length : Int) then ((nspeculumbase_Has k r2447.1 (a3.getD x12.toNat 0)).bind fun r2453 => (if r2453 = true then ((nspeculumref09_Position k a0 (a1.getD x12.toNat default) a2.e0 (a3.getD x12.toNat 0)).bind fun r2461 => ((nspeculumref09_Cost k x11 r2461).bind fun r2465 => (nspeculumref09_CheckChoice_l0_0 k a0 a1 a2 a3 fuel (w64 (x10 + r2465)) r2461 (w64 (x12 + 1))))) else (some (.inl ())))) else none)) else none) else (some (.inr x10))
theorem nspeculumref09_CheckChoice_l0_0_ok (k : Nat) (a0 : SSkyMount) (a1 : (List SSkyTarget)) (a2 : A23) (a3 : (List Int)) : ∀ (fuel : Nat) (x10 : Int) (x11 : Int) (x12 : Int) (r : Sum Unit Int), nspeculumref09_CheckChoice_l0_0 k a0 a1 a2 a3 fuel x10 x11 x12 = some r -> (match r with | .inl r => VLoop none Go.Proofs.Try.prog (szF Go.Proofs.Try.f71) (bodyOf Go.Proofs.Try.f71 0) (nspeculumref09_CheckChoice_l0_0_h a0 a1 a2 a3 x10 x11 x12) .ret (nspeculumref09_CheckChoice_l0_0_e0 a0 a1 a2 a3 r) | .inr r => VLoop none Go.Proofs.Try.prog (szF Go.Proofs.Try.f71) (bodyOf Go.Proofs.Try.f71 0) (nspeculumref09_CheckChoice_l0_0_h a0 a1 a2 a3 x10 x11 x12) (.exit 0) (nspeculumref09_CheckChoice_l0_0_e1 a0 a1 a2 a3 r)) := by
 intro fuel
 induction fuel with
 | zero => intro x10 x11 x12 r h; rw [nspeculumref09_CheckChoice_l0_0.eq_1] at h; cases h
 | succ fuel ih =>
  intro x10 x11 x12 r h
  rw [nspeculumref09_CheckChoice_l0_0.eq_2] at h
  rcases ifs h with ⟨h2443, h⟩ | ⟨h2443, h⟩
  ·obtain ⟨h2444, h⟩ := ifn h
   have e2445 := (show loadL Go.Proofs.Try.prog 83 (x12.toNat * 6) (List.flatMap c_SSkyTarget a1) = some (VV.ag (c_SSkyTarget (a1.getD x12.toNat default))) from ld_whole ag83 c_SSkyTarget 6 sz83 len_c_SSkyTarget a1 default h2444 (by omega))
   have e2446 := (show (0:Int) <= 0 /\ (0:Int) < ((2 : Nat) : Int) from ⟨by decide, by decide⟩)
   obtain ⟨r2447, h2448, h⟩ := bs h
   have e2449 := (show VC Go.Proofs.Try.prog 59 [VV.ag (c_SSkyMount a0), VV.ag (c_SSkyTarget (a1.getD x12.toNat default)), vi a2.e0] (VV.tu [VV.fr (List.map vi r2447.1) r2447.1.length, vi r2447.2]) from (VC.weak (nspeculumref09_Turns_ok k a0 (a1.getD x12.toNat default) a2.e0 _ h2448) (Wv.tuL (.cons (Wv.fw rfl rfl) (.cons (Wv.refl _) .nil)))))
   have e2450 := (ti (ti (ti (an h2444 (an e2445 (an e2446 (ti (an e2449 (ti (ti (ti (ti (ti trivial)))))))))))))
   obtain ⟨h2451, h⟩ := ifn h
   have e2452 := (show loadL Go.Proofs.Try.prog 3 (x12.toNat * 1) (List.map vi a3) = some (vi (a3.getD x12.toNat 0)) from ld_map ag3 vi a3 0 h2451 (by omega))
   obtain ⟨r2453, h2454, h⟩ := bs h
   have e2455 := (nspeculumbase_Has_ok k r2447.1 (a3.getD x12.toNat 0) _ h2454)
   have e2456 := (ti (ti (ti (an h2451 (an e2452 (an e2455 (ti trivial)))))))
   rcases ifs h with ⟨h2457, h⟩ | ⟨h2457, h⟩
   ·have e2458 := (show loadL Go.Proofs.Try.prog 83 (x12.toNat * 6) (List.flatMap c_SSkyTarget a1) = some (VV.ag (c_SSkyTarget (a1.getD x12.toNat default))) from ld_whole ag83 c_SSkyTarget 6 sz83 len_c_SSkyTarget a1 default h2444 (by omega))
    have e2459 := (show (0:Int) <= 0 /\ (0:Int) < ((2 : Nat) : Int) from ⟨by decide, by decide⟩)
    have e2460 := (show loadL Go.Proofs.Try.prog 3 (x12.toNat * 1) (List.map vi a3) = some (vi (a3.getD x12.toNat 0)) from ld_map ag3 vi a3 0 h2451 (by omega))
    obtain ⟨r2461, h2462, h⟩ := bs h
    have e2463 := (nspeculumref09_Position_ok k a0 (a1.getD x12.toNat default) a2.e0 (a3.getD x12.toNat 0) _ h2462)
    have e2464 := (ti (ti (ti (an h2444 (an e2458 (an e2459 (ti (ti (ti (an h2451 (an e2460 (an e2463 (ti trivial)))))))))))))
    obtain ⟨r2465, h2466, h⟩ := bs h
    have e2467 := (nspeculumref09_Cost_ok k x11 r2461 _ h2466)
    have e2468 := (ti (ti (ti (an e2467 (ti (ti (ti (ti trivial))))))))
    have h2 := ih _ _ _ _ h
    obtain ⟨q, hv, hq⟩ := pkR (rd := none) (P := Go.Proofs.Try.prog) (fn := Go.Proofs.Try.f71) (k := 0) (s := (nspeculumref09_CheckChoice_l0_0_h a0 a1 a2 a3 x10 x11 x12)) (ans := [.reg (nN 4 []), .br true, .reg (arB6_3 a1 x12 r2447), .reg (nN 4 (.v (vi (a3.getD x12.toNat 0)) :: .call (vb r2453) :: .n :: [])), .br false, .reg (arB6_4 a1 x12 a3 r2461), .reg (nN 3 (.call (vi r2465) :: nN 4 [])), .reg (nN 3 [])]) (c := ⟨[(1, none), (3, none), (4, none), (6, none), (10, none), (11, none), (12, none)], [none, none], []⟩) (e := .normal) (s1 := (nspeculumref09_CheckChoice_l0_0_h a0 a1 a2 a3 (w64 (x10 + r2465)) r2461 (w64 (x12 + 1)))) (an (an (an (ti (ti (ti (ti trivial)))) (an (decide_eq_true h2443) trivial)) (an (an e2450 (an (an e2456 (an (not_f h2457) trivial)) (an e2464 e2468))) (ti (ti (ti trivial))))) (ti trivial)) (by kernel_rfl)
    cases r with
    | inl r => exact round_next pm pn hv hq h2
    | inr r =>
     exact round_next pm pn hv hq h2
   ·injection h with h; subst h
    exact round_stop (c := ⟨[(8, none), (9, none)], [], []⟩) (s1 := (nspeculumref09_CheckChoice_l0_0_e0 a0 a1 a2 a3 ())) pm pn (ans := [.reg (nN 4 []), .br true, .reg (arB6_3 a1 x12 r2447), .reg (nN 4 (.v (vi (a3.getD x12.toNat 0)) :: .call (vb r2453) :: .n :: [])), .br true, .reg (.n :: .n :: [])]) (by kernel_rfl) (by intro e; cases e) (an (an (an (ti (ti (ti (ti trivial)))) (an (decide_eq_true h2443) trivial)) (an e2450 (an e2456 (an (not_t (bool_f h2457)) (an (ti (ti trivial)) trivial))))) (ti trivial))
  ·injection h with h; subst h
   exact round_stop (c := ⟨[(10, none)], [], []⟩) (s1 := (nspeculumref09_CheckChoice_l0_0_e1 a0 a1 a2 a3 x10)) pm pn (ans := [.reg (nN 4 []), .br false]) (by kernel_rfl) (by intro e; cases e) (an (an (ti (ti (ti (ti trivial)))) (an (decide_eq_false h2443) trivial)) (ti trivial))
def nspeculumref09_CheckChoice (k : Nat) (a0 : SSkyMount) (a1 : (List SSkyTarget)) (a2 : A23) (a3 : (List Int)) : Option (Int × Int) :=
 if (a3.length : Int) = (a1.length : Int) then ((nspeculumref09_CheckChoice_l0_0 k a0 a1 a2 a3 k 0 a2.e1 0).bind fun r2470 => (match r2470 with | .inl r2471 => (some (0, 6)) | .inr r2472 => (some (r2472, 0)))) else (some (0, 10))
theorem nspeculumref09_CheckChoice_ok (k : Nat) (a0 : SSkyMount) (a1 : (List SSkyTarget)) (a2 : A23) (a3 : (List Int)) (r : (Int × Int)) (h : nspeculumref09_CheckChoice k a0 a1 a2 a3 = some r) : VC Go.Proofs.Try.prog 71 [VV.ag (c_SSkyMount a0), VV.tr (List.flatMap c_SSkyTarget a1) a1.length, VV.ag (c_A23 a2), VV.tr (List.map vi a3) a3.length] (VV.tu [vi r.1, vi r.2]) := by
 unfold nspeculumref09_CheckChoice at h
 rcases ifs h with ⟨h2389, h⟩ | ⟨h2389, h⟩
 ·have e2390 := (show (0:Int) <= 1 /\ (1:Int) < ((2 : Nat) : Int) from ⟨by decide, by decide⟩)
  obtain ⟨r2470, h2469, h⟩ := bs h
  have hph2469 := nspeculumref09_CheckChoice_l0_0_ok k a0 a1 a2 a3 _ _ _ _ _ h2469
  cases r2470 with
  | inl r2471 =>
   dsimp only at h
   have e2473 := (an (ti trivial) (VRun.loop hph2469))
   injection h with h; subst h
   exact fun_ok pm pn Go.Proofs.Try.func71 (r0 := VV.tu [vi 0, vi 6]) (ans := [.reg (nN 4 []), .reg (nN 5 []), .br false, .reg (nN 4 []), .reg (.n :: []), .sub ⟨[(1, none), (3, none), (4, none), (6, none), (10, none), (11, none), (12, none)], [none, none], []⟩ .ret (nspeculumref09_CheckChoice_l0_0_e0 a0 a1 a2 a3 r2471)]) (fr := true) (by kernel_rfl) (an (an (ti (ti (ti (ti trivial)))) (an (an (ti (ti (ti (ti (ti trivial))))) (an (not_f (decide_eq_true h2389)) trivial)) (an (an e2390 (ti (ti (ti trivial)))) (an (ti trivial) e2473)))) (ti (ti trivial))) (Wv.refl _)
  | inr r2472 =>
   dsimp only at h
   have e2474 := (an (ti trivial) (VRun.loop hph2469))
   injection h with h; subst h
   exact fun_ok pm pn Go.Proofs.Try.func71 (r0 := VV.tu [vi r2472, vi 0]) (ans := [.reg (nN 4 []), .reg (nN 5 []), .br false, .reg (nN 4 []), .reg (.n :: []), .sub ⟨[(1, none), (3, none), (4, none), (6, none), (10, none), (11, none), (12, none)], [none, none], []⟩ (.exit 0) (nspeculumref09_CheckChoice_l0_0_e1 a0 a1 a2 a3 r2472), .reg (nN 3 [])]) (fr := true) (by kernel_rfl) (an (an (ti (ti (ti (ti trivial)))) (an (an (ti (ti (ti (ti (ti trivial))))) (an (not_f (decide_eq_true h2389)) trivial)) (an (an e2390 (ti (ti (ti trivial)))) (an (an (ti trivial) e2474) (an (ti (ti (ti trivial))) trivial))))) (ti (ti trivial))) (Wv.refl _)
 ·injection h with h; subst h
  exact fun_ok pm pn Go.Proofs.Try.func71 (r0 := VV.tu [vi 0, vi 10]) (ans := [.reg (nN 4 []), .reg (nN 5 []), .br true, .reg (.n :: .n :: [])]) (fr := true) (by kernel_rfl) (an (an (ti (ti (ti (ti trivial)))) (an (ti (ti (ti (ti (ti trivial))))) (an (not_t (decide_eq_false h2389)) (an (ti (ti trivial)) trivial)))) (ti (ti trivial))) (Wv.refl _)
end Go.Proofs.Ytlhnkehohknhbaa.Vg

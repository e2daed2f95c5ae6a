import Derived.Test.YtclgijochagpdaaW1
namespace Go.Proofs.Ytclgijochagpdaa.Vg
set_option maxRecDepth 100000
set_option maxHeartbeats 4000000
set_option linter.unusedVariables false
set_option linter.unusedSimpArgs false
open Go Go.Proofs.Ytclgijochagpdaa.Ev Go.Proofs.Ytclgijochagpdaa.Vv
open List (flatMap length_cons length_nil length_map length_append map_cons map_nil length_replicate)
structure SRemovalMap where
 Heights : (List Int)
 Q : (List Int)
 Weights : (List Int)
 deriving Inhabited
def c_SRemovalMap (x : SRemovalMap) : List VV := [VV.tr (List.map vi x.Heights) x.Heights.length, VV.tr (List.map vi x.Q) x.Q.length, VV.tr (List.map vi x.Weights) x.Weights.length]
theorem unfr_c_SRemovalMap (xs : List SRemovalMap) : (xs.flatMap c_SRemovalMap).map unfr = xs.flatMap c_SRemovalMap := unfr_flat2 (fun _ => rfl) xs
structure SFrac where
 Num : Int
 Den : Int
 deriving Inhabited
def c_SFrac (x : SFrac) : List VV := [vi x.Num, vi x.Den]
theorem unfr_c_SFrac (xs : List SFrac) : (xs.flatMap c_SFrac).map unfr = xs.flatMap c_SFrac := unfr_flat (fun _ => rfl) xs
structure SLowerLine where
 Start : SFrac
 Slope : SFrac
 Touch : A43
 deriving Inhabited
def c_SLowerLine (x : SLowerLine) : List VV := [vi x.Start.Num, vi x.Start.Den, vi x.Slope.Num, vi x.Slope.Den, vi x.Touch.e0, vi x.Touch.e1]
theorem unfr_c_SLowerLine (xs : List SLowerLine) : (xs.flatMap c_SLowerLine).map unfr = xs.flatMap c_SLowerLine := unfr_flat (fun _ => rfl) xs
def nspeculumref06_isHeight (k : Nat) (a0 : Int) : Option Bool :=
 (nspeculumbase_Within k a0 (-100000) 100000).bind fun r2127 => (some r2127)
theorem nspeculumref06_isHeight_ok (k : Nat) (a0 : Int) (r : Bool) (h : nspeculumref06_isHeight k a0 = some r) : VC Try.prog 18 [vi a0] (vb r) := by
 unfold nspeculumref06_isHeight at h
 obtain ⟨r2127, h2128, h⟩ := bs h
 have e2129 := (nspeculumbase_Within_ok k a0 (-100000) 100000 _ h2128)
 injection h with h; subst h
 exact fun_ok pm pn Try.func18 (r0 := vb r2127) (ans := [.reg (.n :: []), .reg (.n :: .call (vb r2127) :: .n :: [])]) (fr := true) (by kernel_rfl) (an (an (ti trivial) (an (ti (an e2129 (ti trivial))) trivial)) (ti trivial)) (Wv.refl _)
def arLG_0 (z0 : SRemovalMap) (z1 : Int) (z2 : Bool) (z3 : Bool) (z4 : Bool) : List Ans := (nN 4 (.v (vi (z0.Heights.getD z1.toNat 0)) :: .call (vb z2) :: nN 6 (.v (vi (z0.Q.getD z1.toNat 0)) :: .call (vb z3) :: .n :: .b false :: nN 5 (.v (vi (z0.Weights.getD z1.toNat 0)) :: .call (vb z4) :: .n :: .b false :: []))))
def arLG_1 (z0 : SRemovalMap) (z1 : Int) (z2 : Bool) (z3 : Bool) : List Ans := (nN 4 (.v (vi (z0.Heights.getD z1.toNat 0)) :: .call (vb z2) :: nN 6 (.v (vi (z0.Q.getD z1.toNat 0)) :: .call (vb z3) :: .n :: .b false :: .n :: nS 7 (.b true :: []))))
def arLG_2 (z0 : SRemovalMap) (z1 : Int) (z2 : Bool) : List Ans := (nN 4 (.v (vi (z0.Heights.getD z1.toNat 0)) :: .call (vb z2) :: .n :: .n :: nS 7 (.b true :: .n :: nS 7 (.b true :: []))))
def nspeculumref06_CheckMap_l0_0_h (a0 : SRemovalMap) (x4 : Int) (x5 : Int) : VS := ⟨mkA [(1, VV.pt 0 0), (3, vi (a0.Heights.length : Int)), (4, vi x4), (5, vi x5)], [some ⟨true, 1, c_SRemovalMap a0⟩], .nil⟩
def nspeculumref06_CheckMap_l0_0_e0 (a0 : SRemovalMap) (r : Unit) : VS := ⟨mkA [(2, vi 2)], [], .nil⟩
def nspeculumref06_CheckMap_l0_0_e1 (a0 : SRemovalMap) (r : Int) : VS := ⟨mkA [(4, vi r)], [], .nil⟩
def nspeculumref06_CheckMap_l0_0 (k : Nat) (a0 : SRemovalMap) : Nat -> Int -> Int -> Option (Sum Unit Int)
 | 0, _, _ => none
 | fuel + 1, x4, x5 => if x5 < (a0.Heights.length : Int) then (if 0 <= x5 /\ x5 < (a0.Heights.length : Int) then ((nspeculumref06_isHeight k (a0.Heights.getD x5.toNat 0)).bind fun r2271 => (if r2271 = true then (if 0 <= x5 /\ x5 < (a0.Q.length : Int) then ((nspeculumbase_Within k (a0.Q.getD x5.toNat 0) 0 1000).bind fun r2277 => (if r2277 = true then (if 0 <= x5 /\ x5 < (a0.Weights.length : Int) then ((nspeculumbase_Within k (a0.Weights.getD x5.toNat 0) 0 1000).bind fun r2283 => (if r2283 = true then (nspeculumref06_CheckMap_l0_0 k a0 fuel (w64 (x4 + (a0.Weights.getD x5.toNat 0))) (w64 (x5 + 1))) else (some (.inl ())))) else none) else (some (.inl ())))) else none) else (some (.inl ())))) else none) else (some (.inr x4))
theorem nspeculumref06_CheckMap_l0_0_ok (k : Nat) (a0 : SRemovalMap) : ∀ (fuel : Nat) (x4 : Int) (x5 : Int) (r : Sum Unit Int), nspeculumref06_CheckMap_l0_0 k a0 fuel x4 x5 = some r -> (match r with | .inl r => VLoop none Try.prog (szF Try.f9) (bodyOf Try.f9 0) (nspeculumref06_CheckMap_l0_0_h a0 x4 x5) .ret (nspeculumref06_CheckMap_l0_0_e0 a0 r) | .inr r => VLoop none Try.prog (szF Try.f9) (bodyOf Try.f9 0) (nspeculumref06_CheckMap_l0_0_h a0 x4 x5) (.exit 0) (nspeculumref06_CheckMap_l0_0_e1 a0 r)) := by
 intro fuel
 induction fuel with
 | zero => intro x4 x5 r h; rw [nspeculumref06_CheckMap_l0_0.eq_1] at h; cases h
 | succ fuel ih =>
  intro x4 x5 r h
  rw [nspeculumref06_CheckMap_l0_0.eq_2] at h
  rcases ifs h with ⟨h2268, h⟩ | ⟨h2268, h⟩
  ·obtain ⟨h2269, h⟩ := ifn h
   have e2270 := (show loadL Try.prog 3 (x5.toNat * 1) (List.map vi a0.Heights) = some (vi (a0.Heights.getD x5.toNat 0)) from ld_map ag3 vi a0.Heights 0 h2269 (by omega))
   obtain ⟨r2271, h2272, h⟩ := bs h
   have e2273 := (nspeculumref06_isHeight_ok k (a0.Heights.getD x5.toNat 0) _ h2272)
   rcases ifs h with ⟨h2274, h⟩ | ⟨h2274, h⟩
   ·obtain ⟨h2275, h⟩ := ifn h
    have e2276 := (an (not_f h2274) (show loadL Try.prog 3 (x5.toNat * 1) (List.map vi a0.Q) = some (vi (a0.Q.getD x5.toNat 0)) from ld_map ag3 vi a0.Q 0 h2275 (by omega)))
    obtain ⟨r2277, h2278, h⟩ := bs h
    have e2279 := (an (not_f h2274) (nspeculumbase_Within_ok k (a0.Q.getD x5.toNat 0) 0 1000 _ h2278))
    rcases ifs h with ⟨h2280, h⟩ | ⟨h2280, h⟩
    ·obtain ⟨h2281, h⟩ := ifn h
     have e2282 := (an (not_f h2280) (show loadL Try.prog 3 (x5.toNat * 1) (List.map vi a0.Weights) = some (vi (a0.Weights.getD x5.toNat 0)) from ld_map ag3 vi a0.Weights 0 h2281 (by omega)))
     obtain ⟨r2283, h2284, h⟩ := bs h
     have e2285 := (an (not_f h2280) (nspeculumbase_Within_ok k (a0.Weights.getD x5.toNat 0) 0 1000 _ h2284))
     have e2286 := (ti (ti (ti (an h2269 (an e2270 (an e2273 (ti (ti (an (an (not_f h2274) trivial) (an (an (not_f h2274) trivial) (an (an (not_f h2274) trivial) (an (an (not_f h2274) h2275) (an e2276 (an e2279 (an (an (not_f h2274) trivial) (an (not_f h2274) (ti (an (an (not_f h2280) trivial) (an (an (not_f h2280) trivial) (an (an (not_f h2280) trivial) (an (an (not_f h2280) h2281) (an e2282 (an e2285 (an (an (not_f h2280) trivial) (an (not_f h2280) trivial)))))))))))))))))))))))))
     rcases ifs h with ⟨h2287, h⟩ | ⟨h2287, h⟩
     ·have e2288 := (show loadL Try.prog 3 (x5.toNat * 1) (List.map vi a0.Weights) = some (vi (a0.Weights.getD x5.toNat 0)) from ld_map ag3 vi a0.Weights 0 h2281 (by omega))
      have e2289 := (ti (ti (ti (ti (an h2281 (an e2288 (ti (ti trivial))))))))
      have h2 := ih _ _ _ h
      obtain ⟨q, hv, hq⟩ := pkR (rd := none) (P := Try.prog) (fn := Try.f9) (k := 0) (s := (nspeculumref06_CheckMap_l0_0_h a0 x4 x5)) (ans := [.reg (nN 3 []), .br true, .reg (arLG_0 a0 x5 r2271 r2277 r2283), .br false, .reg (nN 5 (.v (vi (a0.Weights.getD x5.toNat 0)) :: .n :: .n :: [])), .reg (nN 3 [])]) (c := ⟨[(1, none), (3, none), (4, none), (5, none)], [none], []⟩) (e := .normal) (s1 := (nspeculumref06_CheckMap_l0_0_h a0 (w64 (x4 + (a0.Weights.getD x5.toNat 0))) (w64 (x5 + 1)))) (an (an (an (ti (ti (ti trivial))) (an (decide_eq_true h2268) trivial)) (an (an (an e2286 (an (not_f h2287) trivial)) e2289) (ti (ti (ti trivial))))) (ti trivial)) (by kernel_rfl)
      cases r with
      | inl r => exact round_next pm pn hv hq h2
      | inr r =>
       exact round_next pm pn hv hq h2
     ·injection h with h; subst h
      exact round_stop (c := ⟨[(2, none)], [], []⟩) (s1 := (nspeculumref06_CheckMap_l0_0_e0 a0 ())) pm pn (ans := [.reg (nN 3 []), .br true, .reg (arLG_0 a0 x5 r2271 r2277 r2283), .br true, .reg (.n :: [])]) (by kernel_rfl) (by intro e; cases e) (an (an (an (ti (ti (ti trivial))) (an (decide_eq_true h2268) trivial)) (an e2286 (an (not_t (bool_f h2287)) (an (ti trivial) trivial)))) (ti trivial))
    ·have e2290 := (ti (ti (ti (an h2269 (an e2270 (an e2273 (ti (ti (an (an (not_f h2274) trivial) (an (an (not_f h2274) trivial) (an (an (not_f h2274) trivial) (an (an (not_f h2274) h2275) (an e2276 (an e2279 (an (an (not_f h2274) trivial) (an (not_f h2274) (ti (an (not_t (bool_f h2280)) (an (not_t (bool_f h2280)) (an (not_t (bool_f h2280)) (an (not_t (bool_f h2280)) (an (not_t (bool_f h2280)) (an (not_t (bool_f h2280)) (an (not_t (bool_f h2280)) (an (not_t (bool_f h2280)) trivial)))))))))))))))))))))))))
     injection h with h; subst h
     exact round_stop (c := ⟨[(2, none)], [], []⟩) (s1 := (nspeculumref06_CheckMap_l0_0_e0 a0 ())) pm pn (ans := [.reg (nN 3 []), .br true, .reg (arLG_1 a0 x5 r2271 r2277), .br true, .reg (.n :: [])]) (by kernel_rfl) (by intro e; cases e) (an (an (an (ti (ti (ti trivial))) (an (decide_eq_true h2268) trivial)) (an e2290 (an rt (an (ti trivial) trivial)))) (ti trivial))
   ·have e2291 := (ti (ti (ti (an h2269 (an e2270 (an e2273 (ti (ti (an (not_t (bool_f h2274)) (an (not_t (bool_f h2274)) (an (not_t (bool_f h2274)) (an (not_t (bool_f h2274)) (an (not_t (bool_f h2274)) (an (not_t (bool_f h2274)) (an (not_t (bool_f h2274)) (an (not_t (bool_f h2274)) (ti (an rt (an rt (an rt (an rt (an rt (an rt (an rt (an rt trivial)))))))))))))))))))))))))
    injection h with h; subst h
    exact round_stop (c := ⟨[(2, none)], [], []⟩) (s1 := (nspeculumref06_CheckMap_l0_0_e0 a0 ())) pm pn (ans := [.reg (nN 3 []), .br true, .reg (arLG_2 a0 x5 r2271), .br true, .reg (.n :: [])]) (by kernel_rfl) (by intro e; cases e) (an (an (an (ti (ti (ti trivial))) (an (decide_eq_true h2268) trivial)) (an e2291 (an rt (an (ti trivial) trivial)))) (ti trivial))
  ·injection h with h; subst h
   exact round_stop (c := ⟨[(4, none)], [], []⟩) (s1 := (nspeculumref06_CheckMap_l0_0_e1 a0 x4)) pm pn (ans := [.reg (nN 3 []), .br false]) (by kernel_rfl) (by intro e; cases e) (an (an (ti (ti (ti trivial))) (an (decide_eq_false h2268) trivial)) (ti trivial))
def nspeculumref06_CheckMap (k : Nat) (a0 : SRemovalMap) : Option Int :=
 (nspeculumbase_Within k (a0.Heights.length : Int) 1 40).bind fun r2208 => (if r2208 = true then (if (a0.Q.length : Int) = (a0.Heights.length : Int) then (if (a0.Weights.length : Int) = (a0.Heights.length : Int) then ((nspeculumref06_CheckMap_l0_0 k a0 k 0 0).bind fun r2293 => (match r2293 with | .inl r2294 => (some 2) | .inr r2295 => (if r2295 = 0 then (some 11) else (some 0)))) else (some 10)) else (some 10)) else (some 10))
theorem nspeculumref06_CheckMap_ok (k : Nat) (a0 : SRemovalMap) (r : Int) (h : nspeculumref06_CheckMap k a0 = some r) : VC Try.prog 9 [VV.ag (c_SRemovalMap a0)] (vi r) := by
 unfold nspeculumref06_CheckMap at h
 obtain ⟨r2208, h2209, h⟩ := bs h
 have e2210 := (nspeculumbase_Within_ok k (a0.Heights.length : Int) 1 40 _ h2209)
 rcases ifs h with ⟨h2211, h⟩ | ⟨h2211, h⟩
 ·rcases ifs h with ⟨h2212, h⟩ | ⟨h2212, h⟩
  ·have e2213 := (an (not_f (decide_eq_true h2212)) trivial)
   have e2214 := (an (not_f (decide_eq_true h2212)) trivial)
   have e2215 := (an (not_f (decide_eq_true h2212)) trivial)
   have e2216 := (an (not_f (decide_eq_true h2212)) trivial)
   have e2217 := (an (not_f (decide_eq_true h2212)) trivial)
   have e2218 := (ti (an e2210 (ti (ti (an (an (not_f h2211) trivial) (an (an (not_f h2211) trivial) (an (an (not_f h2211) trivial) (an (an (not_f h2211) trivial) (an (an (not_f h2211) trivial) (an (not_f h2211) (ti (an e2213 (an e2214 (an e2215 (an e2216 (an e2217 (an (not_f (decide_eq_true h2212)) trivial)))))))))))))))))
   rcases ifs h with ⟨h2219, h⟩ | ⟨h2219, h⟩
   ·obtain ⟨r2293, h2292, h⟩ := bs h
    have hph2292 := nspeculumref06_CheckMap_l0_0_ok k a0 _ _ _ _ h2292
    cases r2293 with
    | inl r2294 =>
     dsimp only at h
     have e2296 := (an (ti trivial) (VRun.loop hph2292))
     injection h with h; subst h
     exact fun_ok pm pn Try.func9 (r0 := vi 2) (ans := [.reg (.n :: .n :: []), .reg (nN 4 []), .reg (.n :: .call (vb r2208) :: nN 7 (.b false :: nN 6 (.b false :: []))), .br false, .reg (.n :: []), .reg (.n :: []), .sub ⟨[(1, none), (3, none), (4, none), (5, none)], [none], []⟩ .ret (nspeculumref06_CheckMap_l0_0_e0 a0 r2294)]) (fr := true) (by kernel_rfl) (an (an (ti (ti trivial)) (an (ti (ti (ti (ti trivial)))) (an (an e2218 (an (not_f (decide_eq_true h2219)) trivial)) (an (ti trivial) (an (ti trivial) e2296))))) (ti trivial)) (Wv.refl _)
    | inr r2295 =>
     dsimp only at h
     have e2297 := (an (ti trivial) (VRun.loop hph2292))
     rcases ifs h with ⟨h2298, h⟩ | ⟨h2298, h⟩
     ·injection h with h; subst h
      exact fun_ok pm pn Try.func9 (r0 := vi 11) (ans := [.reg (.n :: .n :: []), .reg (nN 4 []), .reg (.n :: .call (vb r2208) :: nN 7 (.b false :: nN 6 (.b false :: []))), .br false, .reg (.n :: []), .reg (.n :: []), .sub ⟨[(1, none), (3, none), (4, none), (5, none)], [none], []⟩ (.exit 0) (nspeculumref06_CheckMap_l0_0_e1 a0 r2295), .reg (.n :: .n :: []), .br true, .reg (.n :: [])]) (fr := true) (by kernel_rfl) (an (an (ti (ti trivial)) (an (ti (ti (ti (ti trivial)))) (an (an e2218 (an (not_f (decide_eq_true h2219)) trivial)) (an (ti trivial) (an (an (ti trivial) e2297) (an (ti (ti trivial)) (an (decide_eq_true h2298) (an (ti trivial) trivial)))))))) (ti trivial)) (Wv.refl _)
     ·injection h with h; subst h
      exact fun_ok pm pn Try.func9 (r0 := vi 0) (ans := [.reg (.n :: .n :: []), .reg (nN 4 []), .reg (.n :: .call (vb r2208) :: nN 7 (.b false :: nN 6 (.b false :: []))), .br false, .reg (.n :: []), .reg (.n :: []), .sub ⟨[(1, none), (3, none), (4, none), (5, none)], [none], []⟩ (.exit 0) (nspeculumref06_CheckMap_l0_0_e1 a0 r2295), .reg (.n :: .n :: []), .br false, .reg (.n :: [])]) (fr := true) (by kernel_rfl) (an (an (ti (ti trivial)) (an (ti (ti (ti (ti trivial)))) (an (an e2218 (an (not_f (decide_eq_true h2219)) trivial)) (an (ti trivial) (an (an (ti trivial) e2297) (an (an (ti (ti trivial)) (an (decide_eq_false h2298) trivial)) (an (ti trivial) trivial))))))) (ti trivial)) (Wv.refl _)
   ·injection h with h; subst h
    exact fun_ok pm pn Try.func9 (r0 := vi 10) (ans := [.reg (.n :: .n :: []), .reg (nN 4 []), .reg (.n :: .call (vb r2208) :: nN 7 (.b false :: nN 6 (.b false :: []))), .br true, .reg (.n :: [])]) (fr := true) (by kernel_rfl) (an (an (ti (ti trivial)) (an (ti (ti (ti (ti trivial)))) (an e2218 (an (not_t (decide_eq_false h2219)) (an (ti trivial) trivial))))) (ti trivial)) (Wv.refl _)
  ·have e2299 := (ti (an e2210 (ti (ti (an (an (not_f h2211) trivial) (an (an (not_f h2211) trivial) (an (an (not_f h2211) trivial) (an (an (not_f h2211) trivial) (an (an (not_f h2211) trivial) (an (not_f h2211) (ti (an (not_t (decide_eq_false h2212)) (an (not_t (decide_eq_false h2212)) (an (not_t (decide_eq_false h2212)) (an (not_t (decide_eq_false h2212)) (an (not_t (decide_eq_false h2212)) (an (not_t (decide_eq_false h2212)) trivial)))))))))))))))))
   injection h with h; subst h
   exact fun_ok pm pn Try.func9 (r0 := vi 10) (ans := [.reg (.n :: .n :: []), .reg (nN 4 []), .reg (.n :: .call (vb r2208) :: nN 7 (.b false :: .n :: nS 5 (.b true :: []))), .br true, .reg (.n :: [])]) (fr := true) (by kernel_rfl) (an (an (ti (ti trivial)) (an (ti (ti (ti (ti trivial)))) (an e2299 (an rt (an (ti trivial) trivial))))) (ti trivial)) (Wv.refl _)
 ·have e2300 := (ti (an e2210 (ti (ti (an (not_t (bool_f h2211)) (an (not_t (bool_f h2211)) (an (not_t (bool_f h2211)) (an (not_t (bool_f h2211)) (an (not_t (bool_f h2211)) (an (not_t (bool_f h2211)) (ti (an rt (an rt (an rt (an rt (an rt (an rt trivial)))))))))))))))))
  injection h with h; subst h
  exact fun_ok pm pn Try.func9 (r0 := vi 10) (ans := [.reg (.n :: .n :: []), .reg (nN 4 []), .reg (.n :: .call (vb r2208) :: .n :: .n :: nS 5 (.b true :: .n :: nS 5 (.b true :: []))), .br true, .reg (.n :: [])]) (fr := true) (by kernel_rfl) (an (an (ti (ti trivial)) (an (ti (ti (ti (ti trivial)))) (an e2300 (an rt (an (ti trivial) trivial))))) (ti trivial)) (Wv.refl _)
def nfigure_isWithin (k : Nat) (a0 : Int) (a1 : Int) (a2 : Int) : Option Bool :=
 if a1 <= a0 then (some (decide (a0 <= a2))) else (some false)
theorem nfigure_isWithin_ok (k : Nat) (a0 : Int) (a1 : Int) (a2 : Int) (r : Bool) (h : nfigure_isWithin k a0 a1 a2 = some r) : VC Try.prog 23 [vi a0, vi a1, vi a2] (vb r) := by
 unfold nfigure_isWithin at h
 rcases ifs h with ⟨h2304, h⟩ | ⟨h2304, h⟩
 ·have e2305 := (ti (ti (ti (ti (an (an (decide_eq_true h2304) trivial) (an (an (decide_eq_true h2304) trivial) (an (an (decide_eq_true h2304) trivial) (an (decide_eq_true h2304) (ti trivial)))))))))
  injection h with h; subst h
  exact fun_ok pm pn Try.func23 (r0 := vb (decide (a0 <= a2))) (ans := [.reg (.n :: []), .reg (nN 7 (.b true :: .n :: []))]) (fr := true) (by kernel_rfl) (an (an (ti trivial) (an e2305 trivial)) (ti trivial)) (Wv.refl _)
 ·have e2306 := (ti (ti (ti (ti (an (decide_eq_false h2304) (an (decide_eq_false h2304) (an (decide_eq_false h2304) (an (decide_eq_false h2304) (ti trivial)))))))))
  injection h with h; subst h
  exact fun_ok pm pn Try.func23 (r0 := vb false) (ans := [.reg (.n :: []), .reg (nN 4 (nS 3 (.b false :: .n :: [])))]) (fr := true) (by kernel_rfl) (an (an (ti trivial) (an e2306 trivial)) (ti trivial)) (Wv.refl _)
def nfigure_areHeights_l0_0_h (a0 : (List Int)) (x7 : Int) : VS := ⟨mkA [(5, VV.tr (List.map vi a0) a0.length), (6, vi (a0.length : Int)), (7, vi x7)], [], .nil⟩
def nfigure_areHeights_l0_0_e0 (a0 : (List Int)) (r : Unit) : VS := ⟨mkA [(2, vb false)], [], .nil⟩
def nfigure_areHeights_l0_0_e1 (a0 : (List Int)) (r : Unit) : VS := ⟨mkA [], [], .nil⟩
def nfigure_areHeights_l0_0 (k : Nat) (a0 : (List Int)) : Nat -> Int -> Option (Sum Unit Unit)
 | 0, _ => none
 | fuel + 1, x7 => if x7 < (a0.length : Int) then (if 0 <= x7 /\ x7 < (a0.length : Int) then ((nfigure_isWithin k (a0.getD x7.toNat 0) (-100000) 100000).bind fun r2366 => (if r2366 = true then (nfigure_areHeights_l0_0 k a0 fuel (w64 (x7 + 1))) else (some (.inl ())))) else none) else (some (.inr ()))
theorem nfigure_areHeights_l0_0_ok (k : Nat) (a0 : (List Int)) : ∀ (fuel : Nat) (x7 : Int) (r : Sum Unit Unit), nfigure_areHeights_l0_0 k a0 fuel x7 = some r -> (match r with | .inl r => VLoop none Try.prog (szF Try.f36) (bodyOf Try.f36 0) (nfigure_areHeights_l0_0_h a0 x7) .ret (nfigure_areHeights_l0_0_e0 a0 r) | .inr r => VLoop none Try.prog (szF Try.f36) (bodyOf Try.f36 0) (nfigure_areHeights_l0_0_h a0 x7) (.exit 0) (nfigure_areHeights_l0_0_e1 a0 r)) := by
 intro fuel
 induction fuel with
 | zero => intro x7 r h; rw [nfigure_areHeights_l0_0.eq_1] at h; cases h
 | succ fuel ih =>
  intro x7 r h
  rw [nfigure_areHeights_l0_0.eq_2] at h
  rcases ifs h with ⟨h2363, h⟩ | ⟨h2363, h⟩
  ·obtain ⟨h2364, h⟩ := ifn h
   have e2365 := (show loadL Try.prog 3 (x7.toNat * 1) (List.map vi a0) = some (vi (a0.getD x7.toNat 0)) from ld_map ag3 vi a0 0 h2364 (by omega))
   obtain ⟨r2366, h2367, h⟩ := bs h
   have e2368 := (nfigure_isWithin_ok k (a0.getD x7.toNat 0) (-100000) 100000 _ h2367)
   rcases ifs h with ⟨h2369, h⟩ | ⟨h2369, h⟩
   ·have h2 := ih _ _ h
    obtain ⟨q, hv, hq⟩ := pkR (rd := none) (P := Try.prog) (fn := Try.f36) (k := 0) (s := (nfigure_areHeights_l0_0_h a0 x7)) (ans := [.reg (.n :: []), .br true, .reg (.n :: .v (vi (a0.getD x7.toNat 0)) :: .n :: []), .reg (.n :: .call (vb r2366) :: .n :: []), .br false, .reg (.n :: .n :: [])]) (c := ⟨[(5, none), (6, none), (7, none)], [], []⟩) (e := .normal) (s1 := (nfigure_areHeights_l0_0_h a0 (w64 (x7 + 1)))) (an (an (ti trivial) (an (an (decide_eq_true h2363) trivial) (an (an (an h2364 (an e2365 (ti trivial))) (an (ti (an e2368 (ti trivial))) (an (not_f h2369) trivial))) (ti (ti trivial))))) (ti trivial)) (by kernel_rfl)
    cases r with
    | inl r => exact round_next pm pn hv hq h2
    | inr r =>
     exact round_next pm pn hv hq h2
   ·injection h with h; subst h
    exact round_stop (c := ⟨[(2, none)], [], []⟩) (s1 := (nfigure_areHeights_l0_0_e0 a0 ())) pm pn (ans := [.reg (.n :: []), .br true, .reg (.n :: .v (vi (a0.getD x7.toNat 0)) :: .n :: []), .reg (.n :: .call (vb r2366) :: .n :: []), .br true, .reg (.n :: [])]) (by kernel_rfl) (by intro e; cases e) (an (an (ti trivial) (an (an (decide_eq_true h2363) trivial) (an (an h2364 (an e2365 (ti trivial))) (an (ti (an e2368 (ti trivial))) (an (not_t (bool_f h2369)) (an (ti trivial) trivial)))))) (ti trivial))
  ·injection h with h; subst h
   exact round_stop (c := ⟨[], [], []⟩) (s1 := (nfigure_areHeights_l0_0_e1 a0 ())) pm pn (ans := [.reg (.n :: []), .br false]) (by kernel_rfl) (by intro e; cases e) (an (an (ti trivial) (an (decide_eq_false h2363) trivial)) (ti trivial))
def nfigure_areHeights (k : Nat) (a0 : (List Int)) : Option Bool :=
 (nfigure_areHeights_l0_0 k a0 k 0).bind fun r2371 => (match r2371 with | .inl r2372 => (some false) | .inr r2373 => (some true))
theorem nfigure_areHeights_ok (k : Nat) (a0 : (List Int)) (r : Bool) (h : nfigure_areHeights k a0 = some r) : VC Try.prog 36 [VV.tr (List.map vi a0) a0.length] (vb r) := by
 unfold nfigure_areHeights at h
 obtain ⟨r2371, h2370, h⟩ := bs h
 have hph2370 := nfigure_areHeights_l0_0_ok k a0 _ _ _ h2370
 cases r2371 with
 | inl r2372 =>
  dsimp only at h
  have e2374 := (an (ti trivial) (VRun.loop hph2370))
  injection h with h; subst h
  exact fun_ok pm pn Try.func36 (r0 := vb false) (ans := [.reg (.n :: []), .reg (nN 3 []), .sub ⟨[(5, none), (6, none), (7, none)], [], []⟩ .ret (nfigure_areHeights_l0_0_e0 a0 r2372)]) (fr := true) (by kernel_rfl) (an (an (ti trivial) (an (ti (ti (ti trivial))) e2374)) (ti trivial)) (Wv.refl _)
 | inr r2373 =>
  dsimp only at h
  have e2375 := (an (ti trivial) (VRun.loop hph2370))
  injection h with h; subst h
  exact fun_ok pm pn Try.func36 (r0 := vb true) (ans := [.reg (.n :: []), .reg (nN 3 []), .sub ⟨[(5, none), (6, none), (7, none)], [], []⟩ (.exit 0) (nfigure_areHeights_l0_0_e1 a0 r2373), .reg (.n :: [])]) (fr := true) (by kernel_rfl) (an (an (ti trivial) (an (an (ti (ti (ti trivial))) e2375) (an (ti trivial) trivial))) (ti trivial)) (Wv.refl _)
theorem eqLG_1 (z0 : SRemovalMap) (z1 : Int) : [VV.tr (List.map vi ([(z0.Heights.getD z1.toNat 0)] : List Int)) (([(z0.Heights.getD z1.toNat 0)] : List Int).length)] = [VV.tr [vi (z0.Heights.getD z1.toNat 0)] 1] := by first | rfl | (simp only [unfr_vi, map_cons, map_nil, un_i, un_tr, length_map, length_cons, length_nil]; done) | (simp only [unfr_vi, map_cons, map_nil, un_i, un_tr, length_map, length_cons, length_nil]; rfl) | (simp only [unfr_vi, map_cons, map_nil, un_i, un_tr, length_map, length_cons, length_nil, length_cons, length_nil, length_append]; done)
def arLG_3 (z0 : Bool) (z1 : SRemovalMap) (z2 : Int) (z3 : Bool) (z4 : Bool) : List Ans := (.n :: .v VV.any :: .call (vb z0) :: nN 6 (.v (vi (z1.Q.getD z2.toNat 0)) :: .call (vb z3) :: .n :: .b false :: nN 5 (.v (vi (z1.Weights.getD z2.toNat 0)) :: .call (vb z4) :: .n :: .b false :: [])))
def arLG_4 (z0 : Bool) (z1 : SRemovalMap) (z2 : Int) (z3 : Bool) : List Ans := (.n :: .v VV.any :: .call (vb z0) :: nN 6 (.v (vi (z1.Q.getD z2.toNat 0)) :: .call (vb z3) :: .n :: .b false :: .n :: nS 7 (.b true :: [])))
def arLG_5 (z0 : Bool) : List Ans := (.n :: .v VV.any :: .call (vb z0) :: .n :: .n :: nS 7 (.b true :: .n :: nS 7 (.b true :: [])))
def nslices_Max_int_int__l0_0_h (a0 : (List Int)) (x3 : Int) (x4 : Int) : VS := ⟨mkA [(0, VV.tr (List.map vi a0) a0.length), (3, vi x3), (4, vi x4)], [], .nil⟩
def nslices_Max_int_int__l0_0_e0 (a0 : (List Int)) (r : Int) : VS := ⟨mkA [(3, vi r)], [], .nil⟩
def nslices_Max_int_int__l0_0 (k : Nat) (a0 : (List Int)) : Nat -> Int -> Int -> Option (Int)
 | 0, _, _ => none
 | fuel + 1, x3, x4 => if x4 < (a0.length : Int) then (if 0 <= x4 /\ x4 < (a0.length : Int) then (nslices_Max_int_int__l0_0 k a0 fuel (maxI x3 (a0.getD x4.toNat 0)) (w64 (x4 + 1))) else none) else (some x3)
theorem nslices_Max_int_int__l0_0_ok (k : Nat) (a0 : (List Int)) : ∀ (fuel : Nat) (x3 : Int) (x4 : Int) (r : Int), nslices_Max_int_int__l0_0 k a0 fuel x3 x4 = some r -> (VLoop none Try.prog (szF Try.f37) (bodyOf Try.f37 0) (nslices_Max_int_int__l0_0_h a0 x3 x4) (.exit 0) (nslices_Max_int_int__l0_0_e0 a0 r)) := by
 intro fuel
 induction fuel with
 | zero => intro x3 x4 r h; rw [nslices_Max_int_int__l0_0.eq_1] at h; cases h
 | succ fuel ih =>
  intro x3 x4 r h
  rw [nslices_Max_int_int__l0_0.eq_2] at h
  rcases ifs h with ⟨h2474, h⟩ | ⟨h2474, h⟩
  ·obtain ⟨h2475, h⟩ := ifn h
   have e2476 := (show loadL Try.prog 3 (x4.toNat * 1) (List.map vi a0) = some (vi (a0.getD x4.toNat 0)) from ld_map ag3 vi a0 0 h2475 (by omega))
   have e2477 := (ti (ti (ti (an h2475 (an e2476 (ti (ti trivial)))))))
   have h2 := ih _ _ _ h
   obtain ⟨q, hv, hq⟩ := pkR (rd := none) (P := Try.prog) (fn := Try.f37) (k := 0) (s := (nslices_Max_int_int__l0_0_h a0 x3 x4)) (ans := [.reg (nN 4 []), .br true, .reg (nN 4 (.v (vi (a0.getD x4.toNat 0)) :: .n :: .n :: [])), .reg (nN 3 [])]) (c := ⟨[(0, none), (3, none), (4, none)], [], []⟩) (e := .normal) (s1 := (nslices_Max_int_int__l0_0_h a0 (maxI x3 (a0.getD x4.toNat 0)) (w64 (x4 + 1)))) (an (an (an (ti (ti (ti (ti trivial)))) (an (decide_eq_true h2474) trivial)) (an e2477 (ti (ti (ti trivial))))) (ti trivial)) (by kernel_rfl)
   exact round_next pm pn hv hq h2
  ·injection h with h; subst h
   exact round_stop (c := ⟨[(3, none)], [], []⟩) (s1 := (nslices_Max_int_int__l0_0_e0 a0 x3)) pm pn (ans := [.reg (nN 4 []), .br false]) (by kernel_rfl) (by intro e; cases e) (an (an (ti (ti (ti (ti trivial)))) (an (decide_eq_false h2474) trivial)) (ti trivial))
def nslices_Max_int_int_ (k : Nat) (a0 : (List Int)) : Option Int :=
 if (a0.length : Int) < 1 then none else (if (0 : Int) <= 0 /\ 0 < (a0.length : Int) then ((nslices_Max_int_int__l0_0 k a0 k (a0.getD ((0 : Int)).toNat 0) 1).bind fun r2479 => (some r2479)) else none)
theorem nslices_Max_int_int__ok (k : Nat) (a0 : (List Int)) (r : Int) (h : nslices_Max_int_int_ k a0 = some r) : VC Try.prog 37 [VV.tr (List.map vi a0) a0.length] (vi r) := by
 unfold nslices_Max_int_int_ at h
 rcases ifs h with ⟨h2463, h⟩ | ⟨h2463, h⟩
 ·cases h
 ·obtain ⟨h2464, h⟩ := ifn h
  have e2465 := (show loadL Try.prog 3 (((0 : Int)).toNat * 1) (List.map vi a0) = some (vi (a0.getD ((0 : Int)).toNat 0)) from ld_map ag3 vi a0 0 h2464 (by omega))
  obtain ⟨r2479, h2478, h⟩ := bs h
  have hph2478 := nslices_Max_int_int__l0_0_ok k a0 _ _ _ _ h2478
  have e2480 := (an (ti trivial) (VRun.loop hph2478))
  injection h with h; subst h
  exact fun_ok pm pn Try.func37 (r0 := vi r2479) (ans := [.reg (.n :: []), .reg (nN 3 []), .br false, .reg (.n :: .n :: .v (vi (a0.getD ((0 : Int)).toNat 0)) :: .n :: []), .reg (.n :: []), .sub ⟨[(0, none), (3, none), (4, none)], [], []⟩ (.exit 0) (nslices_Max_int_int__l0_0_e0 a0 r2479), .reg (.n :: .n :: [])]) (fr := true) (by kernel_rfl) (an (an (ti trivial) (an (an (ti (ti (ti trivial))) (an (decide_eq_false h2463) trivial)) (an (ti (an h2464 (an e2465 (ti trivial)))) (an (an (ti trivial) e2480) (an (ti (ti trivial)) trivial))))) (ti trivial)) (Wv.refl _)
def nfigure_CheckMap_l0_0_h (a0 : SRemovalMap) (x29 : Int) : VS := ⟨mkA [(1, VV.pt 0 0), (27, VV.tr (List.map vi a0.Heights) a0.Heights.length), (28, vi (a0.Heights.length : Int)), (29, vi x29)], [some ⟨true, 1, c_SRemovalMap a0⟩], .nil⟩
def nfigure_CheckMap_l0_0_e0 (a0 : SRemovalMap) (r : Unit) : VS := ⟨mkA [(2, vi 2)], [], .nil⟩
def nfigure_CheckMap_l0_0_e1 (a0 : SRemovalMap) (r : Unit) : VS := ⟨mkA [(1, VV.pt 0 0)], [some ⟨true, 1, c_SRemovalMap a0⟩], .nil⟩
def nfigure_CheckMap_l0_0 (k : Nat) (a0 : SRemovalMap) : Nat -> Int -> Option (Sum Unit Unit)
 | 0, _ => none
 | fuel + 1, x29 => if x29 < (a0.Heights.length : Int) then (if 0 <= x29 /\ x29 < (a0.Heights.length : Int) then ((nfigure_areHeights k ([(a0.Heights.getD x29.toNat 0)] : List Int)).bind fun r2546 => (if r2546 = true then (if 0 <= x29 /\ x29 < (a0.Q.length : Int) then ((nfigure_isWithin k (a0.Q.getD x29.toNat 0) 0 1000).bind fun r2552 => (if r2552 = true then (if 0 <= x29 /\ x29 < (a0.Weights.length : Int) then ((nfigure_isWithin k (a0.Weights.getD x29.toNat 0) 0 1000).bind fun r2558 => (if r2558 = true then (nfigure_CheckMap_l0_0 k a0 fuel (w64 (x29 + 1))) else (some (.inl ())))) else none) else (some (.inl ())))) else none) else (some (.inl ())))) else none) else (some (.inr ()))
theorem nfigure_CheckMap_l0_0_ok (k : Nat) (a0 : SRemovalMap) : ∀ (fuel : Nat) (x29 : Int) (r : Sum Unit Unit), nfigure_CheckMap_l0_0 k a0 fuel x29 = some r -> (match r with | .inl r => VLoop none Try.prog (szF Try.f19) (bodyOf Try.f19 0) (nfigure_CheckMap_l0_0_h a0 x29) .ret (nfigure_CheckMap_l0_0_e0 a0 r) | .inr r => VLoop none Try.prog (szF Try.f19) (bodyOf Try.f19 0) (nfigure_CheckMap_l0_0_h a0 x29) (.exit 0) (nfigure_CheckMap_l0_0_e1 a0 r)) := by
 intro fuel
 induction fuel with
 | zero => intro x29 r h; rw [nfigure_CheckMap_l0_0.eq_1] at h; cases h
 | succ fuel ih =>
  intro x29 r h
  rw [nfigure_CheckMap_l0_0.eq_2] at h
  rcases ifs h with ⟨h2543, h⟩ | ⟨h2543, h⟩
  ·obtain ⟨h2544, h⟩ := ifn h
   have e2545 := (show loadL Try.prog 3 (x29.toNat * 1) (List.map vi a0.Heights) = some (vi (a0.Heights.getD x29.toNat 0)) from ld_map ag3 vi a0.Heights 0 h2544 (by omega))
   obtain ⟨r2546, h2547, h⟩ := bs h
   have e2548 := (VC.args (nfigure_areHeights_ok k ([(a0.Heights.getD x29.toNat 0)] : List Int) _ h2547) (eqLG_1 a0 x29))
   rcases ifs h with ⟨h2549, h⟩ | ⟨h2549, h⟩
   ·obtain ⟨h2550, h⟩ := ifn h
    have e2551 := (an (not_f h2549) (show loadL Try.prog 3 (x29.toNat * 1) (List.map vi a0.Q) = some (vi (a0.Q.getD x29.toNat 0)) from ld_map ag3 vi a0.Q 0 h2550 (by omega)))
    obtain ⟨r2552, h2553, h⟩ := bs h
    have e2554 := (an (not_f h2549) (nfigure_isWithin_ok k (a0.Q.getD x29.toNat 0) 0 1000 _ h2553))
    rcases ifs h with ⟨h2555, h⟩ | ⟨h2555, h⟩
    ·obtain ⟨h2556, h⟩ := ifn h
     have e2557 := (an (not_f h2555) (show loadL Try.prog 3 (x29.toNat * 1) (List.map vi a0.Weights) = some (vi (a0.Weights.getD x29.toNat 0)) from ld_map ag3 vi a0.Weights 0 h2556 (by omega)))
     obtain ⟨r2558, h2559, h⟩ := bs h
     have e2560 := (an (not_f h2555) (nfigure_isWithin_ok k (a0.Weights.getD x29.toNat 0) 0 1000 _ h2559))
     have e2561 := (ti (ti (an e2548 (ti (ti (an (an (not_f h2549) trivial) (an (an (not_f h2549) trivial) (an (an (not_f h2549) trivial) (an (an (not_f h2549) h2550) (an e2551 (an e2554 (an (an (not_f h2549) trivial) (an (not_f h2549) (ti (an (an (not_f h2555) trivial) (an (an (not_f h2555) trivial) (an (an (not_f h2555) trivial) (an (an (not_f h2555) h2556) (an e2557 (an e2560 (an (an (not_f h2555) trivial) (an (not_f h2555) trivial))))))))))))))))))))))
     rcases ifs h with ⟨h2562, h⟩ | ⟨h2562, h⟩
     ·have h2 := ih _ _ h
      obtain ⟨q, hv, hq⟩ := pkR (rd := none) (P := Try.prog) (fn := Try.f19) (k := 0) (s := (nfigure_CheckMap_l0_0_h a0 x29)) (ans := [.reg (.n :: []), .br true, .reg (.n :: .n :: .v (vi (a0.Heights.getD x29.toNat 0)) :: .n :: .n :: []), .reg (arLG_3 r2546 a0 x29 r2552 r2558), .br false, .reg (.n :: .n :: [])]) (c := ⟨[(1, none), (27, none), (28, none), (29, none)], [none], []⟩) (e := .normal) (s1 := (nfigure_CheckMap_l0_0_h a0 (w64 (x29 + 1)))) (an (an (ti trivial) (an (an (decide_eq_true h2543) trivial) (an (an (ti (an h2544 (an e2545 (ti (ti trivial))))) (an e2561 (an (not_f h2562) trivial))) (ti (ti trivial))))) (ti trivial)) (by kernel_rfl)
      cases r with
      | inl r => exact round_next pm pn hv hq h2
      | inr r =>
       exact round_next pm pn hv hq h2
     ·injection h with h; subst h
      exact round_stop (c := ⟨[(2, none)], [], []⟩) (s1 := (nfigure_CheckMap_l0_0_e0 a0 ())) pm pn (ans := [.reg (.n :: []), .br true, .reg (.n :: .n :: .v (vi (a0.Heights.getD x29.toNat 0)) :: .n :: .n :: []), .reg (arLG_3 r2546 a0 x29 r2552 r2558), .br true, .reg (.n :: [])]) (by kernel_rfl) (by intro e; cases e) (an (an (ti trivial) (an (an (decide_eq_true h2543) trivial) (an (ti (an h2544 (an e2545 (ti (ti trivial))))) (an e2561 (an (not_t (bool_f h2562)) (an (ti trivial) trivial)))))) (ti trivial))
    ·have e2563 := (ti (ti (an e2548 (ti (ti (an (an (not_f h2549) trivial) (an (an (not_f h2549) trivial) (an (an (not_f h2549) trivial) (an (an (not_f h2549) h2550) (an e2551 (an e2554 (an (an (not_f h2549) trivial) (an (not_f h2549) (ti (an (not_t (bool_f h2555)) (an (not_t (bool_f h2555)) (an (not_t (bool_f h2555)) (an (not_t (bool_f h2555)) (an (not_t (bool_f h2555)) (an (not_t (bool_f h2555)) (an (not_t (bool_f h2555)) (an (not_t (bool_f h2555)) trivial))))))))))))))))))))))
     injection h with h; subst h
     exact round_stop (c := ⟨[(2, none)], [], []⟩) (s1 := (nfigure_CheckMap_l0_0_e0 a0 ())) pm pn (ans := [.reg (.n :: []), .br true, .reg (.n :: .n :: .v (vi (a0.Heights.getD x29.toNat 0)) :: .n :: .n :: []), .reg (arLG_4 r2546 a0 x29 r2552), .br true, .reg (.n :: [])]) (by kernel_rfl) (by intro e; cases e) (an (an (ti trivial) (an (an (decide_eq_true h2543) trivial) (an (ti (an h2544 (an e2545 (ti (ti trivial))))) (an e2563 (an rt (an (ti trivial) trivial)))))) (ti trivial))
   ·have e2564 := (ti (ti (an e2548 (ti (ti (an (not_t (bool_f h2549)) (an (not_t (bool_f h2549)) (an (not_t (bool_f h2549)) (an (not_t (bool_f h2549)) (an (not_t (bool_f h2549)) (an (not_t (bool_f h2549)) (an (not_t (bool_f h2549)) (an (not_t (bool_f h2549)) (ti (an rt (an rt (an rt (an rt (an rt (an rt (an rt (an rt trivial))))))))))))))))))))))
    injection h with h; subst h
    exact round_stop (c := ⟨[(2, none)], [], []⟩) (s1 := (nfigure_CheckMap_l0_0_e0 a0 ())) pm pn (ans := [.reg (.n :: []), .br true, .reg (.n :: .n :: .v (vi (a0.Heights.getD x29.toNat 0)) :: .n :: .n :: []), .reg (arLG_5 r2546), .br true, .reg (.n :: [])]) (by kernel_rfl) (by intro e; cases e) (an (an (ti trivial) (an (an (decide_eq_true h2543) trivial) (an (ti (an h2544 (an e2545 (ti (ti trivial))))) (an e2564 (an rt (an (ti trivial) trivial)))))) (ti trivial))
  ·injection h with h; subst h
   exact round_stop (c := ⟨[(1, none)], [none], []⟩) (s1 := (nfigure_CheckMap_l0_0_e1 a0 ())) pm pn (ans := [.reg (.n :: []), .br false]) (by kernel_rfl) (by intro e; cases e) (an (an (ti trivial) (an (decide_eq_false h2543) trivial)) (ti trivial))
def nfigure_CheckMap (k : Nat) (a0 : SRemovalMap) : Option Int :=
 (nfigure_isWithin k (a0.Heights.length : Int) 1 40).bind fun r2487 => (if r2487 = true then (if (a0.Q.length : Int) = (a0.Heights.length : Int) then (if (a0.Weights.length : Int) = (a0.Heights.length : Int) then ((nfigure_CheckMap_l0_0 k a0 k 0).bind fun r2566 => (match r2566 with | .inl r2567 => (some 2) | .inr r2568 => ((nslices_Max_int_int_ k a0.Weights).bind fun r2571 => (if r2571 = 0 then (some 11) else (some 0))))) else (some 10)) else (some 10)) else (some 10))
theorem nfigure_CheckMap_ok (k : Nat) (a0 : SRemovalMap) (r : Int) (h : nfigure_CheckMap k a0 = some r) : VC Try.prog 19 [VV.ag (c_SRemovalMap a0)] (vi r) := by
 unfold nfigure_CheckMap at h
 obtain ⟨r2487, h2488, h⟩ := bs h
 have e2489 := (nfigure_isWithin_ok k (a0.Heights.length : Int) 1 40 _ h2488)
 rcases ifs h with ⟨h2490, h⟩ | ⟨h2490, h⟩
 ·rcases ifs h with ⟨h2491, h⟩ | ⟨h2491, h⟩
  ·have e2492 := (an (not_f (decide_eq_true h2491)) trivial)
   have e2493 := (an (not_f (decide_eq_true h2491)) trivial)
   have e2494 := (an (not_f (decide_eq_true h2491)) trivial)
   have e2495 := (an (not_f (decide_eq_true h2491)) trivial)
   have e2496 := (an (not_f (decide_eq_true h2491)) trivial)
   have e2497 := (ti (an e2489 (ti (ti (an (an (not_f h2490) trivial) (an (an (not_f h2490) trivial) (an (an (not_f h2490) trivial) (an (an (not_f h2490) trivial) (an (an (not_f h2490) trivial) (an (not_f h2490) (ti (an e2492 (an e2493 (an e2494 (an e2495 (an e2496 (an (not_f (decide_eq_true h2491)) trivial)))))))))))))))))
   rcases ifs h with ⟨h2498, h⟩ | ⟨h2498, h⟩
   ·obtain ⟨r2566, h2565, h⟩ := bs h
    have hph2565 := nfigure_CheckMap_l0_0_ok k a0 _ _ _ h2565
    cases r2566 with
    | inl r2567 =>
     dsimp only at h
     have e2569 := (an (ti trivial) (VRun.loop hph2565))
     injection h with h; subst h
     exact fun_ok pm pn Try.func19 (r0 := vi 2) (ans := [.reg (.n :: .n :: []), .reg (nN 4 []), .reg (.n :: .call (vb r2487) :: nN 7 (.b false :: nN 6 (.b false :: []))), .br false, .reg (nN 4 []), .sub ⟨[(1, none), (27, none), (28, none), (29, none)], [none], []⟩ .ret (nfigure_CheckMap_l0_0_e0 a0 r2567)]) (fr := true) (by kernel_rfl) (an (an (ti (ti trivial)) (an (ti (ti (ti (ti trivial)))) (an (an e2497 (an (not_f (decide_eq_true h2498)) trivial)) (an (ti (ti (ti (ti trivial)))) e2569)))) (ti trivial)) (Wv.refl _)
    | inr r2568 =>
     dsimp only at h
     have e2570 := (an (ti trivial) (VRun.loop hph2565))
     obtain ⟨r2571, h2572, h⟩ := bs h
     have e2573 := (nslices_Max_int_int__ok k a0.Weights _ h2572)
     rcases ifs h with ⟨h2574, h⟩ | ⟨h2574, h⟩
     ·injection h with h; subst h
      exact fun_ok pm pn Try.func19 (r0 := vi 11) (ans := [.reg (.n :: .n :: []), .reg (nN 4 []), .reg (.n :: .call (vb r2487) :: nN 7 (.b false :: nN 6 (.b false :: []))), .br false, .reg (nN 4 []), .sub ⟨[(1, none), (27, none), (28, none), (29, none)], [none], []⟩ (.exit 0) (nfigure_CheckMap_l0_0_e1 a0 r2568), .reg (.n :: .n :: .call (vi r2571) :: .n :: []), .br true, .reg (.n :: [])]) (fr := true) (by kernel_rfl) (an (an (ti (ti trivial)) (an (ti (ti (ti (ti trivial)))) (an (an e2497 (an (not_f (decide_eq_true h2498)) trivial)) (an (an (ti (ti (ti (ti trivial)))) e2570) (an (ti (ti (an e2573 (ti trivial)))) (an (decide_eq_true h2574) (an (ti trivial) trivial))))))) (ti trivial)) (Wv.refl _)
     ·injection h with h; subst h
      exact fun_ok pm pn Try.func19 (r0 := vi 0) (ans := [.reg (.n :: .n :: []), .reg (nN 4 []), .reg (.n :: .call (vb r2487) :: nN 7 (.b false :: nN 6 (.b false :: []))), .br false, .reg (nN 4 []), .sub ⟨[(1, none), (27, none), (28, none), (29, none)], [none], []⟩ (.exit 0) (nfigure_CheckMap_l0_0_e1 a0 r2568), .reg (.n :: .n :: .call (vi r2571) :: .n :: []), .br false, .reg (.n :: [])]) (fr := true) (by kernel_rfl) (an (an (ti (ti trivial)) (an (ti (ti (ti (ti trivial)))) (an (an e2497 (an (not_f (decide_eq_true h2498)) trivial)) (an (an (ti (ti (ti (ti trivial)))) e2570) (an (an (ti (ti (an e2573 (ti trivial)))) (an (decide_eq_false h2574) trivial)) (an (ti trivial) trivial)))))) (ti trivial)) (Wv.refl _)
   ·injection h with h; subst h
    exact fun_ok pm pn Try.func19 (r0 := vi 10) (ans := [.reg (.n :: .n :: []), .reg (nN 4 []), .reg (.n :: .call (vb r2487) :: nN 7 (.b false :: nN 6 (.b false :: []))), .br true, .reg (.n :: [])]) (fr := true) (by kernel_rfl) (an (an (ti (ti trivial)) (an (ti (ti (ti (ti trivial)))) (an e2497 (an (not_t (decide_eq_false h2498)) (an (ti trivial) trivial))))) (ti trivial)) (Wv.refl _)
  ·have e2575 := (ti (an e2489 (ti (ti (an (an (not_f h2490) trivial) (an (an (not_f h2490) trivial) (an (an (not_f h2490) trivial) (an (an (not_f h2490) trivial) (an (an (not_f h2490) trivial) (an (not_f h2490) (ti (an (not_t (decide_eq_false h2491)) (an (not_t (decide_eq_false h2491)) (an (not_t (decide_eq_false h2491)) (an (not_t (decide_eq_false h2491)) (an (not_t (decide_eq_false h2491)) (an (not_t (decide_eq_false h2491)) trivial)))))))))))))))))
   injection h with h; subst h
   exact fun_ok pm pn Try.func19 (r0 := vi 10) (ans := [.reg (.n :: .n :: []), .reg (nN 4 []), .reg (.n :: .call (vb r2487) :: nN 7 (.b false :: .n :: nS 5 (.b true :: []))), .br true, .reg (.n :: [])]) (fr := true) (by kernel_rfl) (an (an (ti (ti trivial)) (an (ti (ti (ti (ti trivial)))) (an e2575 (an rt (an (ti trivial) trivial))))) (ti trivial)) (Wv.refl _)
 ·have e2576 := (ti (an e2489 (ti (ti (an (not_t (bool_f h2490)) (an (not_t (bool_f h2490)) (an (not_t (bool_f h2490)) (an (not_t (bool_f h2490)) (an (not_t (bool_f h2490)) (an (not_t (bool_f h2490)) (ti (an rt (an rt (an rt (an rt (an rt (an rt trivial)))))))))))))))))
  injection h with h; subst h
  exact fun_ok pm pn Try.func19 (r0 := vi 10) (ans := [.reg (.n :: .n :: []), .reg (nN 4 []), .reg (.n :: .call (vb r2487) :: .n :: .n :: nS 5 (.b true :: .n :: nS 5 (.b true :: []))), .br true, .reg (.n :: [])]) (fr := true) (by kernel_rfl) (an (an (ti (ti trivial)) (an (ti (ti (ti (ti trivial)))) (an e2576 (an rt (an (ti trivial) trivial))))) (ti trivial)) (Wv.refl _)
def nfigure_pairs (k : Nat) (a0 : Int) : Option Int :=
 some a0
theorem nfigure_pairs_ok (k : Nat) (a0 : Int) (r : Int) (h : nfigure_pairs k a0 = some r) : VC Try.prog 38 [vi a0] (VV.fn 53 [VV.tp [vi r] 0]) := by
 unfold nfigure_pairs at h
 injection h with h; subst h
 exact fun_ok pm pn Try.func38 (r0 := VV.fn 53 [VV.tp [vi a0] 0]) (ans := [.reg (.n :: .n :: []), .frz 0, .reg (.n :: .n :: [])]) (fr := false) (by kernel_rfl) (an (an (ti (ti trivial)) (an (ti (ti trivial)) trivial)) (ti trivial)) (Wv.refl _)
def nfigure_divisor_l0_0_h  (x0 : Int) (x1 : Int) : VS := ⟨mkA [(0, vi x0), (1, vi x1)], [], .nil⟩
def nfigure_divisor_l0_0_e0  (r : Int) : VS := ⟨mkA [(0, vi r)], [], .nil⟩
def nfigure_divisor_l0_0 (k : Nat)  : Nat -> Int -> Int -> Option (Int)
 | 0, _, _ => none
 | fuel + 1, x0, x1 => if x1 = 0 then (some x0) else (if x1 ≠ 0 then (nfigure_divisor_l0_0 k  fuel x1 (x0.tmod x1)) else none)
theorem nfigure_divisor_l0_0_ok (k : Nat)  : ∀ (fuel : Nat) (x0 : Int) (x1 : Int) (r : Int), nfigure_divisor_l0_0 k  fuel x0 x1 = some r -> (VLoop none Try.prog (szF Try.f45) (bodyOf Try.f45 0) (nfigure_divisor_l0_0_h  x0 x1) (.exit 0) (nfigure_divisor_l0_0_e0  r)) := by
 intro fuel
 induction fuel with
 | zero => intro x0 x1 r h; rw [nfigure_divisor_l0_0.eq_1] at h; cases h
 | succ fuel ih =>
  intro x0 x1 r h
  rw [nfigure_divisor_l0_0.eq_2] at h
  rcases ifs h with ⟨h2624, h⟩ | ⟨h2624, h⟩
  ·injection h with h; subst h
   exact round_stop (c := ⟨[(0, none)], [], []⟩) (s1 := (nfigure_divisor_l0_0_e0  x0)) pm pn (ans := [.reg (.n :: .n :: []), .br false]) (by kernel_rfl) (by intro e; cases e) (an (an (ti (ti trivial)) (an (not_f (decide_eq_true h2624)) trivial)) (ti trivial))
  ·obtain ⟨h2625, h⟩ := ifn h
   have h2 := ih _ _ _ h
   obtain ⟨q, hv, hq⟩ := pkR (rd := none) (P := Try.prog) (fn := Try.f45) (k := 0) (s := (nfigure_divisor_l0_0_h  x0 x1)) (ans := [.reg (.n :: .n :: []), .br true, .reg (nN 6 [])]) (c := ⟨[(0, none), (1, none)], [], []⟩) (e := .normal) (s1 := (nfigure_divisor_l0_0_h  x1 (x0.tmod x1))) (an (an (an (ti (ti trivial)) (an (not_t (decide_eq_false h2624)) trivial)) (ti (ti (ti (an h2625 (ti (ti trivial))))))) (ti trivial)) (by kernel_rfl)
   exact round_next pm pn hv hq h2
def nfigure_divisor (k : Nat) (a0 : Int) (a1 : Int) : Option Int :=
 (nfigure_divisor_l0_0 k k a0 a1).bind fun r2627 => (some (maxI r2627 (w64 (0 - r2627))))
theorem nfigure_divisor_ok (k : Nat) (a0 : Int) (a1 : Int) (r : Int) (h : nfigure_divisor k a0 a1 = some r) : VC Try.prog 45 [vi a0, vi a1] (vi r) := by
 unfold nfigure_divisor at h
 obtain ⟨r2627, h2626, h⟩ := bs h
 have hph2626 := nfigure_divisor_l0_0_ok k  _ _ _ _ h2626
 have e2628 := (an (ti trivial) (VRun.loop hph2626))
 injection h with h; subst h
 exact fun_ok pm pn Try.func45 (r0 := vi (maxI r2627 (w64 (0 - r2627)))) (ans := [.reg (.n :: []), .sub ⟨[(0, none), (1, none)], [], []⟩ (.exit 0) (nfigure_divisor_l0_0_e0  r2627), .reg (nN 5 [])]) (fr := true) (by kernel_rfl) (an (an (ti trivial) (an e2628 (an (ti (ti (ti (ti (ti trivial))))) trivial))) (ti trivial)) (Wv.refl _)
theorem eqLG_2 (z0 : Int) (z1 : Int) (z2 : Int) : VV.ag [vi (w64 (z0.tdiv z1)), vi (w64 (z2.tdiv z1))] = VV.ag (c_SFrac (⟨w64 (z0.tdiv z1), w64 (z2.tdiv z1)⟩ : SFrac)) := by first | rfl | (simp only [unfr_vi, map_cons, map_nil, un_i, unfr_c_SFrac]; done) | (simp only [unfr_vi, map_cons, map_nil, un_i, unfr_c_SFrac]; rfl) | (simp only [unfr_vi, map_cons, map_nil, un_i, unfr_c_SFrac, c_SFrac, length_cons, length_nil, length_append]; done)
def nfigure_lowest (k : Nat) (a0 : Int) (a1 : Int) : Option SFrac :=
 (nfigure_divisor k a0 a1).bind fun r2634 => (if r2634 ≠ 0 then (some (⟨w64 (a0.tdiv r2634), w64 (a1.tdiv r2634)⟩ : SFrac)) else none)
theorem nfigure_lowest_ok (k : Nat) (a0 : Int) (a1 : Int) (r : SFrac) (h : nfigure_lowest k a0 a1 = some r) : VC Try.prog 26 [vi a0, vi a1] (VV.ag (c_SFrac r)) := by
 unfold nfigure_lowest at h
 obtain ⟨r2634, h2635, h⟩ := bs h
 have e2636 := (ti (ti (an (nfigure_divisor_ok k a0 a1 _ h2635) (ti trivial))))
 obtain ⟨h2637, h⟩ := ifn h
 have e2638 := (ti (ti (an h2637 (ti (ti (an h2637 (ti (ti trivial))))))))
 injection h with h; subst h
 exact fun_ok pm pn Try.func26 (r0 := VV.ag [vi (w64 (a0.tdiv r2634)), vi (w64 (a1.tdiv r2634))]) (ans := [.reg (.n :: []), .reg (.n :: .n :: .call (vi r2634) :: .n :: []), .reg (nN 8 [])]) (fr := true) (by kernel_rfl) (an (an (ti trivial) (an e2636 (an e2638 trivial))) (an (ti (ti (ti trivial))) trivial)) (Wv.of_eq (eqLG_2 a0 r2634 a1))
def nfigure_mean_l0_0_h (a0 : SRemovalMap) (x10 : Int) (x3 : Int) (x4 : Int) : VS := ⟨mkA [(1, VV.pt 0 0), (2, VV.pt 1 0), (3, vi x3), (4, vi x4), (8, VV.tr (List.map vi a0.Weights) a0.Weights.length), (9, vi (a0.Weights.length : Int)), (10, vi x10)], [some ⟨true, 1, c_SRemovalMap a0⟩, some ⟨true, 1, [vi 0, vi 0]⟩], .nil⟩
def nfigure_mean_l0_0_e0 (a0 : SRemovalMap) (r : Int × Int) : VS := ⟨mkA [(2, VV.pt 1 0), (3, vi r.1), (4, vi r.2)], [some ⟨true, 1, c_SRemovalMap a0⟩, some ⟨true, 1, [vi 0, vi 0]⟩], .nil⟩
def nfigure_mean_l0_0 (k : Nat) (a0 : SRemovalMap) : Nat -> Int -> Int -> Int -> Option (Int × Int)
 | 0, _, _, _ => none
 | fuel + 1, x10, x3, x4 => if x10 < (a0.Weights.length : Int) then (if 0 <= x10 /\ x10 < (a0.Weights.length : Int) then (if 0 <= x10 /\ x10 < (a0.Q.length : Int) then (nfigure_mean_l0_0 k a0 fuel (w64 (x10 + 1)) (w64 (x3 + (w64 ((a0.Weights.getD x10.toNat 0) * (a0.Q.getD x10.toNat 0))))) (w64 (x4 + (a0.Weights.getD x10.toNat 0)))) else none) else none) else (some (x3, x4))
theorem nfigure_mean_l0_0_ok (k : Nat) (a0 : SRemovalMap) : ∀ (fuel : Nat) (x10 : Int) (x3 : Int) (x4 : Int) (r : Int × Int), nfigure_mean_l0_0 k a0 fuel x10 x3 x4 = some r -> (VLoop none Try.prog (szF Try.f44) (bodyOf Try.f44 0) (nfigure_mean_l0_0_h a0 x10 x3 x4) (.exit 0) (nfigure_mean_l0_0_e0 a0 r)) := by
 intro fuel
 induction fuel with
 | zero => intro x10 x3 x4 r h; rw [nfigure_mean_l0_0.eq_1] at h; cases h
 | succ fuel ih =>
  intro x10 x3 x4 r h
  rw [nfigure_mean_l0_0.eq_2] at h
  rcases ifs h with ⟨h2654, h⟩ | ⟨h2654, h⟩
  ·obtain ⟨h2655, h⟩ := ifn h
   have e2656 := (show loadL Try.prog 3 (x10.toNat * 1) (List.map vi a0.Weights) = some (vi (a0.Weights.getD x10.toNat 0)) from ld_map ag3 vi a0.Weights 0 h2655 (by omega))
   obtain ⟨h2657, h⟩ := ifn h
   have e2658 := (show loadL Try.prog 3 (x10.toNat * 1) (List.map vi a0.Q) = some (vi (a0.Q.getD x10.toNat 0)) from ld_map ag3 vi a0.Q 0 h2657 (by omega))
   have e2659 := (ti (ti (ti (ti (ti (an h2657 (an e2658 (ti (ti (ti trivial))))))))))
   have h2 := ih _ _ _ _ h
   obtain ⟨q, hv, hq⟩ := pkR (rd := none) (P := Try.prog) (fn := Try.f44) (k := 0) (s := (nfigure_mean_l0_0_h a0 x10 x3 x4)) (ans := [.reg (.n :: []), .br true, .reg (.n :: .n :: .v (vi (a0.Weights.getD x10.toNat 0)) :: .n :: .n :: []), .reg (nN 6 (.v (vi (a0.Q.getD x10.toNat 0)) :: nN 3 [])), .reg (nN 4 []), .reg (.n :: .n :: [])]) (c := ⟨[(1, none), (2, none), (3, none), (4, none), (8, none), (9, none), (10, none)], [none, none], []⟩) (e := .normal) (s1 := (nfigure_mean_l0_0_h a0 (w64 (x10 + 1)) (w64 (x3 + (w64 ((a0.Weights.getD x10.toNat 0) * (a0.Q.getD x10.toNat 0))))) (w64 (x4 + (a0.Weights.getD x10.toNat 0))))) (an (an (ti trivial) (an (an (decide_eq_true h2654) trivial) (an (an (ti (an h2655 (an e2656 (ti (ti trivial))))) (an e2659 (ti (ti (ti (ti trivial)))))) (ti (ti trivial))))) (ti trivial)) (by kernel_rfl)
   exact round_next pm pn hv hq h2
  ·injection h with h; subst h
   exact round_stop (c := ⟨[(2, none), (3, none), (4, none)], [none, none], []⟩) (s1 := (nfigure_mean_l0_0_e0 a0 (x3, x4))) pm pn (ans := [.reg (.n :: []), .br false]) (by kernel_rfl) (by intro e; cases e) (an (an (ti trivial) (an (decide_eq_false h2654) trivial)) (ti trivial))
def nfigure_mean (k : Nat) (a0 : SRemovalMap) : Option SFrac :=
 (nfigure_mean_l0_0 k a0 k 0 0 0).bind fun r2661 => ((nfigure_lowest k r2661.1 r2661.2).bind fun r2663 => (some r2663))
theorem nfigure_mean_ok (k : Nat) (a0 : SRemovalMap) (r : SFrac) (h : nfigure_mean k a0 = some r) : VC Try.prog 44 [VV.ag (c_SRemovalMap a0)] (VV.ag (c_SFrac r)) := by
 unfold nfigure_mean at h
 obtain ⟨r2661, h2660, h⟩ := bs h
 have hph2660 := nfigure_mean_l0_0_ok k a0 _ _ _ _ _ h2660
 have e2662 := (an (ti trivial) (VRun.loop hph2660))
 obtain ⟨r2663, h2664, h⟩ := bs h
 have e2665 := (nfigure_lowest_ok k r2661.1 r2661.2 _ h2664)
 injection h with h; subst h
 exact fun_ok pm pn Try.func44 (r0 := VV.ag (c_SFrac r2663)) (ans := [.reg (.n :: .n :: []), .reg (.n :: .n :: []), .reg (nN 4 []), .sub ⟨[(1, none), (2, none), (3, none), (4, none), (8, none), (9, none), (10, none)], [none, none], []⟩ (.exit 0) (nfigure_mean_l0_0_e0 a0 r2661), .reg (.n :: .n :: .call (VV.ag (c_SFrac r2663)) :: .n :: [])]) (fr := true) (by kernel_rfl) (an (an (ti (ti trivial)) (an (ti (ti trivial)) (an (an (ti (ti (ti (ti trivial)))) e2662) (an (ti (ti (an e2665 (ti trivial)))) trivial)))) (an (ti (ti (ti trivial))) trivial)) (Wv.refl _)
def arLG_6 (z0 : SRemovalMap) (z1 : Int) (z2 : Int) : List Ans := (nN 4 (.v (vi (z0.Q.getD z1.toNat 0)) :: nN 13 (.v (vi (z0.Q.getD z2.toNat 0)) :: nN 4 (.b true :: .n :: []))))
def nfigure_areAround (k : Nat) (a0 : SRemovalMap) (a1 : Int) (a2 : Int) : Option Bool :=
 (nfigure_mean k a0).bind fun r2676 => (if 0 <= a1 /\ a1 < (a0.Q.length : Int) then (if (w64 ((a0.Q.getD a1.toNat 0) * r2676.Den)) <= r2676.Num then (if 0 <= a2 /\ a2 < (a0.Q.length : Int) then (some (decide (r2676.Num <= (w64 ((a0.Q.getD a2.toNat 0) * r2676.Den))))) else none) else (some false)) else none)
theorem nfigure_areAround_ok (k : Nat) (a0 : SRemovalMap) (a1 : Int) (a2 : Int) (r : Bool) (h : nfigure_areAround k a0 a1 a2 = some r) : VC Try.prog 25 [VV.ag (c_SRemovalMap a0), vi a1, vi a2] (vb r) := by
 unfold nfigure_areAround at h
 obtain ⟨r2676, h2677, h⟩ := bs h
 have e2678 := (ti (an (nfigure_mean_ok k a0 _ h2677) (ti (ti trivial))))
 obtain ⟨h2679, h⟩ := ifn h
 have e2680 := (show loadL Try.prog 3 (a1.toNat * 1) (List.map vi a0.Q) = some (vi (a0.Q.getD a1.toNat 0)) from ld_map ag3 vi a0.Q 0 h2679 (by omega))
 rcases ifs h with ⟨h2681, h⟩ | ⟨h2681, h⟩
 ·obtain ⟨h2682, h⟩ := ifn h
  have e2683 := (an (decide_eq_true h2681) (show loadL Try.prog 3 (a2.toNat * 1) (List.map vi a0.Q) = some (vi (a0.Q.getD a2.toNat 0)) from ld_map ag3 vi a0.Q 0 h2682 (by omega)))
  have e2684 := (ti (ti (ti (an h2679 (an e2680 (ti (ti (ti (ti (ti (ti (ti (an (an (decide_eq_true h2681) trivial) (an (an (decide_eq_true h2681) trivial) (an (an (decide_eq_true h2681) trivial) (an (an (decide_eq_true h2681) trivial) (an (an (decide_eq_true h2681) trivial) (an (an (decide_eq_true h2681) h2682) (an e2683 (an (an (decide_eq_true h2681) trivial) (an (an (decide_eq_true h2681) trivial) (an (an (decide_eq_true h2681) trivial) (an (an (decide_eq_true h2681) trivial) (an (decide_eq_true h2681) (ti trivial)))))))))))))))))))))))))
  injection h with h; subst h
  exact fun_ok pm pn Try.func25 (r0 := vb (decide (r2676.Num <= (w64 ((a0.Q.getD a2.toNat 0) * r2676.Den))))) (ans := [.reg (.n :: .n :: []), .reg (.n :: .call (VV.ag (c_SFrac r2676)) :: .n :: .n :: []), .reg (arLG_6 a0 a1 a2)]) (fr := true) (by kernel_rfl) (an (an (ti (ti trivial)) (an e2678 (an e2684 trivial))) (ti trivial)) (Wv.refl _)
 ·have e2685 := (ti (ti (ti (an h2679 (an e2680 (ti (ti (ti (ti (ti (ti (ti (an (decide_eq_false h2681) (an (decide_eq_false h2681) (an (decide_eq_false h2681) (an (decide_eq_false h2681) (an (decide_eq_false h2681) (an (decide_eq_false h2681) (an (decide_eq_false h2681) (an (decide_eq_false h2681) (an (decide_eq_false h2681) (an (decide_eq_false h2681) (an (decide_eq_false h2681) (an (decide_eq_false h2681) (ti trivial)))))))))))))))))))))))))
  injection h with h; subst h
  exact fun_ok pm pn Try.func25 (r0 := vb false) (ans := [.reg (.n :: .n :: []), .reg (.n :: .call (VV.ag (c_SFrac r2676)) :: .n :: .n :: []), .reg (nN 4 (.v (vi (a0.Q.getD a1.toNat 0)) :: nN 7 (nS 11 (.b false :: .n :: []))))]) (fr := true) (by kernel_rfl) (an (an (ti (ti trivial)) (an e2678 (an e2685 trivial))) (ti trivial)) (Wv.refl _)
def arLG_7 (z0 : SRemovalMap) (z1 : Int) (z2 : Int) : List Ans := (nN 4 (.v (vi (z0.Heights.getD z1.toNat 0)) :: nN 4 (.v (vi (z0.Heights.getD z2.toNat 0)) :: nN 5 (.v (vi (z0.Q.getD z1.toNat 0)) :: nN 4 (.v (vi (z0.Q.getD z2.toNat 0)) :: nN 3 [])))))
def arLG_8 (z0 : SRemovalMap) (z1 : Int) (z2 : SFrac) (z3 : SFrac) : List Ans := (nN 4 (.v (vi (z0.Heights.getD z1.toNat 0)) :: nN 7 (.v (vi (z0.Q.getD z1.toNat 0)) :: nN 3 (.call (VV.ag (c_SFrac z2)) :: .n :: .n :: .call (VV.ag (c_SFrac z3)) :: nN 5 []))))
theorem eqLG_3 (z0 : SFrac) (z1 : SFrac) (z2 : Int) (z3 : Int) : VV.ag [vi z0.Num, vi z0.Den, vi z1.Num, vi z1.Den, vi z2, vi z3] = VV.ag [vi (((⟨z0, z1, (⟨z2, z3⟩ : A43)⟩ : SLowerLine).Start).Num), vi (((⟨z0, z1, (⟨z2, z3⟩ : A43)⟩ : SLowerLine).Start).Den), vi (((⟨z0, z1, (⟨z2, z3⟩ : A43)⟩ : SLowerLine).Slope).Num), vi (((⟨z0, z1, (⟨z2, z3⟩ : A43)⟩ : SLowerLine).Slope).Den), vi (((⟨z0, z1, (⟨z2, z3⟩ : A43)⟩ : SLowerLine).Touch).e0), vi (((⟨z0, z1, (⟨z2, z3⟩ : A43)⟩ : SLowerLine).Touch).e1)] := by first | rfl | (simp only [unfr_vi, map_cons, map_nil, un_i]; done) | (simp only [unfr_vi, map_cons, map_nil, un_i]; rfl) | (simp only [unfr_vi, map_cons, map_nil, un_i, length_cons, length_nil, length_append]; done)
def nfigure_through (k : Nat) (a0 : SRemovalMap) (a1 : Int) (a2 : Int) : Option SLowerLine :=
 if 0 <= a2 /\ a2 < (a0.Heights.length : Int) then (if 0 <= a1 /\ a1 < (a0.Heights.length : Int) then (if 0 <= a2 /\ a2 < (a0.Q.length : Int) then (if 0 <= a1 /\ a1 < (a0.Q.length : Int) then ((nfigure_lowest k (w64 ((w64 ((a0.Heights.getD a1.toNat 0) * (w64 ((a0.Q.getD a2.toNat 0) - (a0.Q.getD a1.toNat 0))))) - (w64 ((w64 ((a0.Heights.getD a2.toNat 0) - (a0.Heights.getD a1.toNat 0))) * (a0.Q.getD a1.toNat 0))))) (w64 ((a0.Q.getD a2.toNat 0) - (a0.Q.getD a1.toNat 0)))).bind fun r2720 => ((nfigure_lowest k (w64 ((a0.Heights.getD a2.toNat 0) - (a0.Heights.getD a1.toNat 0))) (w64 ((a0.Q.getD a2.toNat 0) - (a0.Q.getD a1.toNat 0)))).bind fun r2723 => (some (⟨r2720, r2723, (⟨a1, a2⟩ : A43)⟩ : SLowerLine)))) else none) else none) else none) else none
theorem nfigure_through_ok (k : Nat) (a0 : SRemovalMap) (a1 : Int) (a2 : Int) (r : SLowerLine) (h : nfigure_through k a0 a1 a2 = some r) : VC Try.prog 39 [VV.ag (c_SRemovalMap a0), vi a1, vi a2] (VV.ag (c_SLowerLine r)) := by
 unfold nfigure_through at h
 obtain ⟨h2709, h⟩ := ifn h
 have e2710 := (show loadL Try.prog 3 (a2.toNat * 1) (List.map vi a0.Heights) = some (vi (a0.Heights.getD a2.toNat 0)) from ld_map ag3 vi a0.Heights 0 h2709 (by omega))
 obtain ⟨h2711, h⟩ := ifn h
 have e2712 := (show loadL Try.prog 3 (a1.toNat * 1) (List.map vi a0.Heights) = some (vi (a0.Heights.getD a1.toNat 0)) from ld_map ag3 vi a0.Heights 0 h2711 (by omega))
 obtain ⟨h2713, h⟩ := ifn h
 have e2714 := (show loadL Try.prog 3 (a2.toNat * 1) (List.map vi a0.Q) = some (vi (a0.Q.getD a2.toNat 0)) from ld_map ag3 vi a0.Q 0 h2713 (by omega))
 obtain ⟨h2715, h⟩ := ifn h
 have e2716 := (show loadL Try.prog 3 (a1.toNat * 1) (List.map vi a0.Q) = some (vi (a0.Q.getD a1.toNat 0)) from ld_map ag3 vi a0.Q 0 h2715 (by omega))
 have e2717 := (ti (ti (ti (an h2709 (an e2710 (ti (ti (ti (an h2711 (an e2712 (ti (ti (ti (ti (an h2713 (an e2714 (ti (ti (ti (an h2715 (an e2716 (ti (ti (ti trivial))))))))))))))))))))))))
 have e2718 := (show loadL Try.prog 3 (a1.toNat * 1) (List.map vi a0.Heights) = some (vi (a0.Heights.getD a1.toNat 0)) from ld_map ag3 vi a0.Heights 0 h2711 (by omega))
 have e2719 := (show loadL Try.prog 3 (a1.toNat * 1) (List.map vi a0.Q) = some (vi (a0.Q.getD a1.toNat 0)) from ld_map ag3 vi a0.Q 0 h2715 (by omega))
 obtain ⟨r2720, h2721, h⟩ := bs h
 have e2722 := (nfigure_lowest_ok k (w64 ((w64 ((a0.Heights.getD a1.toNat 0) * (w64 ((a0.Q.getD a2.toNat 0) - (a0.Q.getD a1.toNat 0))))) - (w64 ((w64 ((a0.Heights.getD a2.toNat 0) - (a0.Heights.getD a1.toNat 0))) * (a0.Q.getD a1.toNat 0))))) (w64 ((a0.Q.getD a2.toNat 0) - (a0.Q.getD a1.toNat 0))) _ h2721)
 obtain ⟨r2723, h2724, h⟩ := bs h
 have e2725 := (nfigure_lowest_ok k (w64 ((a0.Heights.getD a2.toNat 0) - (a0.Heights.getD a1.toNat 0))) (w64 ((a0.Q.getD a2.toNat 0) - (a0.Q.getD a1.toNat 0))) _ h2724)
 have e2726 := (ti (ti (ti (an h2711 (an e2718 (ti (ti (ti (ti (ti (ti (an h2715 (an e2719 (ti (ti (ti (an e2722 (ti (ti (an e2725 (ti (ti (ti (ti (ti trivial)))))))))))))))))))))))))
 injection h with h; subst h
 exact fun_ok pm pn Try.func39 (r0 := VV.ag [vi r2720.Num, vi r2720.Den, vi r2723.Num, vi r2723.Den, vi a1, vi a2]) (ans := [.reg (.n :: .n :: []), .reg (arLG_7 a0 a2 a1), .reg (arLG_8 a0 a1 r2720 r2723)]) (fr := true) (by kernel_rfl) (an (an (ti (ti trivial)) (an e2717 (an e2726 trivial))) (an (ti (ti (ti (ti (ti (ti (ti trivial))))))) trivial)) (Wv.of_eq (eqLG_3 r2720 r2723 a1 a2))
def nfigure_denOf (k : Nat) (a0 : SLowerLine) : Option Int :=
 some (w64 (a0.Start.Den * a0.Slope.Den))
theorem nfigure_denOf_ok (k : Nat) (a0 : SLowerLine) (r : Int) (h : nfigure_denOf k a0 = some r) : VC Try.prog 27 [VV.ag (c_SLowerLine a0)] (vi r) := by
 unfold nfigure_denOf at h
 injection h with h; subst h
 exact fun_ok pm pn Try.func27 (r0 := vi (w64 (a0.Start.Den * a0.Slope.Den))) (ans := [.reg (.n :: .n :: []), .reg (nN 8 [])]) (fr := true) (by kernel_rfl) (an (an (ti (ti trivial)) (an (ti (ti (ti (ti (ti (ti (ti (ti trivial)))))))) trivial)) (ti trivial)) (Wv.refl _)
def arLG_9 (z0 : SRemovalMap) (z1 : Int) (z2 : Int) : List Ans := (nN 4 (.v (vi (z0.Heights.getD z1.toNat 0)) :: .n :: .call (vi z2) :: nN 16 (.v (vi (z0.Q.getD z1.toNat 0)) :: nN 7 [])))
def nfigure_removalTimesDen (k : Nat) (a0 : SRemovalMap) (a1 : SLowerLine) (a2 : Int) : Option Int :=
 if 0 <= a2 /\ a2 < (a0.Heights.length : Int) then ((nfigure_denOf k a1).bind fun r2740 => (if 0 <= a2 /\ a2 < (a0.Q.length : Int) then (some (w64 ((w64 ((w64 ((a0.Heights.getD a2.toNat 0) * r2740)) - (w64 (a1.Start.Num * a1.Slope.Den)))) - (w64 ((w64 (a1.Slope.Num * (a0.Q.getD a2.toNat 0))) * a1.Start.Den))))) else none)) else none
theorem nfigure_removalTimesDen_ok (k : Nat) (a0 : SRemovalMap) (a1 : SLowerLine) (a2 : Int) (r : Int) (h : nfigure_removalTimesDen k a0 a1 a2 = some r) : VC Try.prog 24 [VV.ag (c_SRemovalMap a0), VV.ag (c_SLowerLine a1), vi a2] (vi r) := by
 unfold nfigure_removalTimesDen at h
 obtain ⟨h2738, h⟩ := ifn h
 have e2739 := (show loadL Try.prog 3 (a2.toNat * 1) (List.map vi a0.Heights) = some (vi (a0.Heights.getD a2.toNat 0)) from ld_map ag3 vi a0.Heights 0 h2738 (by omega))
 obtain ⟨r2740, h2741, h⟩ := bs h
 obtain ⟨h2742, h⟩ := ifn h
 have e2743 := (show loadL Try.prog 3 (a2.toNat * 1) (List.map vi a0.Q) = some (vi (a0.Q.getD a2.toNat 0)) from ld_map ag3 vi a0.Q 0 h2742 (by omega))
 have e2744 := (ti (ti (ti (an h2738 (an e2739 (ti (an (nfigure_denOf_ok k a1 _ h2741) (ti (ti (ti (ti (ti (ti (ti (ti (ti (ti (ti (ti (ti (ti (ti (an h2742 (an e2743 (ti (ti (ti (ti (ti (ti (ti trivial)))))))))))))))))))))))))))))))
 injection h with h; subst h
 exact fun_ok pm pn Try.func24 (r0 := vi (w64 ((w64 ((w64 ((a0.Heights.getD a2.toNat 0) * r2740)) - (w64 (a1.Start.Num * a1.Slope.Den)))) - (w64 ((w64 (a1.Slope.Num * (a0.Q.getD a2.toNat 0))) * a1.Start.Den))))) (ans := [.reg (nN 3 []), .reg (arLG_9 a0 a2 r2740)]) (fr := true) (by kernel_rfl) (an (an (ti (ti (ti trivial))) (an e2744 trivial)) (ti trivial)) (Wv.refl _)
def nfigure_firstDug_l0_0_h (a0 : SRemovalMap) (a1 : SLowerLine) (x10 : Int) : VS := ⟨mkA [(2, VV.pt 0 0), (3, VV.pt 1 0), (9, vi (a0.Heights.length : Int)), (10, vi x10)], [some ⟨true, 1, c_SRemovalMap a0⟩, some ⟨true, 1, c_SLowerLine a1⟩], .nil⟩
def nfigure_firstDug_l0_0_e0 (a0 : SRemovalMap) (a1 : SLowerLine) (r : Int) : VS := ⟨mkA [(4, vi r), (5, vb true)], [], .nil⟩
def nfigure_firstDug_l0_0_e1 (a0 : SRemovalMap) (a1 : SLowerLine) (r : Unit) : VS := ⟨mkA [], [], .nil⟩
def nfigure_firstDug_l0_0 (k : Nat) (a0 : SRemovalMap) (a1 : SLowerLine) : Nat -> Int -> Option (Sum Int Unit)
 | 0, _ => none
 | fuel + 1, x10 => if x10 < (a0.Heights.length : Int) then ((nfigure_removalTimesDen k a0 a1 x10).bind fun r2776 => (if r2776 < 0 then (some (.inl x10)) else (nfigure_firstDug_l0_0 k a0 a1 fuel (w64 (x10 + 1))))) else (some (.inr ()))
theorem nfigure_firstDug_l0_0_ok (k : Nat) (a0 : SRemovalMap) (a1 : SLowerLine) : ∀ (fuel : Nat) (x10 : Int) (r : Sum Int Unit), nfigure_firstDug_l0_0 k a0 a1 fuel x10 = some r -> (match r with | .inl r => VLoop none Try.prog (szF Try.f22) (bodyOf Try.f22 0) (nfigure_firstDug_l0_0_h a0 a1 x10) .ret (nfigure_firstDug_l0_0_e0 a0 a1 r) | .inr r => VLoop none Try.prog (szF Try.f22) (bodyOf Try.f22 0) (nfigure_firstDug_l0_0_h a0 a1 x10) (.exit 0) (nfigure_firstDug_l0_0_e1 a0 a1 r)) := by
 intro fuel
 induction fuel with
 | zero => intro x10 r h; rw [nfigure_firstDug_l0_0.eq_1] at h; cases h
 | succ fuel ih =>
  intro x10 r h
  rw [nfigure_firstDug_l0_0.eq_2] at h
  rcases ifs h with ⟨h2775, h⟩ | ⟨h2775, h⟩
  ·obtain ⟨r2776, h2777, h⟩ := bs h
   have e2778 := (nfigure_removalTimesDen_ok k a0 a1 x10 _ h2777)
   rcases ifs h with ⟨h2779, h⟩ | ⟨h2779, h⟩
   ·injection h with h; subst h
    exact round_stop (c := ⟨[(4, none), (5, none)], [], []⟩) (s1 := (nfigure_firstDug_l0_0_e0 a0 a1 x10)) pm pn (ans := [.reg (.n :: []), .br true, .reg (.n :: .n :: []), .reg (nN 3 (.call (vi r2776) :: .n :: [])), .br true, .reg (nN 3 [])]) (by kernel_rfl) (by intro e; cases e) (an (an (ti trivial) (an (an (decide_eq_true h2775) trivial) (an (ti (ti trivial)) (an (ti (ti (ti (an e2778 (ti trivial))))) (an (decide_eq_true h2779) (an (ti (ti (ti trivial))) trivial)))))) (ti trivial))
   ·have h2 := ih _ _ h
    obtain ⟨q, hv, hq⟩ := pkR (rd := none) (P := Try.prog) (fn := Try.f22) (k := 0) (s := (nfigure_firstDug_l0_0_h a0 a1 x10)) (ans := [.reg (.n :: []), .br true, .reg (.n :: .n :: []), .reg (nN 3 (.call (vi r2776) :: .n :: [])), .br false, .reg (.n :: .n :: [])]) (c := ⟨[(2, none), (3, none), (9, none), (10, none)], [none, none], []⟩) (e := .normal) (s1 := (nfigure_firstDug_l0_0_h a0 a1 (w64 (x10 + 1)))) (an (an (ti trivial) (an (an (decide_eq_true h2775) trivial) (an (an (ti (ti trivial)) (an (ti (ti (ti (an e2778 (ti trivial))))) (an (decide_eq_false h2779) trivial))) (ti (ti trivial))))) (ti trivial)) (by kernel_rfl)
    cases r with
    | inl r => exact round_next pm pn hv hq h2
    | inr r =>
     exact round_next pm pn hv hq h2
  ·injection h with h; subst h
   exact round_stop (c := ⟨[], [], []⟩) (s1 := (nfigure_firstDug_l0_0_e1 a0 a1 ())) pm pn (ans := [.reg (.n :: []), .br false]) (by kernel_rfl) (by intro e; cases e) (an (an (ti trivial) (an (decide_eq_false h2775) trivial)) (ti trivial))
def nfigure_firstDug (k : Nat) (a0 : SRemovalMap) (a1 : SLowerLine) : Option (Int × Bool) :=
 (nfigure_firstDug_l0_0 k a0 a1 k 0).bind fun r2781 => (match r2781 with | .inl r2782 => (some (r2782, true)) | .inr r2783 => (some (0, false)))
theorem nfigure_firstDug_ok (k : Nat) (a0 : SRemovalMap) (a1 : SLowerLine) (r : (Int × Bool)) (h : nfigure_firstDug k a0 a1 = some r) : VC Try.prog 22 [VV.ag (c_SRemovalMap a0), VV.ag (c_SLowerLine a1)] (VV.tu [vi r.1, vb r.2]) := by
 unfold nfigure_firstDug at h
 obtain ⟨r2781, h2780, h⟩ := bs h
 have hph2780 := nfigure_firstDug_l0_0_ok k a0 a1 _ _ _ h2780
 cases r2781 with
 | inl r2782 =>
  dsimp only at h
  have e2784 := (an (ti trivial) (VRun.loop hph2780))
  injection h with h; subst h
  exact fun_ok pm pn Try.func22 (r0 := VV.tu [vi r2782, vb true]) (ans := [.reg (nN 4 []), .reg (nN 4 []), .sub ⟨[(2, none), (3, none), (9, none), (10, none)], [none, none], []⟩ .ret (nfigure_firstDug_l0_0_e0 a0 a1 r2782)]) (fr := true) (by kernel_rfl) (an (an (ti (ti (ti (ti trivial)))) (an (ti (ti (ti (ti trivial)))) e2784)) (ti (ti trivial))) (Wv.refl _)
 | inr r2783 =>
  dsimp only at h
  have e2785 := (an (ti trivial) (VRun.loop hph2780))
  injection h with h; subst h
  exact fun_ok pm pn Try.func22 (r0 := VV.tu [vi 0, vb false]) (ans := [.reg (nN 4 []), .reg (nN 4 []), .sub ⟨[(2, none), (3, none), (9, none), (10, none)], [none, none], []⟩ (.exit 0) (nfigure_firstDug_l0_0_e1 a0 a1 r2783), .reg (.n :: .n :: [])]) (fr := true) (by kernel_rfl) (an (an (ti (ti (ti (ti trivial)))) (an (an (ti (ti (ti (ti trivial)))) e2785) (an (ti (ti trivial)) trivial))) (ti (ti trivial))) (Wv.refl _)
def arLG_10 (z0 : SRemovalMap) (z1 : Int × Int) : List Ans := (nN 4 (.v (vi (z0.Q.getD z1.1.toNat 0)) :: nN 4 (.v (vi (z0.Q.getD z1.2.toNat 0)) :: .n :: .n :: nS 5 (.b true :: []))))
def arLG_11 (z0 : SRemovalMap) (z1 : Int × Int) (z2 : Bool) : List Ans := (nN 4 (.v (vi (z0.Q.getD z1.1.toNat 0)) :: nN 4 (.v (vi (z0.Q.getD z1.2.toNat 0)) :: nN 5 (.call (vb z2) :: .n :: .b false :: []))))
def nslices_Min_int_int__l0_0_h (a0 : (List Int)) (x3 : Int) (x4 : Int) : VS := ⟨mkA [(0, VV.tr (List.map vi a0) a0.length), (3, vi x3), (4, vi x4)], [], .nil⟩
def nslices_Min_int_int__l0_0_e0 (a0 : (List Int)) (r : Int) : VS := ⟨mkA [(3, vi r)], [], .nil⟩
def nslices_Min_int_int__l0_0 (k : Nat) (a0 : (List Int)) : Nat -> Int -> Int -> Option (Int)
 | 0, _, _ => none
 | fuel + 1, x3, x4 => if x4 < (a0.length : Int) then (if 0 <= x4 /\ x4 < (a0.length : Int) then (nslices_Min_int_int__l0_0 k a0 fuel (minI x3 (a0.getD x4.toNat 0)) (w64 (x4 + 1))) else none) else (some x3)
theorem nslices_Min_int_int__l0_0_ok (k : Nat) (a0 : (List Int)) : ∀ (fuel : Nat) (x3 : Int) (x4 : Int) (r : Int), nslices_Min_int_int__l0_0 k a0 fuel x3 x4 = some r -> (VLoop none Try.prog (szF Try.f41) (bodyOf Try.f41 0) (nslices_Min_int_int__l0_0_h a0 x3 x4) (.exit 0) (nslices_Min_int_int__l0_0_e0 a0 r)) := by
 intro fuel
 induction fuel with
 | zero => intro x3 x4 r h; rw [nslices_Min_int_int__l0_0.eq_1] at h; cases h
 | succ fuel ih =>
  intro x3 x4 r h
  rw [nslices_Min_int_int__l0_0.eq_2] at h
  rcases ifs h with ⟨h2864, h⟩ | ⟨h2864, h⟩
  ·obtain ⟨h2865, h⟩ := ifn h
   have e2866 := (show loadL Try.prog 3 (x4.toNat * 1) (List.map vi a0) = some (vi (a0.getD x4.toNat 0)) from ld_map ag3 vi a0 0 h2865 (by omega))
   have e2867 := (ti (ti (ti (an h2865 (an e2866 (ti (ti trivial)))))))
   have h2 := ih _ _ _ h
   obtain ⟨q, hv, hq⟩ := pkR (rd := none) (P := Try.prog) (fn := Try.f41) (k := 0) (s := (nslices_Min_int_int__l0_0_h a0 x3 x4)) (ans := [.reg (nN 4 []), .br true, .reg (nN 4 (.v (vi (a0.getD x4.toNat 0)) :: .n :: .n :: [])), .reg (nN 3 [])]) (c := ⟨[(0, none), (3, none), (4, none)], [], []⟩) (e := .normal) (s1 := (nslices_Min_int_int__l0_0_h a0 (minI x3 (a0.getD x4.toNat 0)) (w64 (x4 + 1)))) (an (an (an (ti (ti (ti (ti trivial)))) (an (decide_eq_true h2864) trivial)) (an e2867 (ti (ti (ti trivial))))) (ti trivial)) (by kernel_rfl)
   exact round_next pm pn hv hq h2
  ·injection h with h; subst h
   exact round_stop (c := ⟨[(3, none)], [], []⟩) (s1 := (nslices_Min_int_int__l0_0_e0 a0 x3)) pm pn (ans := [.reg (nN 4 []), .br false]) (by kernel_rfl) (by intro e; cases e) (an (an (ti (ti (ti (ti trivial)))) (an (decide_eq_false h2864) trivial)) (ti trivial))
def nslices_Min_int_int_ (k : Nat) (a0 : (List Int)) : Option Int :=
 if (a0.length : Int) < 1 then none else (if (0 : Int) <= 0 /\ 0 < (a0.length : Int) then ((nslices_Min_int_int__l0_0 k a0 k (a0.getD ((0 : Int)).toNat 0) 1).bind fun r2869 => (some r2869)) else none)
theorem nslices_Min_int_int__ok (k : Nat) (a0 : (List Int)) (r : Int) (h : nslices_Min_int_int_ k a0 = some r) : VC Try.prog 41 [VV.tr (List.map vi a0) a0.length] (vi r) := by
 unfold nslices_Min_int_int_ at h
 rcases ifs h with ⟨h2853, h⟩ | ⟨h2853, h⟩
 ·cases h
 ·obtain ⟨h2854, h⟩ := ifn h
  have e2855 := (show loadL Try.prog 3 (((0 : Int)).toNat * 1) (List.map vi a0) = some (vi (a0.getD ((0 : Int)).toNat 0)) from ld_map ag3 vi a0 0 h2854 (by omega))
  obtain ⟨r2869, h2868, h⟩ := bs h
  have hph2868 := nslices_Min_int_int__l0_0_ok k a0 _ _ _ _ h2868
  have e2870 := (an (ti trivial) (VRun.loop hph2868))
  injection h with h; subst h
  exact fun_ok pm pn Try.func41 (r0 := vi r2869) (ans := [.reg (.n :: []), .reg (nN 3 []), .br false, .reg (.n :: .n :: .v (vi (a0.getD ((0 : Int)).toNat 0)) :: .n :: []), .reg (.n :: []), .sub ⟨[(0, none), (3, none), (4, none)], [], []⟩ (.exit 0) (nslices_Min_int_int__l0_0_e0 a0 r2869), .reg (.n :: .n :: [])]) (fr := true) (by kernel_rfl) (an (an (ti trivial) (an (an (ti (ti (ti trivial))) (an (decide_eq_false h2853) trivial)) (an (ti (an h2854 (an e2855 (ti trivial)))) (an (an (ti trivial) e2870) (an (ti (ti trivial)) trivial))))) (ti trivial)) (Wv.refl _)
def nfigure_reference_r0 (k : Nat) (a0 : SRemovalMap) (r2887 : Int) : List (Int × Int) -> Int -> Int -> Int -> Int -> Int -> Int -> Option (Sum (Int × Int × Int × Int × Int × Int) (Int × Int × Int × Int × Int × Int))
 | [], b1_0, b1_1, b1_2, b1_3, b1_4, b1_5 => some (.inl (b1_0, b1_1, b1_2, b1_3, b1_4, b1_5))
 | x :: xs, b1_0, b1_1, b1_2, b1_3, b1_4, b1_5 => if 0 <= x.1 /\ x.1 < (a0.Q.length : Int) then (if 0 <= x.2 /\ x.2 < (a0.Q.length : Int) then (if (a0.Q.getD x.1.toNat 0) = (a0.Q.getD x.2.toNat 0) then (nfigure_reference_r0 k a0 r2887 xs b1_0 b1_1 b1_2 b1_3 b1_4 b1_5) else ((nfigure_areAround k a0 x.1 x.2).bind fun r2934 => (if r2934 = true then ((nfigure_through k a0 x.1 x.2).bind fun r2939 => ((nfigure_firstDug k a0 r2939).bind fun r2942 => (if r2942.2 = true then (nfigure_reference_r0 k a0 r2887 xs b1_0 b1_1 b1_2 b1_3 b1_4 b1_5) else (some (.inr (r2939.Start.Num, r2939.Start.Den, r2939.Slope.Num, r2939.Slope.Den, r2939.Touch.e0, r2939.Touch.e1)))))) else (nfigure_reference_r0 k a0 r2887 xs b1_0 b1_1 b1_2 b1_3 b1_4 b1_5)))) else none) else none
theorem nfigure_reference_r0_ok (k : Nat) (a0 : SRemovalMap) (r2887 : Int) : ∀ (xs : List (Int × Int)) (b1_0 : Int) (b1_1 : Int) (b1_2 : Int) (b1_3 : Int) (b1_4 : Int) (b1_5 : Int) (r : Sum (Int × Int × Int × Int × Int × Int) (Int × Int × Int × Int × Int × Int)), nfigure_reference_r0 k a0 r2887 xs b1_0 b1_1 b1_2 b1_3 b1_4 b1_5 = some r -> (match r with | .inl r => VRange Try.prog (szF Try.f20) (.tmp 12) [13, 14] (rAssign Try.f20 0) (rBody Try.f20 0) (xs.map encP) ⟨mkA [(1, VV.pt 0 0), (2, VV.pt 1 0), (12, VV.fn 53 [VV.tp [vi r2887] 0])], [some ⟨true, 1, c_SRemovalMap a0⟩, some ⟨true, 1, [vi b1_0, vi b1_1, vi b1_2, vi b1_3, vi b1_4, vi b1_5]⟩], .nil⟩ .normal ⟨mkA [(1, VV.pt 0 0), (2, VV.pt 1 0), (12, VV.fn 53 [VV.tp [vi r2887] 0])], [some ⟨true, 1, c_SRemovalMap a0⟩, some ⟨true, 1, [vi r.1, vi r.2.1, vi r.2.2.1, vi r.2.2.2.1, vi r.2.2.2.2.1, vi r.2.2.2.2.2]⟩], .nil⟩ | .inr r => VRange Try.prog (szF Try.f20) (.tmp 12) [13, 14] (rAssign Try.f20 0) (rBody Try.f20 0) (xs.map encP) ⟨mkA [(1, VV.pt 0 0), (2, VV.pt 1 0), (12, VV.fn 53 [VV.tp [vi r2887] 0])], [some ⟨true, 1, c_SRemovalMap a0⟩, some ⟨true, 1, [vi b1_0, vi b1_1, vi b1_2, vi b1_3, vi b1_4, vi b1_5]⟩], .nil⟩ .ret ⟨mkA [(1, VV.pt 0 0), (2, VV.pt 1 0), (12, VV.fn 53 [VV.tp [vi r2887] 0])], [some ⟨true, 1, c_SRemovalMap a0⟩, some ⟨true, 1, [vi r.1, vi r.2.1, vi r.2.2.1, vi r.2.2.2.1, vi r.2.2.2.2.1, vi r.2.2.2.2.2]⟩], .nil⟩) := by
 intro xs
 induction xs with
 | nil => intro b1_0 b1_1 b1_2 b1_3 b1_4 b1_5 r h; rw [nfigure_reference_r0.eq_1] at h; injection h with h; subst h; exact .nil
 | cons x xs ih =>
  intro b1_0 b1_1 b1_2 b1_3 b1_4 b1_5 r h
  rw [nfigure_reference_r0.eq_2] at h
  obtain ⟨h2928, h⟩ := ifn h
  have e2929 := (show loadL Try.prog 3 (x.1.toNat * 1) (List.map vi a0.Q) = some (vi (a0.Q.getD x.1.toNat 0)) from ld_map ag3 vi a0.Q 0 h2928 (by omega))
  obtain ⟨h2930, h⟩ := ifn h
  have e2931 := (show loadL Try.prog 3 (x.2.toNat * 1) (List.map vi a0.Q) = some (vi (a0.Q.getD x.2.toNat 0)) from ld_map ag3 vi a0.Q 0 h2930 (by omega))
  rcases ifs h with ⟨h2932, h⟩ | ⟨h2932, h⟩
  ·have e2933 := (ti (ti (ti (an h2928 (an e2929 (ti (ti (ti (an h2930 (an e2931 (ti (ti (an (decide_eq_true h2932) (an (decide_eq_true h2932) (an (decide_eq_true h2932) (an (decide_eq_true h2932) (an (decide_eq_true h2932) (an (decide_eq_true h2932) trivial))))))))))))))))))
   have h2 := ih _ _ _ _ _ _ _ h
   have hr := rd_all (P := Try.prog) (sz := szF Try.f20) (assign := rAssign Try.f20 0) (body := rBody Try.f20 0) (s := (⟨mkA [(1, VV.pt 0 0), (2, VV.pt 1 0), (12, VV.fn 53 [VV.tp [vi r2887] 0])], [some ⟨true, 1, c_SRemovalMap a0⟩, some ⟨true, 1, [vi b1_0, vi b1_1, vi b1_2, vi b1_3, vi b1_4, vi b1_5]⟩], .nil⟩ : VS)) (ps := [13, 14]) (x := (encP x)) (sa := (stOf Try.prog (szF Try.f20) (rAssign Try.f20 0) [.reg (.n :: []), .reg (.n :: [])] (VS.enter (⟨mkA [(1, VV.pt 0 0), (2, VV.pt 1 0), (12, VV.fn 53 [VV.tp [vi r2887] 0])], [some ⟨true, 1, c_SRemovalMap a0⟩, some ⟨true, 1, [vi b1_0, vi b1_1, vi b1_2, vi b1_3, vi b1_4, vi b1_5]⟩], .nil⟩ : VS) [13, 14] (encP x)))) (s1 := stOf Try.prog (szF Try.f20) (rBody Try.f20 0) [.reg (arLG_10 a0 x), .br true] (stOf Try.prog (szF Try.f20) (rAssign Try.f20 0) [.reg (.n :: []), .reg (.n :: [])] (VS.enter (⟨mkA [(1, VV.pt 0 0), (2, VV.pt 1 0), (12, VV.fn 53 [VV.tp [vi r2887] 0])], [some ⟨true, 1, c_SRemovalMap a0⟩, some ⟨true, 1, [vi b1_0, vi b1_1, vi b1_2, vi b1_3, vi b1_4, vi b1_5]⟩], .nil⟩ : VS) [13, 14] (encP x)))) (s2 := ⟨.nil, [some ⟨true, 1, c_SRemovalMap a0⟩, some ⟨true, 1, [vi b1_0, vi b1_1, vi b1_2, vi b1_3, vi b1_4, vi b1_5]⟩], (mkA [(1, VV.pt 0 0), (2, VV.pt 1 0), (12, VV.fn 53 [VV.tp [vi r2887] 0])])⟩) (a1 := [.reg (.n :: []), .reg (.n :: [])]) (a2 := [.reg (arLG_10 a0 x), .br true]) (c := ⟨[], [none, none], []⟩) (e := .normal) (q1 := (((True) /\ True) /\ ((True) /\ True))) (q2 := fun l => (((True) /\ (True) /\ (True) /\ (0 <= x.1 /\ x.1 < ((a0.Q.length : Nat) : Int)) /\ (loadL Try.prog 3 (x.1.toNat * 1) (List.map vi a0.Q) = some (vi (a0.Q.getD x.1.toNat 0))) /\ (True) /\ (True) /\ (True) /\ (0 <= x.2 /\ x.2 < ((a0.Q.length : Nat) : Int)) /\ (loadL Try.prog 3 (x.2.toNat * 1) (List.map vi a0.Q) = some (vi (a0.Q.getD x.2.toNat 0))) /\ (True) /\ (True) /\ ((decide ((a0.Q.getD x.1.toNat 0) = (a0.Q.getD x.2.toNat 0))) = !false) /\ ((decide ((a0.Q.getD x.1.toNat 0) = (a0.Q.getD x.2.toNat 0))) = !false) /\ ((decide ((a0.Q.getD x.1.toNat 0) = (a0.Q.getD x.2.toNat 0))) = !false) /\ ((decide ((a0.Q.getD x.1.toNat 0) = (a0.Q.getD x.2.toNat 0))) = !false) /\ ((decide ((a0.Q.getD x.1.toNat 0) = (a0.Q.getD x.2.toNat 0))) = !false) /\ ((decide ((a0.Q.getD x.1.toNat 0) = (a0.Q.getD x.2.toNat 0))) = true) /\ True) /\ ((true = true) /\ (True)))) (p := ((True) /\ ((True)))) pm pn (fun l => by kernel_rfl) (an (ti trivial) (ti trivial)) (fun l => by kernel_rfl) (fun l => (an e2933 (an rt trivial))) (by kernel_rfl) ⟨trivial, trivial⟩
   cases r with
   | inl r =>
    exact VRange.next (by kernel_rfl) rfl hr.1 hr.2 (by kernel_rfl) h2
   | inr r =>
    exact VRange.next (by kernel_rfl) rfl hr.1 hr.2 (by kernel_rfl) h2
  ·obtain ⟨r2934, h2935, h⟩ := bs h
   have e2936 := (an (decide_eq_false h2932) (nfigure_areAround_ok k a0 x.1 x.2 _ h2935))
   have e2937 := (ti (ti (ti (an h2928 (an e2929 (ti (ti (ti (an h2930 (an e2931 (ti (ti (an (an (decide_eq_false h2932) trivial) (an (an (decide_eq_false h2932) trivial) (an (an (decide_eq_false h2932) trivial) (an e2936 (an (an (decide_eq_false h2932) trivial) (an (decide_eq_false h2932) trivial))))))))))))))))))
   rcases ifs h with ⟨h2938, h⟩ | ⟨h2938, h⟩
   ·obtain ⟨r2939, h2940, h⟩ := bs h
    have e2941 := (nfigure_through_ok k a0 x.1 x.2 _ h2940)
    obtain ⟨r2942, h2943, h⟩ := bs h
    have e2944 := (nfigure_firstDug_ok k a0 r2939 _ h2943)
    have e2945 := (ti (ti (an e2944 (ti (ti (ti (ti (ti trivial))))))))
    rcases ifs h with ⟨h2946, h⟩ | ⟨h2946, h⟩
    ·have h2 := ih _ _ _ _ _ _ _ h
     have hr := rd_all (P := Try.prog) (sz := szF Try.f20) (assign := rAssign Try.f20 0) (body := rBody Try.f20 0) (s := (⟨mkA [(1, VV.pt 0 0), (2, VV.pt 1 0), (12, VV.fn 53 [VV.tp [vi r2887] 0])], [some ⟨true, 1, c_SRemovalMap a0⟩, some ⟨true, 1, [vi b1_0, vi b1_1, vi b1_2, vi b1_3, vi b1_4, vi b1_5]⟩], .nil⟩ : VS)) (ps := [13, 14]) (x := (encP x)) (sa := (stOf Try.prog (szF Try.f20) (rAssign Try.f20 0) [.reg (.n :: []), .reg (.n :: [])] (VS.enter (⟨mkA [(1, VV.pt 0 0), (2, VV.pt 1 0), (12, VV.fn 53 [VV.tp [vi r2887] 0])], [some ⟨true, 1, c_SRemovalMap a0⟩, some ⟨true, 1, [vi b1_0, vi b1_1, vi b1_2, vi b1_3, vi b1_4, vi b1_5]⟩], .nil⟩ : VS) [13, 14] (encP x)))) (s1 := stOf Try.prog (szF Try.f20) (rBody Try.f20 0) [.reg (arLG_11 a0 x r2934), .br false, .reg (nN 3 (.call (VV.ag (c_SLowerLine r2939)) :: .n :: .n :: [])), .reg (.n :: .n :: .call (VV.tu [vi r2942.1, vb r2942.2]) :: nN 5 []), .reg (.n :: .n :: []), .br false] (stOf Try.prog (szF Try.f20) (rAssign Try.f20 0) [.reg (.n :: []), .reg (.n :: [])] (VS.enter (⟨mkA [(1, VV.pt 0 0), (2, VV.pt 1 0), (12, VV.fn 53 [VV.tp [vi r2887] 0])], [some ⟨true, 1, c_SRemovalMap a0⟩, some ⟨true, 1, [vi b1_0, vi b1_1, vi b1_2, vi b1_3, vi b1_4, vi b1_5]⟩], .nil⟩ : VS) [13, 14] (encP x)))) (s2 := ⟨.nil, [some ⟨true, 1, c_SRemovalMap a0⟩, some ⟨true, 1, [vi b1_0, vi b1_1, vi b1_2, vi b1_3, vi b1_4, vi b1_5]⟩], (mkA [(1, VV.pt 0 0), (2, VV.pt 1 0), (12, VV.fn 53 [VV.tp [vi r2887] 0])])⟩) (a1 := [.reg (.n :: []), .reg (.n :: [])]) (a2 := [.reg (arLG_11 a0 x r2934), .br false, .reg (nN 3 (.call (VV.ag (c_SLowerLine r2939)) :: .n :: .n :: [])), .reg (.n :: .n :: .call (VV.tu [vi r2942.1, vb r2942.2]) :: nN 5 []), .reg (.n :: .n :: []), .br false]) (c := ⟨[], [none, none], []⟩) (e := .normal) (q1 := (((True) /\ True) /\ ((True) /\ True))) (q2 := fun l => ((((True) /\ (True) /\ (True) /\ (0 <= x.1 /\ x.1 < ((a0.Q.length : Nat) : Int)) /\ (loadL Try.prog 3 (x.1.toNat * 1) (List.map vi a0.Q) = some (vi (a0.Q.getD x.1.toNat 0))) /\ (True) /\ (True) /\ (True) /\ (0 <= x.2 /\ x.2 < ((a0.Q.length : Nat) : Int)) /\ (loadL Try.prog 3 (x.2.toNat * 1) (List.map vi a0.Q) = some (vi (a0.Q.getD x.2.toNat 0))) /\ (True) /\ (True) /\ (((decide ((a0.Q.getD x.1.toNat 0) = (a0.Q.getD x.2.toNat 0))) = false /\ True)) /\ (((decide ((a0.Q.getD x.1.toNat 0) = (a0.Q.getD x.2.toNat 0))) = false /\ True)) /\ (((decide ((a0.Q.getD x.1.toNat 0) = (a0.Q.getD x.2.toNat 0))) = false /\ True)) /\ (((decide ((a0.Q.getD x.1.toNat 0) = (a0.Q.getD x.2.toNat 0))) = false /\ VC Try.prog 25 [VV.ag (c_SRemovalMap a0), vi x.1, vi x.2] (vb r2934))) /\ (((decide ((a0.Q.getD x.1.toNat 0) = (a0.Q.getD x.2.toNat 0))) = false /\ True)) /\ ((decide ((a0.Q.getD x.1.toNat 0) = (a0.Q.getD x.2.toNat 0))) = false) /\ True) /\ (((!r2934) = false) /\ (True))) /\ (((True) /\ (True) /\ (True) /\ (VC Try.prog 39 [VV.ag (c_SRemovalMap a0), vi x.1, vi x.2] (VV.ag (c_SLowerLine r2939))) /\ (True) /\ (True) /\ True) /\ (((True) /\ (True) /\ (VC Try.prog 22 [VV.ag (c_SRemovalMap a0), VV.ag (c_SLowerLine r2939)] (VV.tu [vi r2942.1, vb r2942.2])) /\ (True) /\ (True) /\ (True) /\ (True) /\ (True) /\ True) /\ (((True) /\ (True) /\ True) /\ (((!r2942.2) = false) /\ (True))))))) (p := ((True) /\ ((True)))) pm pn (fun l => by kernel_rfl) (an (ti trivial) (ti trivial)) (fun l => by kernel_rfl) (fun l => (an (an e2937 (an (not_f h2938) trivial)) (an (ti (ti (ti (an e2941 (ti (ti trivial)))))) (an e2945 (an (ti (ti trivial)) (an (not_f h2946) trivial)))))) (by kernel_rfl) ⟨trivial, trivial⟩
     cases r with
     | inl r =>
      exact VRange.next (by kernel_rfl) rfl hr.1 hr.2 (by kernel_rfl) h2
     | inr r =>
      exact VRange.next (by kernel_rfl) rfl hr.1 hr.2 (by kernel_rfl) h2
    ·injection h with h; subst h
     have hr := rd_all (P := Try.prog) (sz := szF Try.f20) (assign := rAssign Try.f20 0) (body := rBody Try.f20 0) (s := (⟨mkA [(1, VV.pt 0 0), (2, VV.pt 1 0), (12, VV.fn 53 [VV.tp [vi r2887] 0])], [some ⟨true, 1, c_SRemovalMap a0⟩, some ⟨true, 1, [vi b1_0, vi b1_1, vi b1_2, vi b1_3, vi b1_4, vi b1_5]⟩], .nil⟩ : VS)) (ps := [13, 14]) (x := (encP x)) (sa := (stOf Try.prog (szF Try.f20) (rAssign Try.f20 0) [.reg (.n :: []), .reg (.n :: [])] (VS.enter (⟨mkA [(1, VV.pt 0 0), (2, VV.pt 1 0), (12, VV.fn 53 [VV.tp [vi r2887] 0])], [some ⟨true, 1, c_SRemovalMap a0⟩, some ⟨true, 1, [vi b1_0, vi b1_1, vi b1_2, vi b1_3, vi b1_4, vi b1_5]⟩], .nil⟩ : VS) [13, 14] (encP x)))) (s1 := stOf Try.prog (szF Try.f20) (rBody Try.f20 0) [.reg (arLG_11 a0 x r2934), .br false, .reg (nN 3 (.call (VV.ag (c_SLowerLine r2939)) :: .n :: .n :: [])), .reg (.n :: .n :: .call (VV.tu [vi r2942.1, vb r2942.2]) :: nN 5 []), .reg (.n :: .n :: []), .br true, .reg (.n :: .n :: [])] (stOf Try.prog (szF Try.f20) (rAssign Try.f20 0) [.reg (.n :: []), .reg (.n :: [])] (VS.enter (⟨mkA [(1, VV.pt 0 0), (2, VV.pt 1 0), (12, VV.fn 53 [VV.tp [vi r2887] 0])], [some ⟨true, 1, c_SRemovalMap a0⟩, some ⟨true, 1, [vi b1_0, vi b1_1, vi b1_2, vi b1_3, vi b1_4, vi b1_5]⟩], .nil⟩ : VS) [13, 14] (encP x)))) (s2 := ⟨.nil, [some ⟨true, 1, c_SRemovalMap a0⟩, some ⟨true, 1, c_SLowerLine r2939⟩], (mkA [(1, VV.pt 0 0), (2, VV.pt 1 0), (12, VV.fn 53 [VV.tp [vi r2887] 0])])⟩) (a1 := [.reg (.n :: []), .reg (.n :: [])]) (a2 := [.reg (arLG_11 a0 x r2934), .br false, .reg (nN 3 (.call (VV.ag (c_SLowerLine r2939)) :: .n :: .n :: [])), .reg (.n :: .n :: .call (VV.tu [vi r2942.1, vb r2942.2]) :: nN 5 []), .reg (.n :: .n :: []), .br true, .reg (.n :: .n :: [])]) (c := ⟨[], [none, none], []⟩) (e := .ret) (q1 := (((True) /\ True) /\ ((True) /\ True))) (q2 := fun l => ((((True) /\ (True) /\ (True) /\ (0 <= x.1 /\ x.1 < ((a0.Q.length : Nat) : Int)) /\ (loadL Try.prog 3 (x.1.toNat * 1) (List.map vi a0.Q) = some (vi (a0.Q.getD x.1.toNat 0))) /\ (True) /\ (True) /\ (True) /\ (0 <= x.2 /\ x.2 < ((a0.Q.length : Nat) : Int)) /\ (loadL Try.prog 3 (x.2.toNat * 1) (List.map vi a0.Q) = some (vi (a0.Q.getD x.2.toNat 0))) /\ (True) /\ (True) /\ (((decide ((a0.Q.getD x.1.toNat 0) = (a0.Q.getD x.2.toNat 0))) = false /\ True)) /\ (((decide ((a0.Q.getD x.1.toNat 0) = (a0.Q.getD x.2.toNat 0))) = false /\ True)) /\ (((decide ((a0.Q.getD x.1.toNat 0) = (a0.Q.getD x.2.toNat 0))) = false /\ True)) /\ (((decide ((a0.Q.getD x.1.toNat 0) = (a0.Q.getD x.2.toNat 0))) = false /\ VC Try.prog 25 [VV.ag (c_SRemovalMap a0), vi x.1, vi x.2] (vb r2934))) /\ (((decide ((a0.Q.getD x.1.toNat 0) = (a0.Q.getD x.2.toNat 0))) = false /\ True)) /\ ((decide ((a0.Q.getD x.1.toNat 0) = (a0.Q.getD x.2.toNat 0))) = false) /\ True) /\ (((!r2934) = false) /\ (True))) /\ (((True) /\ (True) /\ (True) /\ (VC Try.prog 39 [VV.ag (c_SRemovalMap a0), vi x.1, vi x.2] (VV.ag (c_SLowerLine r2939))) /\ (True) /\ (True) /\ True) /\ (((True) /\ (True) /\ (VC Try.prog 22 [VV.ag (c_SRemovalMap a0), VV.ag (c_SLowerLine r2939)] (VV.tu [vi r2942.1, vb r2942.2])) /\ (True) /\ (True) /\ (True) /\ (True) /\ (True) /\ True) /\ (((True) /\ (True) /\ True) /\ (((!r2942.2) = true) /\ (((True) /\ (True) /\ True) /\ (True)))))))) (p := ((True) /\ ((True)))) pm pn (fun l => by kernel_rfl) (an (ti trivial) (ti trivial)) (fun l => by kernel_rfl) (fun l => (an (an e2937 (an (not_f h2938) trivial)) (an (ti (ti (ti (an e2941 (ti (ti trivial)))))) (an e2945 (an (ti (ti trivial)) (an (not_t (bool_f h2946)) (an (ti (ti trivial)) trivial))))))) (by kernel_rfl) ⟨trivial, trivial⟩
     exact VRange.ret (by kernel_rfl) rfl hr.1 hr.2
   ·have h2 := ih _ _ _ _ _ _ _ h
    have hr := rd_all (P := Try.prog) (sz := szF Try.f20) (assign := rAssign Try.f20 0) (body := rBody Try.f20 0) (s := (⟨mkA [(1, VV.pt 0 0), (2, VV.pt 1 0), (12, VV.fn 53 [VV.tp [vi r2887] 0])], [some ⟨true, 1, c_SRemovalMap a0⟩, some ⟨true, 1, [vi b1_0, vi b1_1, vi b1_2, vi b1_3, vi b1_4, vi b1_5]⟩], .nil⟩ : VS)) (ps := [13, 14]) (x := (encP x)) (sa := (stOf Try.prog (szF Try.f20) (rAssign Try.f20 0) [.reg (.n :: []), .reg (.n :: [])] (VS.enter (⟨mkA [(1, VV.pt 0 0), (2, VV.pt 1 0), (12, VV.fn 53 [VV.tp [vi r2887] 0])], [some ⟨true, 1, c_SRemovalMap a0⟩, some ⟨true, 1, [vi b1_0, vi b1_1, vi b1_2, vi b1_3, vi b1_4, vi b1_5]⟩], .nil⟩ : VS) [13, 14] (encP x)))) (s1 := stOf Try.prog (szF Try.f20) (rBody Try.f20 0) [.reg (arLG_11 a0 x r2934), .br true] (stOf Try.prog (szF Try.f20) (rAssign Try.f20 0) [.reg (.n :: []), .reg (.n :: [])] (VS.enter (⟨mkA [(1, VV.pt 0 0), (2, VV.pt 1 0), (12, VV.fn 53 [VV.tp [vi r2887] 0])], [some ⟨true, 1, c_SRemovalMap a0⟩, some ⟨true, 1, [vi b1_0, vi b1_1, vi b1_2, vi b1_3, vi b1_4, vi b1_5]⟩], .nil⟩ : VS) [13, 14] (encP x)))) (s2 := ⟨.nil, [some ⟨true, 1, c_SRemovalMap a0⟩, some ⟨true, 1, [vi b1_0, vi b1_1, vi b1_2, vi b1_3, vi b1_4, vi b1_5]⟩], (mkA [(1, VV.pt 0 0), (2, VV.pt 1 0), (12, VV.fn 53 [VV.tp [vi r2887] 0])])⟩) (a1 := [.reg (.n :: []), .reg (.n :: [])]) (a2 := [.reg (arLG_11 a0 x r2934), .br true]) (c := ⟨[], [none, none], []⟩) (e := .normal) (q1 := (((True) /\ True) /\ ((True) /\ True))) (q2 := fun l => (((True) /\ (True) /\ (True) /\ (0 <= x.1 /\ x.1 < ((a0.Q.length : Nat) : Int)) /\ (loadL Try.prog 3 (x.1.toNat * 1) (List.map vi a0.Q) = some (vi (a0.Q.getD x.1.toNat 0))) /\ (True) /\ (True) /\ (True) /\ (0 <= x.2 /\ x.2 < ((a0.Q.length : Nat) : Int)) /\ (loadL Try.prog 3 (x.2.toNat * 1) (List.map vi a0.Q) = some (vi (a0.Q.getD x.2.toNat 0))) /\ (True) /\ (True) /\ (((decide ((a0.Q.getD x.1.toNat 0) = (a0.Q.getD x.2.toNat 0))) = false /\ True)) /\ (((decide ((a0.Q.getD x.1.toNat 0) = (a0.Q.getD x.2.toNat 0))) = false /\ True)) /\ (((decide ((a0.Q.getD x.1.toNat 0) = (a0.Q.getD x.2.toNat 0))) = false /\ True)) /\ (((decide ((a0.Q.getD x.1.toNat 0) = (a0.Q.getD x.2.toNat 0))) = false /\ VC Try.prog 25 [VV.ag (c_SRemovalMap a0), vi x.1, vi x.2] (vb r2934))) /\ (((decide ((a0.Q.getD x.1.toNat 0) = (a0.Q.getD x.2.toNat 0))) = false /\ True)) /\ ((decide ((a0.Q.getD x.1.toNat 0) = (a0.Q.getD x.2.toNat 0))) = false) /\ True) /\ (((!r2934) = true) /\ (True)))) (p := ((True) /\ ((True)))) pm pn (fun l => by kernel_rfl) (an (ti trivial) (ti trivial)) (fun l => by kernel_rfl) (fun l => (an e2937 (an (not_t (bool_f h2938)) trivial))) (by kernel_rfl) ⟨trivial, trivial⟩
    cases r with
    | inl r =>
     exact VRange.next (by kernel_rfl) rfl hr.1 hr.2 (by kernel_rfl) h2
    | inr r =>
     exact VRange.next (by kernel_rfl) rfl hr.1 hr.2 (by kernel_rfl) h2
def arLG_12 (z0 : SRemovalMap) (z1 : Int) (z2 : SFrac) (z3 : SFrac) : List Ans := (nN 4 (.v (vi (z0.Heights.getD z1.toNat 0)) :: .call (VV.ag (c_SFrac z2)) :: .call (VV.ag (c_SFrac z3)) :: nN 5 []))
theorem eqLG_4 (z0 : SFrac) (z1 : SFrac) (z2 : Int) : VV.ag [vi z0.Num, vi z0.Den, vi z1.Num, vi z1.Den, vi z2, vi z2] = VV.ag [vi (((⟨z0, z1, (⟨z2, z2⟩ : A43)⟩ : SLowerLine).Start).Num), vi (((⟨z0, z1, (⟨z2, z2⟩ : A43)⟩ : SLowerLine).Start).Den), vi (((⟨z0, z1, (⟨z2, z2⟩ : A43)⟩ : SLowerLine).Slope).Num), vi (((⟨z0, z1, (⟨z2, z2⟩ : A43)⟩ : SLowerLine).Slope).Den), vi (((⟨z0, z1, (⟨z2, z2⟩ : A43)⟩ : SLowerLine).Touch).e0), vi (((⟨z0, z1, (⟨z2, z2⟩ : A43)⟩ : SLowerLine).Touch).e1)] := by first | rfl | (simp only [unfr_vi, map_cons, map_nil, un_i]; done) | (simp only [unfr_vi, map_cons, map_nil, un_i]; rfl) | (simp only [unfr_vi, map_cons, map_nil, un_i, length_cons, length_nil, length_append]; done)
theorem eqLG_5 (z0 : Int × Int × Int × Int × Int × Int) : VV.ag [vi z0.1, vi z0.2.1, vi z0.2.2.1, vi z0.2.2.2.1, vi z0.2.2.2.2.1, vi z0.2.2.2.2.2] = VV.ag [vi (((⟨(⟨z0.1, z0.2.1⟩ : SFrac), (⟨z0.2.2.1, z0.2.2.2.1⟩ : SFrac), (⟨z0.2.2.2.2.1, z0.2.2.2.2.2⟩ : A43)⟩ : SLowerLine).Start).Num), vi (((⟨(⟨z0.1, z0.2.1⟩ : SFrac), (⟨z0.2.2.1, z0.2.2.2.1⟩ : SFrac), (⟨z0.2.2.2.2.1, z0.2.2.2.2.2⟩ : A43)⟩ : SLowerLine).Start).Den), vi (((⟨(⟨z0.1, z0.2.1⟩ : SFrac), (⟨z0.2.2.1, z0.2.2.2.1⟩ : SFrac), (⟨z0.2.2.2.2.1, z0.2.2.2.2.2⟩ : A43)⟩ : SLowerLine).Slope).Num), vi (((⟨(⟨z0.1, z0.2.1⟩ : SFrac), (⟨z0.2.2.1, z0.2.2.2.1⟩ : SFrac), (⟨z0.2.2.2.2.1, z0.2.2.2.2.2⟩ : A43)⟩ : SLowerLine).Slope).Den), vi (((⟨(⟨z0.1, z0.2.1⟩ : SFrac), (⟨z0.2.2.1, z0.2.2.2.1⟩ : SFrac), (⟨z0.2.2.2.2.1, z0.2.2.2.2.2⟩ : A43)⟩ : SLowerLine).Touch).e0), vi (((⟨(⟨z0.1, z0.2.1⟩ : SFrac), (⟨z0.2.2.1, z0.2.2.2.1⟩ : SFrac), (⟨z0.2.2.2.2.1, z0.2.2.2.2.2⟩ : A43)⟩ : SLowerLine).Touch).e1)] := by first | rfl | (simp only [unfr_vi, map_cons, map_nil, un_i]; done) | (simp only [unfr_vi, map_cons, map_nil, un_i]; rfl) | (simp only [unfr_vi, map_cons, map_nil, un_i, length_cons, length_nil, length_append]; done)
def nfigure_reference (k : Nat) (a0 : SRemovalMap) : Option SLowerLine :=
 (nfigure_pairs k (a0.Heights.length : Int)).bind fun r2887 => (if r2887 <= 1000000000 then ((nfigure_reference_r0 k a0 r2887 (pairsL r2887) 0 0 0 0 0 0).bind fun r2949 => (match r2949 with | .inl r2950 => ((nslices_Min_int_int_ k a0.Heights).bind fun r2953 => ((nslices_Index_int_int_ k a0.Heights r2953).bind fun r2956 => (if 0 <= r2956 /\ r2956 < (a0.Heights.length : Int) then ((nfigure_lowest k (a0.Heights.getD r2956.toNat 0) 1).bind fun r2962 => ((nfigure_lowest k 0 1).bind fun r2965 => (some (⟨r2962, r2965, (⟨r2956, r2956⟩ : A43)⟩ : SLowerLine)))) else none))) | .inr r2951 => (some (⟨(⟨r2951.1, r2951.2.1⟩ : SFrac), (⟨r2951.2.2.1, r2951.2.2.2.1⟩ : SFrac), (⟨r2951.2.2.2.2.1, r2951.2.2.2.2.2⟩ : A43)⟩ : SLowerLine)))) else none)
theorem nfigure_reference_ok (k : Nat) (a0 : SRemovalMap) (r : SLowerLine) (h : nfigure_reference k a0 = some r) : VC Try.prog 20 [VV.ag (c_SRemovalMap a0)] (VV.ag (c_SLowerLine r)) := by
 unfold nfigure_reference at h
 obtain ⟨r2887, h2888, h⟩ := bs h
 have e2889 := (nfigure_pairs_ok k (a0.Heights.length : Int) _ h2888)
 obtain ⟨h2947, h⟩ := ifn h
 obtain ⟨r2949, h2948, h⟩ := bs h
 have hph2948 := nfigure_reference_r0_ok k a0 r2887 _ _ _ _ _ _ _ _ h2948
 cases r2949 with
 | inl r2950 =>
  dsimp only at h
  have e2952 : ((((True)) /\ ((True))) /\ VRun none Try.prog (szF Try.f20) (.rangeFunc (.tmp 12) #[13, 14] (rAssign Try.f20 0) (rBody Try.f20 0)) ⟨mkA [(1, VV.pt 0 0), (2, VV.pt 1 0), (12, VV.fn 53 [VV.tp [vi r2887] 0])], [some ⟨true, 1, c_SRemovalMap a0⟩, some ⟨true, 1, [vi 0, vi 0, vi 0, vi 0, vi 0, vi 0]⟩], .nil⟩ .normal ⟨mkA [(1, VV.pt 0 0), (2, VV.pt 1 0), (12, VV.fn 53 [VV.tp [vi r2887] 0])], [some ⟨true, 1, c_SRemovalMap a0⟩, some ⟨true, 1, [vi r2950.1, vi r2950.2.1, vi r2950.2.2.1, vi r2950.2.2.2.1, vi r2950.2.2.2.2.1, vi r2950.2.2.2.2.2]⟩], .nil⟩) := ⟨⟨trivial, trivial⟩, VRun.range pn rfl (by kernel_rfl) (it_pairs h2947) (by kernel_rfl) (of_decide_eq_true (by kernel_rfl)) (by decide) hph2948⟩
  obtain ⟨r2953, h2954, h⟩ := bs h
  have e2955 := (nslices_Min_int_int__ok k a0.Heights _ h2954)
  obtain ⟨r2956, h2957, h⟩ := bs h
  have e2958 := (nslices_Index_int_int__ok k a0.Heights r2953 _ h2957)
  have e2959 := (ti (ti (ti (ti (an e2955 (an e2958 (ti trivial)))))))
  obtain ⟨h2960, h⟩ := ifn h
  have e2961 := (show loadL Try.prog 3 (r2956.toNat * 1) (List.map vi a0.Heights) = some (vi (a0.Heights.getD r2956.toNat 0)) from ld_map ag3 vi a0.Heights 0 h2960 (by omega))
  obtain ⟨r2962, h2963, h⟩ := bs h
  have e2964 := (nfigure_lowest_ok k (a0.Heights.getD r2956.toNat 0) 1 _ h2963)
  obtain ⟨r2965, h2966, h⟩ := bs h
  have e2967 := (ti (ti (ti (an h2960 (an e2961 (an e2964 (an (nfigure_lowest_ok k 0 1 _ h2966) (ti (ti (ti (ti (ti trivial))))))))))))
  injection h with h; subst h
  exact fun_ok pm pn Try.func20 (r0 := VV.ag [vi r2962.Num, vi r2962.Den, vi r2965.Num, vi r2965.Den, vi r2956, vi r2956]) (ans := [.reg (.n :: .n :: []), .reg (nN 3 (.call (VV.fn 53 [VV.tp [vi r2887] 0]) :: [])), .sub ⟨[(1, none), (2, none), (12, none)], [none, none], []⟩ .normal ⟨mkA [(1, VV.pt 0 0), (2, VV.pt 1 0), (12, VV.fn 53 [VV.tp [vi r2887] 0])], [some ⟨true, 1, c_SRemovalMap a0⟩, some ⟨true, 1, [vi r2950.1, vi r2950.2.1, vi r2950.2.2.1, vi r2950.2.2.2.1, vi r2950.2.2.2.2.1, vi r2950.2.2.2.2.2]⟩], .nil⟩, .reg (nN 4 (.call (vi r2953) :: .call (vi r2956) :: .n :: [])), .reg (arLG_12 a0 r2956 r2962 r2965)]) (fr := true) (by kernel_rfl) (an (an (ti (ti trivial)) (an (an (ti (ti (ti (an e2889 trivial)))) e2952) (an e2959 (an e2967 trivial)))) (an (ti (ti (ti (ti (ti (ti (ti trivial))))))) trivial)) (Wv.of_eq (eqLG_4 r2962 r2965 r2956))
 | inr r2951 =>
  dsimp only at h
  have e2968 : ((((True)) /\ ((True))) /\ VRun none Try.prog (szF Try.f20) (.rangeFunc (.tmp 12) #[13, 14] (rAssign Try.f20 0) (rBody Try.f20 0)) ⟨mkA [(1, VV.pt 0 0), (2, VV.pt 1 0), (12, VV.fn 53 [VV.tp [vi r2887] 0])], [some ⟨true, 1, c_SRemovalMap a0⟩, some ⟨true, 1, [vi 0, vi 0, vi 0, vi 0, vi 0, vi 0]⟩], .nil⟩ .ret ⟨mkA [(1, VV.pt 0 0), (2, VV.pt 1 0), (12, VV.fn 53 [VV.tp [vi r2887] 0])], [some ⟨true, 1, c_SRemovalMap a0⟩, some ⟨true, 1, [vi r2951.1, vi r2951.2.1, vi r2951.2.2.1, vi r2951.2.2.2.1, vi r2951.2.2.2.2.1, vi r2951.2.2.2.2.2]⟩], .nil⟩) := ⟨⟨trivial, trivial⟩, VRun.range pn rfl (by kernel_rfl) (it_pairs h2947) (by kernel_rfl) (of_decide_eq_true (by kernel_rfl)) (by decide) hph2948⟩
  injection h with h; subst h
  exact fun_ok pm pn Try.func20 (r0 := VV.ag [vi r2951.1, vi r2951.2.1, vi r2951.2.2.1, vi r2951.2.2.2.1, vi r2951.2.2.2.2.1, vi r2951.2.2.2.2.2]) (ans := [.reg (.n :: .n :: []), .reg (nN 3 (.call (VV.fn 53 [VV.tp [vi r2887] 0]) :: [])), .sub ⟨[(1, none), (2, none), (12, none)], [none, none], []⟩ .ret ⟨mkA [(1, VV.pt 0 0), (2, VV.pt 1 0), (12, VV.fn 53 [VV.tp [vi r2887] 0])], [some ⟨true, 1, c_SRemovalMap a0⟩, some ⟨true, 1, [vi r2951.1, vi r2951.2.1, vi r2951.2.2.1, vi r2951.2.2.2.1, vi r2951.2.2.2.2.1, vi r2951.2.2.2.2.2]⟩], .nil⟩]) (fr := true) (by kernel_rfl) (an (an (ti (ti trivial)) (an (ti (ti (ti (an e2889 trivial)))) e2968)) (an (ti (ti (ti (ti (ti (ti (ti trivial))))))) trivial)) (Wv.of_eq (eqLG_5 r2951))
theorem eqLG_6 (z0 : Int) : VV.tu [VV.ag [vi 0, vi 0, vi 0, vi 0, vi 0, vi 0], vi z0] = VV.tu [VV.ag [vi (((⟨(⟨0, 0⟩ : SFrac), (⟨0, 0⟩ : SFrac), (⟨0, 0⟩ : A43)⟩ : SLowerLine).Start).Num), vi (((⟨(⟨0, 0⟩ : SFrac), (⟨0, 0⟩ : SFrac), (⟨0, 0⟩ : A43)⟩ : SLowerLine).Start).Den), vi (((⟨(⟨0, 0⟩ : SFrac), (⟨0, 0⟩ : SFrac), (⟨0, 0⟩ : A43)⟩ : SLowerLine).Slope).Num), vi (((⟨(⟨0, 0⟩ : SFrac), (⟨0, 0⟩ : SFrac), (⟨0, 0⟩ : A43)⟩ : SLowerLine).Slope).Den), vi (((⟨(⟨0, 0⟩ : SFrac), (⟨0, 0⟩ : SFrac), (⟨0, 0⟩ : A43)⟩ : SLowerLine).Touch).e0), vi (((⟨(⟨0, 0⟩ : SFrac), (⟨0, 0⟩ : SFrac), (⟨0, 0⟩ : A43)⟩ : SLowerLine).Touch).e1)], vi z0] := by first | rfl | (simp only [unfr_vi, map_cons, map_nil, un_i]; done) | (simp only [unfr_vi, map_cons, map_nil, un_i]; rfl) | (simp only [unfr_vi, map_cons, map_nil, un_i, length_cons, length_nil, length_append]; done)
def nfigure_Reference (k : Nat) (a0 : SRemovalMap) : Option (SLowerLine × Int) :=
 (nfigure_CheckMap k a0).bind fun r2972 => (if r2972 = 0 then ((nfigure_reference k a0).bind fun r2976 => (some (r2976, 0))) else (some ((⟨(⟨0, 0⟩ : SFrac), (⟨0, 0⟩ : SFrac), (⟨0, 0⟩ : A43)⟩ : SLowerLine), r2972)))
theorem nfigure_Reference_ok (k : Nat) (a0 : SRemovalMap) (r : (SLowerLine × Int)) (h : nfigure_Reference k a0 = some r) : VC Try.prog 10 [VV.ag (c_SRemovalMap a0)] (VV.tu [VV.ag (c_SLowerLine r.1), vi r.2]) := by
 unfold nfigure_Reference at h
 obtain ⟨r2972, h2973, h⟩ := bs h
 have e2974 := (ti (an (nfigure_CheckMap_ok k a0 _ h2973) (ti trivial)))
 rcases ifs h with ⟨h2975, h⟩ | ⟨h2975, h⟩
 ·obtain ⟨r2976, h2977, h⟩ := bs h
  have e2978 := (ti (an (nfigure_reference_ok k a0 _ h2977) (ti (ti trivial))))
  injection h with h; subst h
  exact fun_ok pm pn Try.func10 (r0 := VV.tu [VV.ag (c_SLowerLine r2976), vi 0]) (ans := [.reg (nN 3 []), .reg (.n :: .call (vi r2972) :: .n :: []), .reg (.n :: .n :: []), .br false, .reg (.n :: .call (VV.ag (c_SLowerLine r2976)) :: .n :: .n :: [])]) (fr := true) (by kernel_rfl) (an (an (ti (ti (ti trivial))) (an (an e2974 (an (ti (ti trivial)) (an (not_f (decide_eq_true h2975)) trivial))) (an e2978 trivial))) (an (ti (ti (ti (ti (ti (ti (ti trivial))))))) (ti trivial))) (Wv.refl _)
 ·injection h with h; subst h
  exact fun_ok pm pn Try.func10 (r0 := VV.tu [VV.ag [vi 0, vi 0, vi 0, vi 0, vi 0, vi 0], vi r2972]) (ans := [.reg (nN 3 []), .reg (.n :: .call (vi r2972) :: .n :: []), .reg (.n :: .n :: []), .br true, .reg (nN 4 [])]) (fr := true) (by kernel_rfl) (an (an (ti (ti (ti trivial))) (an e2974 (an (ti (ti trivial)) (an (not_t (decide_eq_false h2975)) (an (ti (ti (ti (ti trivial)))) trivial))))) (an (ti (ti (ti (ti (ti (ti (ti trivial))))))) (ti trivial))) (Wv.of_eq (eqLG_6 r2972))
def nfigure_Least_l0_0_h (a0 : SRemovalMap) (r3013 : (SLowerLine × Int)) (x21 : Int) (x6 : Int) : VS := ⟨mkA [(1, VV.pt 0 0), (2, VV.pt 1 0), (4, VV.pt 2 0), (6, vi x6), (19, VV.tr (List.map vi a0.Weights) a0.Weights.length), (20, vi (a0.Weights.length : Int)), (21, vi x21)], [some ⟨true, 1, c_SRemovalMap a0⟩, some ⟨true, 1, [vi 0, vi 0]⟩, some ⟨true, 1, c_SLowerLine r3013.1⟩], .nil⟩
def nfigure_Least_l0_0_e0 (a0 : SRemovalMap) (r3013 : (SLowerLine × Int)) (r : Int) : VS := ⟨mkA [(2, VV.pt 1 0), (4, VV.pt 2 0), (6, vi r)], [some ⟨true, 1, c_SRemovalMap a0⟩, some ⟨true, 1, [vi 0, vi 0]⟩, some ⟨true, 1, c_SLowerLine r3013.1⟩], .nil⟩
def nfigure_Least_l0_0 (k : Nat) (a0 : SRemovalMap) (r3013 : (SLowerLine × Int)) : Nat -> Int -> Int -> Option (Int)
 | 0, _, _ => none
 | fuel + 1, x21, x6 => if x21 < (a0.Weights.length : Int) then (if 0 <= x21 /\ x21 < (a0.Weights.length : Int) then ((nfigure_removalTimesDen k a0 r3013.1 x21).bind fun r3034 => (nfigure_Least_l0_0 k a0 r3013 fuel (w64 (x21 + 1)) (w64 (x6 + (w64 ((a0.Weights.getD x21.toNat 0) * r3034)))))) else none) else (some x6)
theorem nfigure_Least_l0_0_ok (k : Nat) (a0 : SRemovalMap) (r3013 : (SLowerLine × Int)) : ∀ (fuel : Nat) (x21 : Int) (x6 : Int) (r : Int), nfigure_Least_l0_0 k a0 r3013 fuel x21 x6 = some r -> (VLoop none Try.prog (szF Try.f12) (bodyOf Try.f12 0) (nfigure_Least_l0_0_h a0 r3013 x21 x6) (.exit 0) (nfigure_Least_l0_0_e0 a0 r3013 r)) := by
 intro fuel
 induction fuel with
 | zero => intro x21 x6 r h; rw [nfigure_Least_l0_0.eq_1] at h; cases h
 | succ fuel ih =>
  intro x21 x6 r h
  rw [nfigure_Least_l0_0.eq_2] at h
  rcases ifs h with ⟨h3031, h⟩ | ⟨h3031, h⟩
  ·obtain ⟨h3032, h⟩ := ifn h
   have e3033 := (show loadL Try.prog 3 (x21.toNat * 1) (List.map vi a0.Weights) = some (vi (a0.Weights.getD x21.toNat 0)) from ld_map ag3 vi a0.Weights 0 h3032 (by omega))
   obtain ⟨r3034, h3035, h⟩ := bs h
   have e3036 := (nfigure_removalTimesDen_ok k a0 r3013.1 x21 _ h3035)
   have e3037 := (ti (ti (ti (ti (ti (an e3036 (ti (ti (ti trivial)))))))))
   have h2 := ih _ _ _ h
   obtain ⟨q, hv, hq⟩ := pkR (rd := none) (P := Try.prog) (fn := Try.f12) (k := 0) (s := (nfigure_Least_l0_0_h a0 r3013 x21 x6)) (ans := [.reg (.n :: []), .br true, .reg (.n :: .n :: .v (vi (a0.Weights.getD x21.toNat 0)) :: .n :: .n :: []), .reg (nN 5 (.call (vi r3034) :: nN 3 [])), .reg (.n :: .n :: [])]) (c := ⟨[(1, none), (2, none), (4, none), (6, none), (19, none), (20, none), (21, none)], [none, none, none], []⟩) (e := .normal) (s1 := (nfigure_Least_l0_0_h a0 r3013 (w64 (x21 + 1)) (w64 (x6 + (w64 ((a0.Weights.getD x21.toNat 0) * r3034)))))) (an (an (ti trivial) (an (an (decide_eq_true h3031) trivial) (an (an (ti (an h3032 (an e3033 (ti (ti trivial))))) e3037) (ti (ti trivial))))) (ti trivial)) (by kernel_rfl)
   exact round_next pm pn hv hq h2
  ·injection h with h; subst h
   exact round_stop (c := ⟨[(2, none), (4, none), (6, none)], [none, none, none], []⟩) (s1 := (nfigure_Least_l0_0_e0 a0 r3013 x6)) pm pn (ans := [.reg (.n :: []), .br false]) (by kernel_rfl) (by intro e; cases e) (an (an (ti trivial) (an (decide_eq_false h3031) trivial)) (ti trivial))
theorem eqLG_7 (z0 : (SLowerLine × Int)) : VV.tu [VV.ag [vi 0, vi 0], vi z0.2] = VV.tu [VV.ag (c_SFrac (⟨0, 0⟩ : SFrac)), vi z0.2] := by first | rfl | (simp only [unfr_vi, map_cons, map_nil, un_i, unfr_c_SFrac]; done) | (simp only [unfr_vi, map_cons, map_nil, un_i, unfr_c_SFrac]; rfl) | (simp only [unfr_vi, map_cons, map_nil, un_i, unfr_c_SFrac, c_SFrac, length_cons, length_nil, length_append]; done)
def nfigure_Least (k : Nat) (a0 : SRemovalMap) : Option (SFrac × Int) :=
 (nfigure_Reference k a0).bind fun r3013 => (if r3013.2 = 0 then ((nfigure_Least_l0_0 k a0 r3013 k 0 0).bind fun r3039 => ((nfigure_denOf k r3013.1).bind fun r3041 => ((nfigure_lowest k r3039 r3041).bind fun r3043 => (some (r3043, 0))))) else (some ((⟨0, 0⟩ : SFrac), r3013.2)))
theorem nfigure_Least_ok (k : Nat) (a0 : SRemovalMap) (r : (SFrac × Int)) (h : nfigure_Least k a0 = some r) : VC Try.prog 12 [VV.ag (c_SRemovalMap a0)] (VV.tu [VV.ag (c_SFrac r.1), vi r.2]) := by
 unfold nfigure_Least at h
 obtain ⟨r3013, h3014, h⟩ := bs h
 have e3015 := (ti (an (nfigure_Reference_ok k a0 _ h3014) (ti (ti (ti (ti (ti (ti trivial))))))))
 rcases ifs h with ⟨h3016, h⟩ | ⟨h3016, h⟩
 ·obtain ⟨r3039, h3038, h⟩ := bs h
  have hph3038 := nfigure_Least_l0_0_ok k a0 r3013 _ _ _ _ h3038
  have e3040 := (an (ti trivial) (VRun.loop hph3038))
  obtain ⟨r3041, h3042, h⟩ := bs h
  obtain ⟨r3043, h3044, h⟩ := bs h
  have e3045 := (nfigure_lowest_ok k r3039 r3041 _ h3044)
  have e3046 := (ti (ti (an (nfigure_denOf_ok k r3013.1 _ h3042) (an e3045 (ti (ti trivial))))))
  injection h with h; subst h
  exact fun_ok pm pn Try.func12 (r0 := VV.tu [VV.ag (c_SFrac r3043), vi 0]) (ans := [.reg (nN 3 []), .reg (.n :: .call (VV.tu [VV.ag (c_SLowerLine r3013.1), vi r3013.2]) :: nN 6 []), .reg (.n :: .n :: []), .br false, .reg (.n :: []), .reg (nN 4 []), .sub ⟨[(1, none), (2, none), (4, none), (6, none), (19, none), (20, none), (21, none)], [none, none, none], []⟩ (.exit 0) (nfigure_Least_l0_0_e0 a0 r3013 r3039), .reg (.n :: .n :: .call (vi r3041) :: .call (VV.ag (c_SFrac r3043)) :: .n :: .n :: [])]) (fr := true) (by kernel_rfl) (an (an (ti (ti (ti trivial))) (an e3015 (an (an (ti (ti trivial)) (an (not_f (decide_eq_true h3016)) trivial)) (an (ti trivial) (an (an (ti (ti (ti (ti trivial)))) e3040) (an e3046 trivial)))))) (an (ti (ti (ti trivial))) (ti trivial))) (Wv.refl _)
 ·injection h with h; subst h
  exact fun_ok pm pn Try.func12 (r0 := VV.tu [VV.ag [vi 0, vi 0], vi r3013.2]) (ans := [.reg (nN 3 []), .reg (.n :: .call (VV.tu [VV.ag (c_SLowerLine r3013.1), vi r3013.2]) :: nN 6 []), .reg (.n :: .n :: []), .br true, .reg (nN 4 [])]) (fr := true) (by kernel_rfl) (an (an (ti (ti (ti trivial))) (an e3015 (an (ti (ti trivial)) (an (not_t (decide_eq_false h3016)) (an (ti (ti (ti (ti trivial)))) trivial))))) (an (ti (ti (ti trivial))) (ti trivial))) (Wv.of_eq (eqLG_7 r3013))
def nfigure_isLowest (k : Nat) (a0 : SFrac) : Option Bool :=
 if 0 < a0.Den then ((nfigure_divisor k a0.Num a0.Den).bind fun r3058 => (some (decide (r3058 = 1)))) else (some false)
theorem nfigure_isLowest_ok (k : Nat) (a0 : SFrac) (r : Bool) (h : nfigure_isLowest k a0 = some r) : VC Try.prog 42 [VV.ag (c_SFrac a0)] (vb r) := by
 unfold nfigure_isLowest at h
 rcases ifs h with ⟨h3057, h⟩ | ⟨h3057, h⟩
 ·obtain ⟨r3058, h3059, h⟩ := bs h
  have e3060 := (an (decide_eq_true h3057) (nfigure_divisor_ok k a0.Num a0.Den _ h3059))
  have e3061 := (ti (ti (ti (ti (an (an (decide_eq_true h3057) trivial) (an (an (decide_eq_true h3057) trivial) (an (an (decide_eq_true h3057) trivial) (an (an (decide_eq_true h3057) trivial) (an e3060 (an (an (decide_eq_true h3057) trivial) (an (decide_eq_true h3057) (ti trivial))))))))))))
  injection h with h; subst h
  exact fun_ok pm pn Try.func42 (r0 := vb (decide (r3058 = 1))) (ans := [.reg (.n :: .n :: []), .reg (nN 8 (.call (vi r3058) :: .n :: .b true :: .n :: []))]) (fr := true) (by kernel_rfl) (an (an (ti (ti trivial)) (an e3061 trivial)) (ti trivial)) (Wv.refl _)
 ·have e3062 := (ti (ti (ti (ti (an (decide_eq_false h3057) (an (decide_eq_false h3057) (an (decide_eq_false h3057) (an (decide_eq_false h3057) (an (decide_eq_false h3057) (an (decide_eq_false h3057) (an (decide_eq_false h3057) (ti trivial))))))))))))
  injection h with h; subst h
  exact fun_ok pm pn Try.func42 (r0 := vb false) (ans := [.reg (.n :: .n :: []), .reg (nN 4 (nS 6 (.b false :: .n :: [])))]) (fr := true) (by kernel_rfl) (an (an (ti (ti trivial)) (an e3062 trivial)) (ti trivial)) (Wv.refl _)
def nfigure_isOfLine (k : Nat) (a0 : SFrac) : Option Bool :=
 (nfigure_isWithin k a0.Den 1 1000).bind fun r3081 => (if r3081 = true then ((nfigure_isWithin k a0.Num (-1000000000) 1000000000).bind fun r3085 => (some r3085)) else (some false))
theorem nfigure_isOfLine_ok (k : Nat) (a0 : SFrac) (r : Bool) (h : nfigure_isOfLine k a0 = some r) : VC Try.prog 43 [VV.ag (c_SFrac a0)] (vb r) := by
 unfold nfigure_isOfLine at h
 obtain ⟨r3081, h3082, h⟩ := bs h
 have e3083 := (nfigure_isWithin_ok k a0.Den 1 1000 _ h3082)
 rcases ifs h with ⟨h3084, h⟩ | ⟨h3084, h⟩
 ·obtain ⟨r3085, h3086, h⟩ := bs h
  have e3087 := (an h3084 (nfigure_isWithin_ok k a0.Num (-1000000000) 1000000000 _ h3086))
  have e3088 := (ti (ti (an e3083 (ti (an (an h3084 trivial) (an (an h3084 trivial) (an e3087 (an h3084 (ti trivial)))))))))
  injection h with h; subst h
  exact fun_ok pm pn Try.func43 (r0 := vb r3085) (ans := [.reg (.n :: .n :: []), .reg (.n :: .n :: .call (vb r3081) :: nN 3 (.call (vb r3085) :: .b true :: .n :: []))]) (fr := true) (by kernel_rfl) (an (an (ti (ti trivial)) (an e3088 trivial)) (ti trivial)) (Wv.refl _)
 ·have e3089 := (ti (ti (an e3083 (ti (an (bool_f h3084) (an (bool_f h3084) (an (bool_f h3084) (an (bool_f h3084) (ti trivial)))))))))
  injection h with h; subst h
  exact fun_ok pm pn Try.func43 (r0 := vb false) (ans := [.reg (.n :: .n :: []), .reg (.n :: .n :: .call (vb r3081) :: .n :: nS 3 (.b false :: .n :: []))]) (fr := true) (by kernel_rfl) (an (an (ti (ti trivial)) (an e3089 trivial)) (ti trivial)) (Wv.refl _)
def nfigure_checkLine (k : Nat) (a0 : SRemovalMap) (a1 : SLowerLine) : Option Int :=
 (nfigure_CheckMap k a0).bind fun r3101 => (if r3101 = 0 then ((nfigure_isLowest k a1.Start).bind fun r3105 => (if r3105 = true then ((nfigure_isLowest k a1.Slope).bind fun r3109 => (if r3109 = true then ((nfigure_isOfLine k a1.Start).bind fun r3114 => (if r3114 = true then ((nfigure_isOfLine k a1.Slope).bind fun r3118 => (if r3118 = true then (some 0) else (some 2))) else (some 2))) else (some 3))) else (some 3))) else (some r3101))
theorem nfigure_checkLine_ok (k : Nat) (a0 : SRemovalMap) (a1 : SLowerLine) (r : Int) (h : nfigure_checkLine k a0 a1 = some r) : VC Try.prog 21 [VV.ag (c_SRemovalMap a0), VV.ag (c_SLowerLine a1)] (vi r) := by
 unfold nfigure_checkLine at h
 obtain ⟨r3101, h3102, h⟩ := bs h
 have e3103 := (ti (an (nfigure_CheckMap_ok k a0 _ h3102) (ti trivial)))
 rcases ifs h with ⟨h3104, h⟩ | ⟨h3104, h⟩
 ·obtain ⟨r3105, h3106, h⟩ := bs h
  have e3107 := (nfigure_isLowest_ok k a1.Start _ h3106)
  rcases ifs h with ⟨h3108, h⟩ | ⟨h3108, h⟩
  ·obtain ⟨r3109, h3110, h⟩ := bs h
   have e3111 := (an (not_f h3108) (nfigure_isLowest_ok k a1.Slope _ h3110))
   have e3112 := (ti (ti (an e3107 (ti (ti (an (an (not_f h3108) trivial) (an (an (not_f h3108) trivial) (an e3111 (an (an (not_f h3108) trivial) (an (not_f h3108) trivial))))))))))
   rcases ifs h with ⟨h3113, h⟩ | ⟨h3113, h⟩
   ·obtain ⟨r3114, h3115, h⟩ := bs h
    have e3116 := (nfigure_isOfLine_ok k a1.Start _ h3115)
    rcases ifs h with ⟨h3117, h⟩ | ⟨h3117, h⟩
    ·obtain ⟨r3118, h3119, h⟩ := bs h
     have e3120 := (an (not_f h3117) (nfigure_isOfLine_ok k a1.Slope _ h3119))
     have e3121 := (ti (ti (an e3116 (ti (ti (an (an (not_f h3117) trivial) (an (an (not_f h3117) trivial) (an e3120 (an (an (not_f h3117) trivial) (an (not_f h3117) trivial))))))))))
     rcases ifs h with ⟨h3122, h⟩ | ⟨h3122, h⟩
     ·injection h with h; subst h
      exact fun_ok pm pn Try.func21 (r0 := vi 0) (ans := [.reg (nN 3 []), .reg (.n :: .call (vi r3101) :: .n :: []), .reg (.n :: .n :: []), .br false, .reg (.n :: .n :: .call (vb r3105) :: nN 4 (.call (vb r3109) :: .n :: .b false :: [])), .br false, .reg (.n :: .n :: .call (vb r3114) :: nN 4 (.call (vb r3118) :: .n :: .b false :: [])), .br false, .reg (.n :: [])]) (fr := true) (by kernel_rfl) (an (an (ti (ti (ti trivial))) (an (an e3103 (an (ti (ti trivial)) (an (not_f (decide_eq_true h3104)) trivial))) (an (an e3112 (an (not_f h3113) trivial)) (an (an e3121 (an (not_f h3122) trivial)) (an (ti trivial) trivial))))) (ti trivial)) (Wv.refl _)
     ·injection h with h; subst h
      exact fun_ok pm pn Try.func21 (r0 := vi 2) (ans := [.reg (nN 3 []), .reg (.n :: .call (vi r3101) :: .n :: []), .reg (.n :: .n :: []), .br false, .reg (.n :: .n :: .call (vb r3105) :: nN 4 (.call (vb r3109) :: .n :: .b false :: [])), .br false, .reg (.n :: .n :: .call (vb r3114) :: nN 4 (.call (vb r3118) :: .n :: .b false :: [])), .br true, .reg (.n :: [])]) (fr := true) (by kernel_rfl) (an (an (ti (ti (ti trivial))) (an (an e3103 (an (ti (ti trivial)) (an (not_f (decide_eq_true h3104)) trivial))) (an (an e3112 (an (not_f h3113) trivial)) (an e3121 (an (not_t (bool_f h3122)) (an (ti trivial) trivial)))))) (ti trivial)) (Wv.refl _)
    ·have e3123 := (ti (ti (an e3116 (ti (ti (an (not_t (bool_f h3117)) (an (not_t (bool_f h3117)) (an (not_t (bool_f h3117)) (an (not_t (bool_f h3117)) (an (not_t (bool_f h3117)) trivial))))))))))
     injection h with h; subst h
     exact fun_ok pm pn Try.func21 (r0 := vi 2) (ans := [.reg (nN 3 []), .reg (.n :: .call (vi r3101) :: .n :: []), .reg (.n :: .n :: []), .br false, .reg (.n :: .n :: .call (vb r3105) :: nN 4 (.call (vb r3109) :: .n :: .b false :: [])), .br false, .reg (.n :: .n :: .call (vb r3114) :: .n :: .n :: nS 4 (.b true :: [])), .br true, .reg (.n :: [])]) (fr := true) (by kernel_rfl) (an (an (ti (ti (ti trivial))) (an (an e3103 (an (ti (ti trivial)) (an (not_f (decide_eq_true h3104)) trivial))) (an (an e3112 (an (not_f h3113) trivial)) (an e3123 (an rt (an (ti trivial) trivial)))))) (ti trivial)) (Wv.refl _)
   ·injection h with h; subst h
    exact fun_ok pm pn Try.func21 (r0 := vi 3) (ans := [.reg (nN 3 []), .reg (.n :: .call (vi r3101) :: .n :: []), .reg (.n :: .n :: []), .br false, .reg (.n :: .n :: .call (vb r3105) :: nN 4 (.call (vb r3109) :: .n :: .b false :: [])), .br true, .reg (.n :: [])]) (fr := true) (by kernel_rfl) (an (an (ti (ti (ti trivial))) (an (an e3103 (an (ti (ti trivial)) (an (not_f (decide_eq_true h3104)) trivial))) (an e3112 (an (not_t (bool_f h3113)) (an (ti trivial) trivial))))) (ti trivial)) (Wv.refl _)
  ·have e3124 := (ti (ti (an e3107 (ti (ti (an (not_t (bool_f h3108)) (an (not_t (bool_f h3108)) (an (not_t (bool_f h3108)) (an (not_t (bool_f h3108)) (an (not_t (bool_f h3108)) trivial))))))))))
   injection h with h; subst h
   exact fun_ok pm pn Try.func21 (r0 := vi 3) (ans := [.reg (nN 3 []), .reg (.n :: .call (vi r3101) :: .n :: []), .reg (.n :: .n :: []), .br false, .reg (.n :: .n :: .call (vb r3105) :: .n :: .n :: nS 4 (.b true :: [])), .br true, .reg (.n :: [])]) (fr := true) (by kernel_rfl) (an (an (ti (ti (ti trivial))) (an (an e3103 (an (ti (ti trivial)) (an (not_f (decide_eq_true h3104)) trivial))) (an e3124 (an rt (an (ti trivial) trivial))))) (ti trivial)) (Wv.refl _)
 ·injection h with h; subst h
  exact fun_ok pm pn Try.func21 (r0 := vi r3101) (ans := [.reg (nN 3 []), .reg (.n :: .call (vi r3101) :: .n :: []), .reg (.n :: .n :: []), .br true, .reg (.n :: .n :: [])]) (fr := true) (by kernel_rfl) (an (an (ti (ti (ti trivial))) (an e3103 (an (ti (ti trivial)) (an (not_t (decide_eq_false h3104)) (an (ti (ti trivial)) trivial))))) (ti trivial)) (Wv.refl _)
def nfigure_CheckReference_l0_0_h (a0 : SRemovalMap) (a1 : SLowerLine) (x29 : Int) : VS := ⟨mkA [(2, VV.pt 0 0), (3, VV.pt 1 0), (28, VV.ag (c_A43 a1.Touch)), (29, vi x29)], [some ⟨true, 1, c_SRemovalMap a0⟩, some ⟨true, 1, c_SLowerLine a1⟩], .nil⟩
def nfigure_CheckReference_l0_0_e0 (a0 : SRemovalMap) (a1 : SLowerLine) (r : Unit) : VS := ⟨mkA [(4, vi 0), (5, vi 6)], [], .nil⟩
def nfigure_CheckReference_l0_0_e1 (a0 : SRemovalMap) (a1 : SLowerLine) (r : Unit) : VS := ⟨mkA [(2, VV.pt 0 0), (3, VV.pt 1 0)], [some ⟨true, 1, c_SRemovalMap a0⟩, some ⟨true, 1, c_SLowerLine a1⟩], .nil⟩
def nfigure_CheckReference_l0_0 (k : Nat) (a0 : SRemovalMap) (a1 : SLowerLine) : Nat -> Int -> Option (Sum Unit Unit)
 | 0, _ => none
 | fuel + 1, x29 => if x29 < 2 then (if x29 = 0 then ((nfigure_isWithin k a1.Touch.e0 0 (w64 ((a0.Heights.length : Int) - 1))).bind fun r3243 => (if r3243 = true then (nfigure_CheckReference_l0_0 k a0 a1 fuel (w64 (x29 + 1))) else (some (.inl ())))) else (if x29 = 1 then ((nfigure_isWithin k a1.Touch.e1 0 (w64 ((a0.Heights.length : Int) - 1))).bind fun r3249 => (if r3249 = true then (nfigure_CheckReference_l0_0 k a0 a1 fuel (w64 (x29 + 1))) else (some (.inl ())))) else none)) else (some (.inr ()))
theorem nfigure_CheckReference_l0_0_ok (k : Nat) (a0 : SRemovalMap) (a1 : SLowerLine) : ∀ (fuel : Nat) (x29 : Int) (r : Sum Unit Unit), nfigure_CheckReference_l0_0 k a0 a1 fuel x29 = some r -> (match r with | .inl r => VLoop none Try.prog (szF Try.f11) (bodyOf Try.f11 0) (nfigure_CheckReference_l0_0_h a0 a1 x29) .ret (nfigure_CheckReference_l0_0_e0 a0 a1 r) | .inr r => VLoop none Try.prog (szF Try.f11) (bodyOf Try.f11 0) (nfigure_CheckReference_l0_0_h a0 a1 x29) (.exit 0) (nfigure_CheckReference_l0_0_e1 a0 a1 r)) := by
 intro fuel
 induction fuel with
 | zero => intro x29 r h; rw [nfigure_CheckReference_l0_0.eq_1] at h; cases h
 | succ fuel ih =>
  intro x29 r h
  rw [nfigure_CheckReference_l0_0.eq_2] at h
  rcases ifs h with ⟨h3240, h⟩ | ⟨h3240, h⟩
  ·rcases ifs h with ⟨h3241, h⟩ | ⟨h3241, h⟩
   ·have e3242 := (show (0:Int) <= x29 /\ x29 < ((2 : Nat) : Int) /\ partV (x29.toNat * 1) none [vi a1.Touch.e0, vi a1.Touch.e1] = some (vi a1.Touch.e0) from ⟨by have := (of_decide_eq_true (decide_eq_true h3241)); omega, by have := (of_decide_eq_true (decide_eq_true h3241)); omega, by rw [show x29 = (0 : Int) from (of_decide_eq_true (decide_eq_true h3241))]; rfl⟩)
    obtain ⟨r3243, h3244, h⟩ := bs h
    have e3245 := (nfigure_isWithin_ok k a1.Touch.e0 0 (w64 ((a0.Heights.length : Int) - 1)) _ h3244)
    rcases ifs h with ⟨h3246, h⟩ | ⟨h3246, h⟩
    ·have h2 := ih _ _ h
     obtain ⟨q, hv, hq⟩ := pkR (rd := none) (P := Try.prog) (fn := Try.f11) (k := 0) (s := (nfigure_CheckReference_l0_0_h a0 a1 x29)) (ans := [.reg (.n :: []), .br true, .reg (.v (vi a1.Touch.e0) :: .n :: []), .reg (nN 5 (.call (vb r3243) :: .n :: [])), .br false, .reg (.n :: .n :: [])]) (c := ⟨[(2, none), (3, none), (28, none), (29, none)], [none, none], []⟩) (e := .normal) (s1 := (nfigure_CheckReference_l0_0_h a0 a1 (w64 (x29 + 1)))) (an (an (ti trivial) (an (an (decide_eq_true h3240) trivial) (an (an (an e3242 (ti trivial)) (an (ti (ti (ti (ti (ti (an e3245 (ti trivial))))))) (an (not_f h3246) trivial))) (ti (ti trivial))))) (ti trivial)) (by kernel_rfl)
     cases r with
     | inl r => exact round_next pm pn hv hq h2
     | inr r =>
      exact round_next pm pn hv hq h2
    ·injection h with h; subst h
     exact round_stop (c := ⟨[(4, none), (5, none)], [], []⟩) (s1 := (nfigure_CheckReference_l0_0_e0 a0 a1 ())) pm pn (ans := [.reg (.n :: []), .br true, .reg (.v (vi a1.Touch.e0) :: .n :: []), .reg (nN 5 (.call (vb r3243) :: .n :: [])), .br true, .reg (.n :: .n :: [])]) (by kernel_rfl) (by intro e; cases e) (an (an (ti trivial) (an (an (decide_eq_true h3240) trivial) (an (an e3242 (ti trivial)) (an (ti (ti (ti (ti (ti (an e3245 (ti trivial))))))) (an (not_t (bool_f h3246)) (an (ti (ti trivial)) trivial)))))) (ti trivial))
   ·rcases ifs h with ⟨h3247, h⟩ | ⟨h3247, h⟩
    ·have e3248 := (show (0:Int) <= x29 /\ x29 < ((2 : Nat) : Int) /\ partV (x29.toNat * 1) none [vi a1.Touch.e0, vi a1.Touch.e1] = some (vi a1.Touch.e1) from ⟨by have := (of_decide_eq_true (decide_eq_true h3247)); omega, by have := (of_decide_eq_true (decide_eq_true h3247)); omega, by rw [show x29 = (1 : Int) from (of_decide_eq_true (decide_eq_true h3247))]; rfl⟩)
     obtain ⟨r3249, h3250, h⟩ := bs h
     have e3251 := (nfigure_isWithin_ok k a1.Touch.e1 0 (w64 ((a0.Heights.length : Int) - 1)) _ h3250)
     rcases ifs h with ⟨h3252, h⟩ | ⟨h3252, h⟩
     ·have h2 := ih _ _ h
      obtain ⟨q, hv, hq⟩ := pkR (rd := none) (P := Try.prog) (fn := Try.f11) (k := 0) (s := (nfigure_CheckReference_l0_0_h a0 a1 x29)) (ans := [.reg (.n :: []), .br true, .reg (.v (vi a1.Touch.e1) :: .n :: []), .reg (nN 5 (.call (vb r3249) :: .n :: [])), .br false, .reg (.n :: .n :: [])]) (c := ⟨[(2, none), (3, none), (28, none), (29, none)], [none, none], []⟩) (e := .normal) (s1 := (nfigure_CheckReference_l0_0_h a0 a1 (w64 (x29 + 1)))) (an (an (ti trivial) (an (an (decide_eq_true h3240) trivial) (an (an (an e3248 (ti trivial)) (an (ti (ti (ti (ti (ti (an e3251 (ti trivial))))))) (an (not_f h3252) trivial))) (ti (ti trivial))))) (ti trivial)) (by kernel_rfl)
      cases r with
      | inl r => exact round_next pm pn hv hq h2
      | inr r =>
       exact round_next pm pn hv hq h2
     ·injection h with h; subst h
      exact round_stop (c := ⟨[(4, none), (5, none)], [], []⟩) (s1 := (nfigure_CheckReference_l0_0_e0 a0 a1 ())) pm pn (ans := [.reg (.n :: []), .br true, .reg (.v (vi a1.Touch.e1) :: .n :: []), .reg (nN 5 (.call (vb r3249) :: .n :: [])), .br true, .reg (.n :: .n :: [])]) (by kernel_rfl) (by intro e; cases e) (an (an (ti trivial) (an (an (decide_eq_true h3240) trivial) (an (an e3248 (ti trivial)) (an (ti (ti (ti (ti (ti (an e3251 (ti trivial))))))) (an (not_t (bool_f h3252)) (an (ti (ti trivial)) trivial)))))) (ti trivial))
    ·cases h
  ·injection h with h; subst h
   exact round_stop (c := ⟨[(2, none), (3, none)], [none, none], []⟩) (s1 := (nfigure_CheckReference_l0_0_e1 a0 a1 ())) pm pn (ans := [.reg (.n :: []), .br false]) (by kernel_rfl) (by intro e; cases e) (an (an (ti trivial) (an (decide_eq_false h3240) trivial)) (ti trivial))
def nfigure_CheckReference_l1_0_h (a0 : SRemovalMap) (a1 : SLowerLine) (x42 : Int) : VS := ⟨mkA [(2, VV.pt 0 0), (3, VV.pt 1 0), (41, VV.ag (c_A43 a1.Touch)), (42, vi x42)], [some ⟨true, 1, c_SRemovalMap a0⟩, some ⟨true, 1, c_SLowerLine a1⟩], .nil⟩
def nfigure_CheckReference_l1_0_e0 (a0 : SRemovalMap) (a1 : SLowerLine) (r : Unit) : VS := ⟨mkA [(4, vi 0), (5, vi 22)], [], .nil⟩
def nfigure_CheckReference_l1_0_e1 (a0 : SRemovalMap) (a1 : SLowerLine) (r : Unit) : VS := ⟨mkA [(2, VV.pt 0 0), (3, VV.pt 1 0)], [some ⟨true, 1, c_SRemovalMap a0⟩, some ⟨true, 1, c_SLowerLine a1⟩], .nil⟩
def nfigure_CheckReference_l1_0 (k : Nat) (a0 : SRemovalMap) (a1 : SLowerLine) : Nat -> Int -> Option (Sum Unit Unit)
 | 0, _ => none
 | fuel + 1, x42 => if x42 < 2 then (if x42 = 0 then ((nfigure_removalTimesDen k a0 a1 a1.Touch.e0).bind fun r3280 => (if r3280 = 0 then (nfigure_CheckReference_l1_0 k a0 a1 fuel (w64 (x42 + 1))) else (some (.inl ())))) else (if x42 = 1 then ((nfigure_removalTimesDen k a0 a1 a1.Touch.e1).bind fun r3286 => (if r3286 = 0 then (nfigure_CheckReference_l1_0 k a0 a1 fuel (w64 (x42 + 1))) else (some (.inl ())))) else none)) else (some (.inr ()))
theorem nfigure_CheckReference_l1_0_ok (k : Nat) (a0 : SRemovalMap) (a1 : SLowerLine) : ∀ (fuel : Nat) (x42 : Int) (r : Sum Unit Unit), nfigure_CheckReference_l1_0 k a0 a1 fuel x42 = some r -> (match r with | .inl r => VLoop none Try.prog (szF Try.f11) (bodyOf Try.f11 1) (nfigure_CheckReference_l1_0_h a0 a1 x42) .ret (nfigure_CheckReference_l1_0_e0 a0 a1 r) | .inr r => VLoop none Try.prog (szF Try.f11) (bodyOf Try.f11 1) (nfigure_CheckReference_l1_0_h a0 a1 x42) (.exit 2) (nfigure_CheckReference_l1_0_e1 a0 a1 r)) := by
 intro fuel
 induction fuel with
 | zero => intro x42 r h; rw [nfigure_CheckReference_l1_0.eq_1] at h; cases h
 | succ fuel ih =>
  intro x42 r h
  rw [nfigure_CheckReference_l1_0.eq_2] at h
  rcases ifs h with ⟨h3277, h⟩ | ⟨h3277, h⟩
  ·rcases ifs h with ⟨h3278, h⟩ | ⟨h3278, h⟩
   ·have e3279 := (show (0:Int) <= x42 /\ x42 < ((2 : Nat) : Int) /\ partV (x42.toNat * 1) none [vi a1.Touch.e0, vi a1.Touch.e1] = some (vi a1.Touch.e0) from ⟨by have := (of_decide_eq_true (decide_eq_true h3278)); omega, by have := (of_decide_eq_true (decide_eq_true h3278)); omega, by rw [show x42 = (0 : Int) from (of_decide_eq_true (decide_eq_true h3278))]; rfl⟩)
    obtain ⟨r3280, h3281, h⟩ := bs h
    have e3282 := (nfigure_removalTimesDen_ok k a0 a1 a1.Touch.e0 _ h3281)
    rcases ifs h with ⟨h3283, h⟩ | ⟨h3283, h⟩
    ·have h2 := ih _ _ h
     obtain ⟨q, hv, hq⟩ := pkR (rd := none) (P := Try.prog) (fn := Try.f11) (k := 1) (s := (nfigure_CheckReference_l1_0_h a0 a1 x42)) (ans := [.reg (.n :: []), .br true, .reg (.v (vi a1.Touch.e0) :: .n :: []), .reg (nN 3 (.call (vi r3280) :: .n :: [])), .br false, .reg (.n :: .n :: [])]) (c := ⟨[(2, none), (3, none), (41, none), (42, none)], [none, none], []⟩) (e := .normal) (s1 := (nfigure_CheckReference_l1_0_h a0 a1 (w64 (x42 + 1)))) (an (an (ti trivial) (an (an (decide_eq_true h3277) trivial) (an (an (an e3279 (ti trivial)) (an (ti (ti (ti (an e3282 (ti trivial))))) (an (not_f (decide_eq_true h3283)) trivial))) (ti (ti trivial))))) (ti trivial)) (by kernel_rfl)
     cases r with
     | inl r => exact round_next pm pn hv hq h2
     | inr r =>
      exact round_next pm pn hv hq h2
    ·injection h with h; subst h
     exact round_stop (c := ⟨[(4, none), (5, none)], [], []⟩) (s1 := (nfigure_CheckReference_l1_0_e0 a0 a1 ())) pm pn (ans := [.reg (.n :: []), .br true, .reg (.v (vi a1.Touch.e0) :: .n :: []), .reg (nN 3 (.call (vi r3280) :: .n :: [])), .br true, .reg (.n :: .n :: [])]) (by kernel_rfl) (by intro e; cases e) (an (an (ti trivial) (an (an (decide_eq_true h3277) trivial) (an (an e3279 (ti trivial)) (an (ti (ti (ti (an e3282 (ti trivial))))) (an (not_t (decide_eq_false h3283)) (an (ti (ti trivial)) trivial)))))) (ti trivial))
   ·rcases ifs h with ⟨h3284, h⟩ | ⟨h3284, h⟩
    ·have e3285 := (show (0:Int) <= x42 /\ x42 < ((2 : Nat) : Int) /\ partV (x42.toNat * 1) none [vi a1.Touch.e0, vi a1.Touch.e1] = some (vi a1.Touch.e1) from ⟨by have := (of_decide_eq_true (decide_eq_true h3284)); omega, by have := (of_decide_eq_true (decide_eq_true h3284)); omega, by rw [show x42 = (1 : Int) from (of_decide_eq_true (decide_eq_true h3284))]; rfl⟩)
     obtain ⟨r3286, h3287, h⟩ := bs h
     have e3288 := (nfigure_removalTimesDen_ok k a0 a1 a1.Touch.e1 _ h3287)
     rcases ifs h with ⟨h3289, h⟩ | ⟨h3289, h⟩
     ·have h2 := ih _ _ h
      obtain ⟨q, hv, hq⟩ := pkR (rd := none) (P := Try.prog) (fn := Try.f11) (k := 1) (s := (nfigure_CheckReference_l1_0_h a0 a1 x42)) (ans := [.reg (.n :: []), .br true, .reg (.v (vi a1.Touch.e1) :: .n :: []), .reg (nN 3 (.call (vi r3286) :: .n :: [])), .br false, .reg (.n :: .n :: [])]) (c := ⟨[(2, none), (3, none), (41, none), (42, none)], [none, none], []⟩) (e := .normal) (s1 := (nfigure_CheckReference_l1_0_h a0 a1 (w64 (x42 + 1)))) (an (an (ti trivial) (an (an (decide_eq_true h3277) trivial) (an (an (an e3285 (ti trivial)) (an (ti (ti (ti (an e3288 (ti trivial))))) (an (not_f (decide_eq_true h3289)) trivial))) (ti (ti trivial))))) (ti trivial)) (by kernel_rfl)
      cases r with
      | inl r => exact round_next pm pn hv hq h2
      | inr r =>
       exact round_next pm pn hv hq h2
     ·injection h with h; subst h
      exact round_stop (c := ⟨[(4, none), (5, none)], [], []⟩) (s1 := (nfigure_CheckReference_l1_0_e0 a0 a1 ())) pm pn (ans := [.reg (.n :: []), .br true, .reg (.v (vi a1.Touch.e1) :: .n :: []), .reg (nN 3 (.call (vi r3286) :: .n :: [])), .br true, .reg (.n :: .n :: [])]) (by kernel_rfl) (by intro e; cases e) (an (an (ti trivial) (an (an (decide_eq_true h3277) trivial) (an (an e3285 (ti trivial)) (an (ti (ti (ti (an e3288 (ti trivial))))) (an (not_t (decide_eq_false h3289)) (an (ti (ti trivial)) trivial)))))) (ti trivial))
    ·cases h
  ·injection h with h; subst h
   exact round_stop (c := ⟨[(2, none), (3, none)], [none, none], []⟩) (s1 := (nfigure_CheckReference_l1_0_e1 a0 a1 ())) pm pn (ans := [.reg (.n :: []), .br false]) (by kernel_rfl) (by intro e; cases e) (an (an (ti trivial) (an (decide_eq_false h3277) trivial)) (ti trivial))
def nfigure_CheckReference (k : Nat) (a0 : SRemovalMap) (a1 : SLowerLine) : Option (Int × Int) :=
 (nfigure_checkLine k a0 a1).bind fun r3214 => (if r3214 = 0 then ((nfigure_firstDug k a0 a1).bind fun r3218 => (if r3218.2 = true then (some (r3218.1, 26)) else ((nfigure_CheckReference_l0_0 k a0 a1 k 0).bind fun r3254 => (match r3254 with | .inl r3255 => (some (0, 6)) | .inr r3256 => ((nfigure_CheckReference_l1_0 k a0 a1 k 0).bind fun r3291 => (match r3291 with | .inl r3292 => (some (0, 22)) | .inr r3293 => ((nfigure_areAround k a0 a1.Touch.e0 a1.Touch.e1).bind fun r3298 => (if r3298 = true then (some (0, 0)) else (some (0, 22)))))))))) else (some (0, r3214)))
theorem nfigure_CheckReference_ok (k : Nat) (a0 : SRemovalMap) (a1 : SLowerLine) (r : (Int × Int)) (h : nfigure_CheckReference k a0 a1 = some r) : VC Try.prog 11 [VV.ag (c_SRemovalMap a0), VV.ag (c_SLowerLine a1)] (VV.tu [vi r.1, vi r.2]) := by
 unfold nfigure_CheckReference at h
 obtain ⟨r3214, h3215, h⟩ := bs h
 have e3216 := (ti (ti (an (nfigure_checkLine_ok k a0 a1 _ h3215) (ti trivial))))
 rcases ifs h with ⟨h3217, h⟩ | ⟨h3217, h⟩
 ·obtain ⟨r3218, h3219, h⟩ := bs h
  have e3220 := (ti (ti (an (nfigure_firstDug_ok k a0 a1 _ h3219) (ti (ti (ti (ti (ti trivial))))))))
  rcases ifs h with ⟨h3221, h⟩ | ⟨h3221, h⟩
  ·injection h with h; subst h
   exact fun_ok pm pn Try.func11 (r0 := VV.tu [vi r3218.1, vi 26]) (ans := [.reg (nN 4 []), .reg (.n :: .n :: .call (vi r3214) :: .n :: []), .reg (.n :: .n :: []), .br false, .reg (.n :: .n :: .call (VV.tu [vi r3218.1, vb r3218.2]) :: nN 5 []), .reg (.n :: []), .br true, .reg (nN 3 [])]) (fr := true) (by kernel_rfl) (an (an (ti (ti (ti (ti trivial)))) (an (an e3216 (an (ti (ti trivial)) (an (not_f (decide_eq_true h3217)) trivial))) (an e3220 (an (ti trivial) (an h3221 (an (ti (ti (ti trivial))) trivial)))))) (ti (ti trivial))) (Wv.refl _)
  ·obtain ⟨r3254, h3253, h⟩ := bs h
   have hph3253 := nfigure_CheckReference_l0_0_ok k a0 a1 _ _ _ h3253
   cases r3254 with
   | inl r3255 =>
    dsimp only at h
    have e3257 := (an (ti trivial) (VRun.loop hph3253))
    injection h with h; subst h
    exact fun_ok pm pn Try.func11 (r0 := VV.tu [vi 0, vi 6]) (ans := [.reg (nN 4 []), .reg (.n :: .n :: .call (vi r3214) :: .n :: []), .reg (.n :: .n :: []), .br false, .reg (.n :: .n :: .call (VV.tu [vi r3218.1, vb r3218.2]) :: nN 5 []), .reg (.n :: []), .br false, .reg (nN 3 []), .sub ⟨[(2, none), (3, none), (28, none), (29, none)], [none, none], []⟩ .ret (nfigure_CheckReference_l0_0_e0 a0 a1 r3255)]) (fr := true) (by kernel_rfl) (an (an (ti (ti (ti (ti trivial)))) (an (an e3216 (an (ti (ti trivial)) (an (not_f (decide_eq_true h3217)) trivial))) (an (an e3220 (an (ti trivial) (an (bool_f h3221) trivial))) (an (ti (ti (ti trivial))) e3257)))) (ti (ti trivial))) (Wv.refl _)
   | inr r3256 =>
    dsimp only at h
    have e3258 := (an (ti trivial) (VRun.loop hph3253))
    obtain ⟨r3291, h3290, h⟩ := bs h
    have hph3290 := nfigure_CheckReference_l1_0_ok k a0 a1 _ _ _ h3290
    cases r3291 with
    | inl r3292 =>
     dsimp only at h
     have e3294 := (an (ti trivial) (VRun.loop hph3290))
     injection h with h; subst h
     exact fun_ok pm pn Try.func11 (r0 := VV.tu [vi 0, vi 22]) (ans := [.reg (nN 4 []), .reg (.n :: .n :: .call (vi r3214) :: .n :: []), .reg (.n :: .n :: []), .br false, .reg (.n :: .n :: .call (VV.tu [vi r3218.1, vb r3218.2]) :: nN 5 []), .reg (.n :: []), .br false, .reg (nN 3 []), .sub ⟨[(2, none), (3, none), (28, none), (29, none)], [none, none], []⟩ (.exit 0) (nfigure_CheckReference_l0_0_e1 a0 a1 r3256), .reg (nN 3 []), .sub ⟨[(2, none), (3, none), (41, none), (42, none)], [none, none], []⟩ .ret (nfigure_CheckReference_l1_0_e0 a0 a1 r3292)]) (fr := true) (by kernel_rfl) (an (an (ti (ti (ti (ti trivial)))) (an (an e3216 (an (ti (ti trivial)) (an (not_f (decide_eq_true h3217)) trivial))) (an (an e3220 (an (ti trivial) (an (bool_f h3221) trivial))) (an (an (ti (ti (ti trivial))) e3258) (an (ti (ti (ti trivial))) e3294))))) (ti (ti trivial))) (Wv.refl _)
    | inr r3293 =>
     dsimp only at h
     have e3295 := (an (ti trivial) (VRun.loop hph3290))
     have e3296 := (show (0:Int) <= 0 /\ (0:Int) < ((2 : Nat) : Int) from ⟨by decide, by decide⟩)
     have e3297 := (show (0:Int) <= 1 /\ (1:Int) < ((2 : Nat) : Int) from ⟨by decide, by decide⟩)
     obtain ⟨r3298, h3299, h⟩ := bs h
     have e3300 := (nfigure_areAround_ok k a0 a1.Touch.e0 a1.Touch.e1 _ h3299)
     have e3301 := (ti (ti (an e3296 (ti (ti (an e3297 (ti (an e3300 (ti trivial)))))))))
     rcases ifs h with ⟨h3302, h⟩ | ⟨h3302, h⟩
     ·injection h with h; subst h
      exact fun_ok pm pn Try.func11 (r0 := VV.tu [vi 0, vi 0]) (ans := [.reg (nN 4 []), .reg (.n :: .n :: .call (vi r3214) :: .n :: []), .reg (.n :: .n :: []), .br false, .reg (.n :: .n :: .call (VV.tu [vi r3218.1, vb r3218.2]) :: nN 5 []), .reg (.n :: []), .br false, .reg (nN 3 []), .sub ⟨[(2, none), (3, none), (28, none), (29, none)], [none, none], []⟩ (.exit 0) (nfigure_CheckReference_l0_0_e1 a0 a1 r3256), .reg (nN 3 []), .sub ⟨[(2, none), (3, none), (41, none), (42, none)], [none, none], []⟩ (.exit 2) (nfigure_CheckReference_l1_0_e1 a0 a1 r3293), .reg (nN 7 (.call (vb r3298) :: .n :: [])), .br false, .reg (.n :: .n :: [])]) (fr := true) (by kernel_rfl) (an (an (ti (ti (ti (ti trivial)))) (an (an e3216 (an (ti (ti trivial)) (an (not_f (decide_eq_true h3217)) trivial))) (an (an e3220 (an (ti trivial) (an (bool_f h3221) trivial))) (an (an (ti (ti (ti trivial))) e3258) (an (an (ti (ti (ti trivial))) e3295) (an (an e3301 (an (not_f h3302) trivial)) (an (ti (ti trivial)) trivial))))))) (ti (ti trivial))) (Wv.refl _)
     ·injection h with h; subst h
      exact fun_ok pm pn Try.func11 (r0 := VV.tu [vi 0, vi 22]) (ans := [.reg (nN 4 []), .reg (.n :: .n :: .call (vi r3214) :: .n :: []), .reg (.n :: .n :: []), .br false, .reg (.n :: .n :: .call (VV.tu [vi r3218.1, vb r3218.2]) :: nN 5 []), .reg (.n :: []), .br false, .reg (nN 3 []), .sub ⟨[(2, none), (3, none), (28, none), (29, none)], [none, none], []⟩ (.exit 0) (nfigure_CheckReference_l0_0_e1 a0 a1 r3256), .reg (nN 3 []), .sub ⟨[(2, none), (3, none), (41, none), (42, none)], [none, none], []⟩ (.exit 2) (nfigure_CheckReference_l1_0_e1 a0 a1 r3293), .reg (nN 7 (.call (vb r3298) :: .n :: [])), .br true, .reg (.n :: .n :: [])]) (fr := true) (by kernel_rfl) (an (an (ti (ti (ti (ti trivial)))) (an (an e3216 (an (ti (ti trivial)) (an (not_f (decide_eq_true h3217)) trivial))) (an (an e3220 (an (ti trivial) (an (bool_f h3221) trivial))) (an (an (ti (ti (ti trivial))) e3258) (an (an (ti (ti (ti trivial))) e3295) (an e3301 (an (not_t (bool_f h3302)) (an (ti (ti trivial)) trivial)))))))) (ti (ti trivial))) (Wv.refl _)
 ·injection h with h; subst h
  exact fun_ok pm pn Try.func11 (r0 := VV.tu [vi 0, vi r3214]) (ans := [.reg (nN 4 []), .reg (.n :: .n :: .call (vi r3214) :: .n :: []), .reg (.n :: .n :: []), .br true, .reg (nN 3 [])]) (fr := true) (by kernel_rfl) (an (an (ti (ti (ti (ti trivial)))) (an e3216 (an (ti (ti trivial)) (an (not_t (decide_eq_false h3217)) (an (ti (ti (ti trivial))) trivial))))) (ti (ti trivial))) (Wv.refl _)
end Go.Proofs.Ytclgijochagpdaa.Vg

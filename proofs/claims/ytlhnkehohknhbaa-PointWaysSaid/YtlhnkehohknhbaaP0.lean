/- Written by a program out of the program: what Go functions do, as plain functions, and their contracts. -/
import Derived.Test.YtlhnkehohknhbaaB1
namespace Go.Proofs.Ytlhnkehohknhbaa.Vg
set_option linter.unusedVariables false
set_option linter.unusedSimpArgs false
open Go Go.Proofs.Ytlhnkehohknhbaa.Ev Go.Proofs.Ytlhnkehohknhbaa.Vv
def nawake (k : Nat) : Option Bool := some true
theorem nawake_ok (k : Nat) (r : Bool) (h : nawake k = some r) : VC Go.Proofs.Try.prog 20 [] (vb r) := by
  injection h with h; subst h
  exact vc_awake
def npoint_wayBetween (k : Nat) (a0 : Int) (a1 : Int) : Option (Int × Bool) :=
  some (maxI (w64 (a1 - a0)) (w64 (a0 - a1)), decide (648000 < (maxI (w64 (a1 - a0)) (w64 (a0 - a1)))))
set_option maxRecDepth 100000 in
set_option maxHeartbeats 4000000 in
theorem npoint_wayBetween_ok (k : Nat) (a0 : Int) (a1 : Int) (r : (Int × Bool)) (h : npoint_wayBetween k a0 a1 = some r) : VC Go.Proofs.Try.prog 112 [vi a0, vi a1] (VV.tu [vi r.1, vb r.2]) := by
  unfold npoint_wayBetween at h
  injection h with h; subst h
  exact fun_ok pm pn Go.Proofs.Try.func112 (r0 := VV.tu [vi (maxI (w64 (a1 - a0)) (w64 (a0 - a1))), vb (decide (648000 < (maxI (w64 (a1 - a0)) (w64 (a0 - a1)))))]) (ans := [.reg [.n, .n], .reg [.n, .n, .n, .n, .n, .n, .n, .n], .reg [.n, .n, .n, .n, .n]]) (fr := true) (by kernel_rfl) (an (an (ti (ti trivial)) (an (ti (ti (ti (ti (ti (ti (ti (ti trivial)))))))) (an (ti (ti (ti (ti (ti trivial))))) trivial))) (ti (ti trivial))) (Wv.refl _)
def npoint_Way (k : Nat) (a0 : Int) (a1 : Int) : Option (Int × Bool × Int) :=
  (npoint_areSmall k 25920000 ([a0, a1] : List Int)).bind fun r323 => (if r323 = true then ((npoint_wayBetween k a0 a1).bind fun r326 => (some (r326.1, r326.2, 0))) else (some (0, false, 2)))
set_option maxRecDepth 100000 in
set_option maxHeartbeats 4000000 in
theorem npoint_Way_ok (k : Nat) (a0 : Int) (a1 : Int) (r : (Int × Bool × Int)) (h : npoint_Way k a0 a1 = some r) : VC Go.Proofs.Try.prog 61 [vi a0, vi a1] (VV.tu [vi r.1, vb r.2.1, vi r.2.2]) := by
  unfold npoint_Way at h
  cases h324 : npoint_areSmall k 25920000 ([a0, a1] : List Int) with
  | none => rw [h324] at h; cases h
  | some r323 =>
    rw [h324, Option.bind_some] at h
    by_cases h325 : r323 = true
    · rw [if_pos h325] at h
      cases h327 : npoint_wayBetween k a0 a1 with
      | none => rw [h327] at h; cases h
      | some r326 =>
        rw [h327, Option.bind_some] at h
        injection h with h; subst h
        exact fun_ok pm pn Go.Proofs.Try.func61 (r0 := VV.tu [vi r326.1, vb r326.2, vi 0]) (ans := [.reg [.n, .n, .n], .reg [.n, .n, .n, .call (vb r323), .n], .br false, .reg [.n, .n, .call (VV.tu [vi r326.1, vb r326.2]), .n, .n, .n, .n, .n], .reg [.n, .n, .n, .n, .n]]) (fr := true) (by kernel_rfl) (an (an (ti (ti (ti trivial))) (an (an (ti (ti (ti (an (show VC Go.Proofs.Try.prog 85 [vi 25920000, VV.tr (List.drop 0 (List.map unfr [vi a0, vi a1])) 2] (vb r323) from (VC.args (npoint_areSmall_ok k 25920000 ([a0, a1] : List Int) _ h324) (by first | rfl | simp only [show [vi a0, vi a1] = List.map vi ([a0, a1] : List Int) from rfl, drop0, unfr_vi, unfr_vb, unfr_vs, List.map_cons, List.map_nil, un_i, un_k, un_b, un_s, un_tr, un_fr, List.length_map, List.length_replicate, List.length_append, List.length_set, List.length_cons, List.length_nil, unfr_c_SSkyRow]))) (ti trivial))))) (an (not_f h325) trivial)) (an (ti (ti (an (npoint_wayBetween_ok k a0 a1 _ h327) (ti (ti (ti (ti (ti trivial)))))))) (an (ti (ti (ti (ti (ti trivial))))) trivial)))) (ti (ti (ti trivial)))) (Wv.refl _)
    · rw [if_neg h325] at h
      injection h with h; subst h
      exact fun_ok pm pn Go.Proofs.Try.func61 (r0 := VV.tu [vi 0, vb false, vi 2]) (ans := [.reg [.n, .n, .n], .reg [.n, .n, .n, .call (vb r323), .n], .br true, .reg [.n, .n, .n]]) (fr := true) (by kernel_rfl) (an (an (ti (ti (ti trivial))) (an (ti (ti (ti (an (show VC Go.Proofs.Try.prog 85 [vi 25920000, VV.tr (List.drop 0 (List.map unfr [vi a0, vi a1])) 2] (vb r323) from (VC.args (npoint_areSmall_ok k 25920000 ([a0, a1] : List Int) _ h324) (by first | rfl | simp only [show [vi a0, vi a1] = List.map vi ([a0, a1] : List Int) from rfl, drop0, unfr_vi, unfr_vb, unfr_vs, List.map_cons, List.map_nil, un_i, un_k, un_b, un_s, un_tr, un_fr, List.length_map, List.length_replicate, List.length_append, List.length_set, List.length_cons, List.length_nil, unfr_c_SSkyRow]))) (ti trivial))))) (an (not_t (bool_f h325)) (an (ti (ti (ti trivial))) trivial)))) (ti (ti (ti trivial)))) (Wv.refl _)
def nspeculumref09_IsPosition (k : Nat) (a0 : Int) : Option Bool :=
  (nspeculumbase_Within k a0 (-25920000) 25920000).bind fun r332 => (some r332)
set_option maxRecDepth 100000 in
set_option maxHeartbeats 4000000 in
theorem nspeculumref09_IsPosition_ok (k : Nat) (a0 : Int) (r : Bool) (h : nspeculumref09_IsPosition k a0 = some r) : VC Go.Proofs.Try.prog 62 [vi a0] (vb r) := by
  unfold nspeculumref09_IsPosition at h
  cases h333 : nspeculumbase_Within k a0 (-25920000) 25920000 with
  | none => rw [h333] at h; cases h
  | some r332 =>
    rw [h333, Option.bind_some] at h
    injection h with h; subst h
    exact fun_ok pm pn Go.Proofs.Try.func62 (r0 := vb r332) (ans := [.reg [.n], .reg [.n, .call (vb r332), .n]]) (fr := true) (by kernel_rfl) (an (an (ti trivial) (an (ti (an (nspeculumbase_Within_ok k a0 (-25920000) 25920000 _ h333) (ti trivial))) trivial)) (ti trivial)) (Wv.refl _)
def nspeculumbase_Abs (k : Nat) (a0 : Int) : Option Int :=
  if a0 < 0 then (some (w64 (0 - a0))) else (some a0)
set_option maxRecDepth 100000 in
set_option maxHeartbeats 4000000 in
theorem nspeculumbase_Abs_ok (k : Nat) (a0 : Int) (r : Int) (h : nspeculumbase_Abs k a0 = some r) : VC Go.Proofs.Try.prog 113 [vi a0] (vi r) := by
  unfold nspeculumbase_Abs at h
  by_cases h341 : a0 < 0
  · rw [if_pos h341] at h
    injection h with h; subst h
    exact fun_ok pm pn Go.Proofs.Try.func113 (r0 := vi (w64 (0 - a0))) (ans := [.reg [.n], .reg [.n, .n], .br true, .reg [.n, .n, .n]]) (fr := true) (by kernel_rfl) (an (an (ti trivial) (an (ti (ti trivial)) (an (decide_eq_true h341) (an (ti (ti (ti trivial))) trivial)))) (ti trivial)) (Wv.refl _)
  · rw [if_neg h341] at h
    injection h with h; subst h
    exact fun_ok pm pn Go.Proofs.Try.func113 (r0 := vi a0) (ans := [.reg [.n], .reg [.n, .n], .br false, .reg [.n, .n]]) (fr := true) (by kernel_rfl) (an (an (ti trivial) (an (an (ti (ti trivial)) (an (decide_eq_false h341) trivial)) (an (ti (ti trivial)) trivial))) (ti trivial)) (Wv.refl _)
def nspeculumref09_Way (k : Nat) (a0 : Int) (a1 : Int) : Option (Int × Bool) :=
  (nspeculumbase_Abs k (w64 (a1 - a0))).bind fun r344 => (some (r344, decide (648000 < r344)))
set_option maxRecDepth 100000 in
set_option maxHeartbeats 4000000 in
theorem nspeculumref09_Way_ok (k : Nat) (a0 : Int) (a1 : Int) (r : (Int × Bool)) (h : nspeculumref09_Way k a0 a1 = some r) : VC Go.Proofs.Try.prog 63 [vi a0, vi a1] (VV.tu [vi r.1, vb r.2]) := by
  unfold nspeculumref09_Way at h
  cases h345 : nspeculumbase_Abs k (w64 (a1 - a0)) with
  | none => rw [h345] at h; cases h
  | some r344 =>
    rw [h345, Option.bind_some] at h
    injection h with h; subst h
    exact fun_ok pm pn Go.Proofs.Try.func63 (r0 := VV.tu [vi r344, vb (decide (648000 < r344))]) (ans := [.reg [.n, .n], .reg [.n, .n, .n, .call (vi r344), .n], .reg [.n, .n, .n, .n, .n]]) (fr := true) (by kernel_rfl) (an (an (ti (ti trivial)) (an (ti (ti (ti (an (nspeculumbase_Abs_ok k (w64 (a1 - a0)) _ h345) (ti trivial))))) (an (ti (ti (ti (ti (ti trivial))))) trivial))) (ti (ti trivial))) (Wv.refl _)
def nspeculumlaw09_PointWays (k : Nat) (a0 : Int) (a1 : Int) : Option Bool :=
  (nawake k).bind fun r354 => (if r354 = true then ((npoint_Way k a0 a1).bind fun r357 => ((nspeculumref09_IsPosition k a0).bind fun r359 => (if r359 = true then ((nspeculumref09_IsPosition k a1).bind fun r362 => (if r362 = true then ((nspeculumref09_Way k a0 a1).bind fun r365 => (if r357.2.2 = 0 then (if r357.1 = r365.1 then (some (r357.2.1 == r365.2)) else (some false)) else (some false))) else (if r357.2.2 = 2 then (if r357.1 = 0 then (some (!r357.2.1)) else (some false)) else (some false)))) else (if r357.2.2 = 2 then (if r357.1 = 0 then (some (!r357.2.1)) else (some false)) else (some false))))) else (some false))
set_option maxRecDepth 100000 in
set_option maxHeartbeats 4000000 in
theorem nspeculumlaw09_PointWays_ok (k : Nat) (a0 : Int) (a1 : Int) (r : Bool) (h : nspeculumlaw09_PointWays k a0 a1 = some r) : VC Go.Proofs.Try.prog 10 [vi a0, vi a1] (vb r) := by
  unfold nspeculumlaw09_PointWays at h
  cases h355 : nawake k with
  | none => rw [h355] at h; cases h
  | some r354 =>
    rw [h355, Option.bind_some] at h
    by_cases h356 : r354 = true
    · rw [if_pos h356] at h
      cases h358 : npoint_Way k a0 a1 with
      | none => rw [h358] at h; cases h
      | some r357 =>
        rw [h358, Option.bind_some] at h
        cases h360 : nspeculumref09_IsPosition k a0 with
        | none => rw [h360] at h; cases h
        | some r359 =>
          rw [h360, Option.bind_some] at h
          by_cases h361 : r359 = true
          · rw [if_pos h361] at h
            cases h363 : nspeculumref09_IsPosition k a1 with
            | none => rw [h363] at h; cases h
            | some r362 =>
              rw [h363, Option.bind_some] at h
              by_cases h364 : r362 = true
              · rw [if_pos h364] at h
                cases h366 : nspeculumref09_Way k a0 a1 with
                | none => rw [h366] at h; cases h
                | some r365 =>
                  rw [h366, Option.bind_some] at h
                  by_cases h367 : r357.2.2 = 0
                  · rw [if_pos h367] at h
                    by_cases h368 : r357.1 = r365.1
                    · rw [if_pos h368] at h
                      injection h with h; subst h
                      exact fun_ok pm pn Go.Proofs.Try.func10 (r0 := vb (r357.2.1 == r365.2)) (ans := [.reg [.n], .reg [.call (vb r354), .n], .br false, .reg [.n, .n, .call (VV.tu [vi r357.1, vb r357.2.1, vi r357.2.2]), .n, .n, .n, .n, .n, .n, .n], .reg [.n, .call (vb r359), .n, .n, .n, .call (vb r362), .n, .b false], .br false, .reg [.n, .n, .call (VV.tu [vi r365.1, vb r365.2]), .n, .n, .n, .n, .n], .reg [.n, .n, .n, .n, .n, .n, .b true, .n, .n, .n, .n, .b true, .n]]) (fr := true) (by kernel_rfl) (an (an (ti trivial) (an (an (an (nawake_ok k _ h355) (ti trivial)) (an (not_f h356) trivial)) (an (ti (ti (an (npoint_Way_ok k a0 a1 _ h358) (ti (ti (ti (ti (ti (ti (ti trivial)))))))))) (an (an (ti (an (nspeculumref09_IsPosition_ok k a0 _ h360) (ti (ti (an (an (not_f h361) trivial) (an (an (not_f h361) (nspeculumref09_IsPosition_ok k a1 _ h363)) (an (an (not_f h361) trivial) (an (not_f h361) trivial)))))))) (an (not_f h364) trivial)) (an (ti (ti (an (nspeculumref09_Way_ok k a0 a1 _ h366) (ti (ti (ti (ti (ti trivial)))))))) (an (ti (ti (ti (an (an (decide_eq_true h367) trivial) (an (an (decide_eq_true h367) trivial) (an (an (decide_eq_true h367) trivial) (an (decide_eq_true h367) (ti (an (an (decide_eq_true h368) trivial) (an (an (decide_eq_true h368) trivial) (an (an (decide_eq_true h368) trivial) (an (decide_eq_true h368) (ti trivial))))))))))))) trivial)))))) (ti trivial)) (Wv.refl _)
                    · rw [if_neg h368] at h
                      injection h with h; subst h
                      exact fun_ok pm pn Go.Proofs.Try.func10 (r0 := vb false) (ans := [.reg [.n], .reg [.call (vb r354), .n], .br false, .reg [.n, .n, .call (VV.tu [vi r357.1, vb r357.2.1, vi r357.2.2]), .n, .n, .n, .n, .n, .n, .n], .reg [.n, .call (vb r359), .n, .n, .n, .call (vb r362), .n, .b false], .br false, .reg [.n, .n, .call (VV.tu [vi r365.1, vb r365.2]), .n, .n, .n, .n, .n], .reg [.n, .n, .n, .n, .n, .n, .b true, .n, .skip, .skip, .skip, .b false, .n]]) (fr := true) (by kernel_rfl) (an (an (ti trivial) (an (an (an (nawake_ok k _ h355) (ti trivial)) (an (not_f h356) trivial)) (an (ti (ti (an (npoint_Way_ok k a0 a1 _ h358) (ti (ti (ti (ti (ti (ti (ti trivial)))))))))) (an (an (ti (an (nspeculumref09_IsPosition_ok k a0 _ h360) (ti (ti (an (an (not_f h361) trivial) (an (an (not_f h361) (nspeculumref09_IsPosition_ok k a1 _ h363)) (an (an (not_f h361) trivial) (an (not_f h361) trivial)))))))) (an (not_f h364) trivial)) (an (ti (ti (an (nspeculumref09_Way_ok k a0 a1 _ h366) (ti (ti (ti (ti (ti trivial)))))))) (an (ti (ti (ti (an (an (decide_eq_true h367) trivial) (an (an (decide_eq_true h367) trivial) (an (an (decide_eq_true h367) trivial) (an (decide_eq_true h367) (ti (an (decide_eq_false h368) (an (decide_eq_false h368) (an (decide_eq_false h368) (an (decide_eq_false h368) (ti trivial))))))))))))) trivial)))))) (ti trivial)) (Wv.refl _)
                  · rw [if_neg h367] at h
                    injection h with h; subst h
                    exact fun_ok pm pn Go.Proofs.Try.func10 (r0 := vb false) (ans := [.reg [.n], .reg [.call (vb r354), .n], .br false, .reg [.n, .n, .call (VV.tu [vi r357.1, vb r357.2.1, vi r357.2.2]), .n, .n, .n, .n, .n, .n, .n], .reg [.n, .call (vb r359), .n, .n, .n, .call (vb r362), .n, .b false], .br false, .reg [.n, .n, .call (VV.tu [vi r365.1, vb r365.2]), .n, .n, .n, .n, .n], .reg [.n, .n, .n, .skip, .skip, .skip, .b false, .n, .skip, .skip, .skip, .b false, .n]]) (fr := true) (by kernel_rfl) (an (an (ti trivial) (an (an (an (nawake_ok k _ h355) (ti trivial)) (an (not_f h356) trivial)) (an (ti (ti (an (npoint_Way_ok k a0 a1 _ h358) (ti (ti (ti (ti (ti (ti (ti trivial)))))))))) (an (an (ti (an (nspeculumref09_IsPosition_ok k a0 _ h360) (ti (ti (an (an (not_f h361) trivial) (an (an (not_f h361) (nspeculumref09_IsPosition_ok k a1 _ h363)) (an (an (not_f h361) trivial) (an (not_f h361) trivial)))))))) (an (not_f h364) trivial)) (an (ti (ti (an (nspeculumref09_Way_ok k a0 a1 _ h366) (ti (ti (ti (ti (ti trivial)))))))) (an (ti (ti (ti (an (decide_eq_false h367) (an (decide_eq_false h367) (an (decide_eq_false h367) (an (decide_eq_false h367) (ti (an rf (an rf (an rf (an rf (ti trivial))))))))))))) trivial)))))) (ti trivial)) (Wv.refl _)
              · rw [if_neg h364] at h
                by_cases h369 : r357.2.2 = 2
                · rw [if_pos h369] at h
                  by_cases h370 : r357.1 = 0
                  · rw [if_pos h370] at h
                    injection h with h; subst h
                    exact fun_ok pm pn Go.Proofs.Try.func10 (r0 := vb (!r357.2.1)) (ans := [.reg [.n], .reg [.call (vb r354), .n], .br false, .reg [.n, .n, .call (VV.tu [vi r357.1, vb r357.2.1, vi r357.2.2]), .n, .n, .n, .n, .n, .n, .n], .reg [.n, .call (vb r359), .n, .n, .n, .call (vb r362), .n, .b false], .br true, .reg [.n, .n, .n, .n, .n, .b true, .n, .n, .n, .b true, .n]]) (fr := true) (by kernel_rfl) (an (an (ti trivial) (an (an (an (nawake_ok k _ h355) (ti trivial)) (an (not_f h356) trivial)) (an (ti (ti (an (npoint_Way_ok k a0 a1 _ h358) (ti (ti (ti (ti (ti (ti (ti trivial)))))))))) (an (ti (an (nspeculumref09_IsPosition_ok k a0 _ h360) (ti (ti (an (an (not_f h361) trivial) (an (an (not_f h361) (nspeculumref09_IsPosition_ok k a1 _ h363)) (an (an (not_f h361) trivial) (an (not_f h361) trivial)))))))) (an (not_t (bool_f h364)) (an (ti (ti (ti (an (an (decide_eq_true h369) trivial) (an (an (decide_eq_true h369) trivial) (an (decide_eq_true h369) (ti (an (an (decide_eq_true h370) trivial) (an (an (decide_eq_true h370) trivial) (an (decide_eq_true h370) (ti trivial))))))))))) trivial)))))) (ti trivial)) (Wv.refl _)
                  · rw [if_neg h370] at h
                    injection h with h; subst h
                    exact fun_ok pm pn Go.Proofs.Try.func10 (r0 := vb false) (ans := [.reg [.n], .reg [.call (vb r354), .n], .br false, .reg [.n, .n, .call (VV.tu [vi r357.1, vb r357.2.1, vi r357.2.2]), .n, .n, .n, .n, .n, .n, .n], .reg [.n, .call (vb r359), .n, .n, .n, .call (vb r362), .n, .b false], .br true, .reg [.n, .n, .n, .n, .n, .b true, .n, .skip, .skip, .b false, .n]]) (fr := true) (by kernel_rfl) (an (an (ti trivial) (an (an (an (nawake_ok k _ h355) (ti trivial)) (an (not_f h356) trivial)) (an (ti (ti (an (npoint_Way_ok k a0 a1 _ h358) (ti (ti (ti (ti (ti (ti (ti trivial)))))))))) (an (ti (an (nspeculumref09_IsPosition_ok k a0 _ h360) (ti (ti (an (an (not_f h361) trivial) (an (an (not_f h361) (nspeculumref09_IsPosition_ok k a1 _ h363)) (an (an (not_f h361) trivial) (an (not_f h361) trivial)))))))) (an (not_t (bool_f h364)) (an (ti (ti (ti (an (an (decide_eq_true h369) trivial) (an (an (decide_eq_true h369) trivial) (an (decide_eq_true h369) (ti (an (decide_eq_false h370) (an (decide_eq_false h370) (an (decide_eq_false h370) (ti trivial))))))))))) trivial)))))) (ti trivial)) (Wv.refl _)
                · rw [if_neg h369] at h
                  injection h with h; subst h
                  exact fun_ok pm pn Go.Proofs.Try.func10 (r0 := vb false) (ans := [.reg [.n], .reg [.call (vb r354), .n], .br false, .reg [.n, .n, .call (VV.tu [vi r357.1, vb r357.2.1, vi r357.2.2]), .n, .n, .n, .n, .n, .n, .n], .reg [.n, .call (vb r359), .n, .n, .n, .call (vb r362), .n, .b false], .br true, .reg [.n, .n, .n, .skip, .skip, .b false, .n, .skip, .skip, .b false, .n]]) (fr := true) (by kernel_rfl) (an (an (ti trivial) (an (an (an (nawake_ok k _ h355) (ti trivial)) (an (not_f h356) trivial)) (an (ti (ti (an (npoint_Way_ok k a0 a1 _ h358) (ti (ti (ti (ti (ti (ti (ti trivial)))))))))) (an (ti (an (nspeculumref09_IsPosition_ok k a0 _ h360) (ti (ti (an (an (not_f h361) trivial) (an (an (not_f h361) (nspeculumref09_IsPosition_ok k a1 _ h363)) (an (an (not_f h361) trivial) (an (not_f h361) trivial)))))))) (an (not_t (bool_f h364)) (an (ti (ti (ti (an (decide_eq_false h369) (an (decide_eq_false h369) (an (decide_eq_false h369) (ti (an rf (an rf (an rf (ti trivial))))))))))) trivial)))))) (ti trivial)) (Wv.refl _)
          · rw [if_neg h361] at h
            by_cases h371 : r357.2.2 = 2
            · rw [if_pos h371] at h
              by_cases h372 : r357.1 = 0
              · rw [if_pos h372] at h
                injection h with h; subst h
                exact fun_ok pm pn Go.Proofs.Try.func10 (r0 := vb (!r357.2.1)) (ans := [.reg [.n], .reg [.call (vb r354), .n], .br false, .reg [.n, .n, .call (VV.tu [vi r357.1, vb r357.2.1, vi r357.2.2]), .n, .n, .n, .n, .n, .n, .n], .reg [.n, .call (vb r359), .n, .n, .skip, .skip, .skip, .b true], .br true, .reg [.n, .n, .n, .n, .n, .b true, .n, .n, .n, .b true, .n]]) (fr := true) (by kernel_rfl) (an (an (ti trivial) (an (an (an (nawake_ok k _ h355) (ti trivial)) (an (not_f h356) trivial)) (an (ti (ti (an (npoint_Way_ok k a0 a1 _ h358) (ti (ti (ti (ti (ti (ti (ti trivial)))))))))) (an (ti (an (nspeculumref09_IsPosition_ok k a0 _ h360) (ti (ti (an (not_t (bool_f h361)) (an (not_t (bool_f h361)) (an (not_t (bool_f h361)) (an (not_t (bool_f h361)) trivial)))))))) (an rt (an (ti (ti (ti (an (an (decide_eq_true h371) trivial) (an (an (decide_eq_true h371) trivial) (an (decide_eq_true h371) (ti (an (an (decide_eq_true h372) trivial) (an (an (decide_eq_true h372) trivial) (an (decide_eq_true h372) (ti trivial))))))))))) trivial)))))) (ti trivial)) (Wv.refl _)
              · rw [if_neg h372] at h
                injection h with h; subst h
                exact fun_ok pm pn Go.Proofs.Try.func10 (r0 := vb false) (ans := [.reg [.n], .reg [.call (vb r354), .n], .br false, .reg [.n, .n, .call (VV.tu [vi r357.1, vb r357.2.1, vi r357.2.2]), .n, .n, .n, .n, .n, .n, .n], .reg [.n, .call (vb r359), .n, .n, .skip, .skip, .skip, .b true], .br true, .reg [.n, .n, .n, .n, .n, .b true, .n, .skip, .skip, .b false, .n]]) (fr := true) (by kernel_rfl) (an (an (ti trivial) (an (an (an (nawake_ok k _ h355) (ti trivial)) (an (not_f h356) trivial)) (an (ti (ti (an (npoint_Way_ok k a0 a1 _ h358) (ti (ti (ti (ti (ti (ti (ti trivial)))))))))) (an (ti (an (nspeculumref09_IsPosition_ok k a0 _ h360) (ti (ti (an (not_t (bool_f h361)) (an (not_t (bool_f h361)) (an (not_t (bool_f h361)) (an (not_t (bool_f h361)) trivial)))))))) (an rt (an (ti (ti (ti (an (an (decide_eq_true h371) trivial) (an (an (decide_eq_true h371) trivial) (an (decide_eq_true h371) (ti (an (decide_eq_false h372) (an (decide_eq_false h372) (an (decide_eq_false h372) (ti trivial))))))))))) trivial)))))) (ti trivial)) (Wv.refl _)
            · rw [if_neg h371] at h
              injection h with h; subst h
              exact fun_ok pm pn Go.Proofs.Try.func10 (r0 := vb false) (ans := [.reg [.n], .reg [.call (vb r354), .n], .br false, .reg [.n, .n, .call (VV.tu [vi r357.1, vb r357.2.1, vi r357.2.2]), .n, .n, .n, .n, .n, .n, .n], .reg [.n, .call (vb r359), .n, .n, .skip, .skip, .skip, .b true], .br true, .reg [.n, .n, .n, .skip, .skip, .b false, .n, .skip, .skip, .b false, .n]]) (fr := true) (by kernel_rfl) (an (an (ti trivial) (an (an (an (nawake_ok k _ h355) (ti trivial)) (an (not_f h356) trivial)) (an (ti (ti (an (npoint_Way_ok k a0 a1 _ h358) (ti (ti (ti (ti (ti (ti (ti trivial)))))))))) (an (ti (an (nspeculumref09_IsPosition_ok k a0 _ h360) (ti (ti (an (not_t (bool_f h361)) (an (not_t (bool_f h361)) (an (not_t (bool_f h361)) (an (not_t (bool_f h361)) trivial)))))))) (an rt (an (ti (ti (ti (an (decide_eq_false h371) (an (decide_eq_false h371) (an (decide_eq_false h371) (ti (an rf (an rf (an rf (ti trivial))))))))))) trivial)))))) (ti trivial)) (Wv.refl _)
    · rw [if_neg h356] at h
      injection h with h; subst h
      exact fun_ok pm pn Go.Proofs.Try.func10 (r0 := vb false) (ans := [.reg [.n], .reg [.call (vb r354), .n], .br true, .reg [.n]]) (fr := true) (by kernel_rfl) (an (an (ti trivial) (an (an (nawake_ok k _ h355) (ti trivial)) (an (not_t (bool_f h356)) (an (ti trivial) trivial)))) (ti trivial)) (Wv.refl _)
end Go.Proofs.Ytlhnkehohknhbaa.Vg

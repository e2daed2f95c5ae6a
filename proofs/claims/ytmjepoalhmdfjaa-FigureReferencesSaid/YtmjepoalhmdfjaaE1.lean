import Derived.Test.YtmjepoalhmdfjaaVp
namespace Go.Proofs.Ytmjepoalhmdfjaa.Vg
set_option maxRecDepth 100000
set_option maxHeartbeats 4000000
set_option linter.unusedVariables false
set_option linter.unusedSimpArgs false
open Go Go.Proofs.Ytmjepoalhmdfjaa.Ev Go.Proofs.Ytmjepoalhmdfjaa.Vv
open List (flatMap length_cons length_nil length_map length_append map_cons map_nil length_replicate)
structure SRemovalMap where
 Heights : (List Int)
 Q : (List Int)
 Weights : (List Int)
 deriving Inhabited
def c_SRemovalMap (x : SRemovalMap) : List VV := [VV.tr (List.map vi x.Heights) x.Heights.length, VV.tr (List.map vi x.Q) x.Q.length, VV.tr (List.map vi x.Weights) x.Weights.length]
def g_SRemovalMap (x : SRemovalMap) : List VV := [VV.fr (List.map vi x.Heights) x.Heights.length, VV.fr (List.map vi x.Q) x.Q.length, VV.fr (List.map vi x.Weights) x.Weights.length]
theorem unfr_c_SRemovalMap (xs : List SRemovalMap) : (xs.flatMap c_SRemovalMap).map unfr = xs.flatMap c_SRemovalMap := unfr_flat2 (fun _ => rfl) xs
theorem unfr_g_SRemovalMap (xs : List SRemovalMap) : (xs.flatMap g_SRemovalMap).map unfr = xs.flatMap c_SRemovalMap := unfr_flat2 (fun _ => rfl) xs
structure SFrac where
 Num : Int
 Den : Int
 deriving Inhabited
def c_SFrac (x : SFrac) : List VV := [vi x.Num, vi x.Den]
theorem unfr_c_SFrac (xs : List SFrac) : (xs.flatMap c_SFrac).map unfr = xs.flatMap c_SFrac := unfr_flat (fun _ => rfl) xs
structure A27 where
 e0 : Int
 e1 : Int
 deriving Inhabited
def c_A27 (x : A27) : List VV := [vi x.e0, vi x.e1]
theorem unfr_c_A27 (xs : List A27) : (xs.flatMap c_A27).map unfr = xs.flatMap c_A27 := unfr_flat (fun _ => rfl) xs
structure SLowerLine where
 Start : SFrac
 Slope : SFrac
 Touch : A27
 deriving Inhabited
def c_SLowerLine (x : SLowerLine) : List VV := [vi x.Start.Num, vi x.Start.Den, vi x.Slope.Num, vi x.Slope.Den, vi x.Touch.e0, vi x.Touch.e1]
theorem unfr_c_SLowerLine (xs : List SLowerLine) : (xs.flatMap c_SLowerLine).map unfr = xs.flatMap c_SLowerLine := unfr_flat (fun _ => rfl) xs
theorem ag3 : isAggT Try.prog 3 = some false := by kernel_rfl
def nspeculumlaw06_Few_l0_0_h (a0 : SRemovalMap) (x15 : Int) : VS := ⟨mkA [(14, VV.ag [vi (a0.Heights.length : Int), vi (a0.Q.length : Int), vi (a0.Weights.length : Int)]), (15, vi x15)], [], .nil⟩
def nspeculumlaw06_Few_l0_0_e0 (a0 : SRemovalMap) (r : Unit) : VS := ⟨mkA [(2, vb false)], [], .nil⟩
def nspeculumlaw06_Few_l0_0_e1 (a0 : SRemovalMap) (r : Unit) : VS := ⟨mkA [], [], .nil⟩
def nspeculumlaw06_Few_l0_0 (k : Nat) (a0 : SRemovalMap) : Nat -> Int -> Option (Sum Unit Unit)
 | 0, _ => none
 | fuel + 1, x15 => if x15 < 3 then (if x15 = 0 then (if 10 < (a0.Heights.length : Int) then (if (a0.Heights.length : Int) <= 40 then (some (.inl ())) else (if 42 < (a0.Heights.length : Int) then (some (.inl ())) else (nspeculumlaw06_Few_l0_0 k a0 fuel (w64 (x15 + 1))))) else (if 42 < (a0.Heights.length : Int) then (some (.inl ())) else (nspeculumlaw06_Few_l0_0 k a0 fuel (w64 (x15 + 1))))) else (if x15 = 1 then (if 10 < (a0.Q.length : Int) then (if (a0.Q.length : Int) <= 40 then (some (.inl ())) else (if 42 < (a0.Q.length : Int) then (some (.inl ())) else (nspeculumlaw06_Few_l0_0 k a0 fuel (w64 (x15 + 1))))) else (if 42 < (a0.Q.length : Int) then (some (.inl ())) else (nspeculumlaw06_Few_l0_0 k a0 fuel (w64 (x15 + 1))))) else (if x15 = 2 then (if 10 < (a0.Weights.length : Int) then (if (a0.Weights.length : Int) <= 40 then (some (.inl ())) else (if 42 < (a0.Weights.length : Int) then (some (.inl ())) else (nspeculumlaw06_Few_l0_0 k a0 fuel (w64 (x15 + 1))))) else (if 42 < (a0.Weights.length : Int) then (some (.inl ())) else (nspeculumlaw06_Few_l0_0 k a0 fuel (w64 (x15 + 1))))) else none))) else (some (.inr ()))
theorem nspeculumlaw06_Few_l0_0_ok (k : Nat) (a0 : SRemovalMap) : ∀ (fuel : Nat) (x15 : Int) (r : Sum Unit Unit), nspeculumlaw06_Few_l0_0 k a0 fuel x15 = some r -> (match r with | .inl r => VLoop none Try.prog (szF Try.f8) (bodyOf Try.f8 0) (nspeculumlaw06_Few_l0_0_h a0 x15) .ret (nspeculumlaw06_Few_l0_0_e0 a0 r) | .inr r => VLoop none Try.prog (szF Try.f8) (bodyOf Try.f8 0) (nspeculumlaw06_Few_l0_0_h a0 x15) (.exit 0) (nspeculumlaw06_Few_l0_0_e1 a0 r)) := by
 intro fuel
 induction fuel with
 | zero => intro x15 r h; rw [nspeculumlaw06_Few_l0_0.eq_1] at h; cases h
 | succ fuel ih =>
  intro x15 r h
  rw [nspeculumlaw06_Few_l0_0.eq_2] at h
  rcases ifs h with ⟨h209, h⟩ | ⟨h209, h⟩
  ·rcases ifs h with ⟨h210, h⟩ | ⟨h210, h⟩
   ·have e211 := (show (0:Int) <= x15 /\ x15 < ((3 : Nat) : Int) /\ partV (x15.toNat * 1) none [vi (a0.Heights.length : Int), vi (a0.Q.length : Int), vi (a0.Weights.length : Int)] = some (vi (a0.Heights.length : Int)) from ⟨by have := (of_decide_eq_true (decide_eq_true h210)); omega, by have := (of_decide_eq_true (decide_eq_true h210)); omega, by rw [show x15 = (0 : Int) from (of_decide_eq_true (decide_eq_true h210))]; rfl⟩)
    rcases ifs h with ⟨h212, h⟩ | ⟨h212, h⟩
    ·rcases ifs h with ⟨h213, h⟩ | ⟨h213, h⟩
     ·have e214 := (ti (ti (ti (an (an (decide_eq_true h212) trivial) (an (an (decide_eq_true h212) trivial) (an (decide_eq_true h212) (ti (an (decide_eq_true h213) (an (decide_eq_true h213) (an (decide_eq_true h213) trivial))))))))))
      injection h with h; subst h
      exact round_stop (c := ⟨[(2, none)], [], []⟩) (s1 := (nspeculumlaw06_Few_l0_0_e0 a0 ())) pm pn (ans := [.reg (.n :: []), .br true, .reg (.v (vi (a0.Heights.length : Int)) :: .n :: []), .reg (nN 5 (.b true :: .n :: .skip :: .skip :: .b true :: [])), .br true, .reg (.n :: [])]) (by kernel_rfl) (by intro e; cases e) (an (an (ti trivial) (an (an (decide_eq_true h209) trivial) (an (an e211 (ti trivial)) (an e214 (an rt (an (ti trivial) trivial)))))) (ti trivial))
     ·have e215 := (ti (ti (ti (an (an (decide_eq_true h212) trivial) (an (an (decide_eq_true h212) trivial) (an (decide_eq_true h212) (ti (an (an (decide_eq_false h213) trivial) (an (an (decide_eq_false h213) trivial) (an (decide_eq_false h213) trivial))))))))))
      rcases ifs h with ⟨h216, h⟩ | ⟨h216, h⟩
      ·injection h with h; subst h
       exact round_stop (c := ⟨[(2, none)], [], []⟩) (s1 := (nspeculumlaw06_Few_l0_0_e0 a0 ())) pm pn (ans := [.reg (.n :: []), .br true, .reg (.v (vi (a0.Heights.length : Int)) :: .n :: []), .reg (nN 5 (.b true :: nN 3 (.b false :: []))), .br true, .reg (.n :: [])]) (by kernel_rfl) (by intro e; cases e) (an (an (ti trivial) (an (an (decide_eq_true h209) trivial) (an (an e211 (ti trivial)) (an e215 (an (decide_eq_true h216) (an (ti trivial) trivial)))))) (ti trivial))
      ·have h2 := ih _ _ h
       obtain ⟨q, hv, hq⟩ := pkR (rd := none) (P := Try.prog) (fn := Try.f8) (k := 0) (s := (nspeculumlaw06_Few_l0_0_h a0 x15)) (ans := [.reg (.n :: []), .br true, .reg (.v (vi (a0.Heights.length : Int)) :: .n :: []), .reg (nN 5 (.b true :: nN 3 (.b false :: []))), .br false, .reg (.n :: .n :: [])]) (c := ⟨[(14, none), (15, none)], [], []⟩) (e := .normal) (s1 := (nspeculumlaw06_Few_l0_0_h a0 (w64 (x15 + 1)))) (an (an (ti trivial) (an (an (decide_eq_true h209) trivial) (an (an (an e211 (ti trivial)) (an e215 (an (decide_eq_false h216) trivial))) (ti (ti trivial))))) (ti trivial)) (by kernel_rfl)
       cases r with
       | inl r => exact round_next pm pn hv hq h2
       | inr r =>
        exact round_next pm pn hv hq h2
    ·have e217 := (ti (ti (ti (an (decide_eq_false h212) (an (decide_eq_false h212) (an (decide_eq_false h212) (ti (an (an rf trivial) (an (an rf trivial) (an rf trivial))))))))))
     rcases ifs h with ⟨h218, h⟩ | ⟨h218, h⟩
     ·injection h with h; subst h
      exact round_stop (c := ⟨[(2, none)], [], []⟩) (s1 := (nspeculumlaw06_Few_l0_0_e0 a0 ())) pm pn (ans := [.reg (.n :: []), .br true, .reg (.v (vi (a0.Heights.length : Int)) :: .n :: []), .reg (nN 3 (.skip :: .skip :: .b false :: nN 3 (.b false :: []))), .br true, .reg (.n :: [])]) (by kernel_rfl) (by intro e; cases e) (an (an (ti trivial) (an (an (decide_eq_true h209) trivial) (an (an e211 (ti trivial)) (an e217 (an (decide_eq_true h218) (an (ti trivial) trivial)))))) (ti trivial))
     ·have h2 := ih _ _ h
      obtain ⟨q, hv, hq⟩ := pkR (rd := none) (P := Try.prog) (fn := Try.f8) (k := 0) (s := (nspeculumlaw06_Few_l0_0_h a0 x15)) (ans := [.reg (.n :: []), .br true, .reg (.v (vi (a0.Heights.length : Int)) :: .n :: []), .reg (nN 3 (.skip :: .skip :: .b false :: nN 3 (.b false :: []))), .br false, .reg (.n :: .n :: [])]) (c := ⟨[(14, none), (15, none)], [], []⟩) (e := .normal) (s1 := (nspeculumlaw06_Few_l0_0_h a0 (w64 (x15 + 1)))) (an (an (ti trivial) (an (an (decide_eq_true h209) trivial) (an (an (an e211 (ti trivial)) (an e217 (an (decide_eq_false h218) trivial))) (ti (ti trivial))))) (ti trivial)) (by kernel_rfl)
      cases r with
      | inl r => exact round_next pm pn hv hq h2
      | inr r =>
       exact round_next pm pn hv hq h2
   ·rcases ifs h with ⟨h219, h⟩ | ⟨h219, h⟩
    ·have e220 := (show (0:Int) <= x15 /\ x15 < ((3 : Nat) : Int) /\ partV (x15.toNat * 1) none [vi (a0.Heights.length : Int), vi (a0.Q.length : Int), vi (a0.Weights.length : Int)] = some (vi (a0.Q.length : Int)) from ⟨by have := (of_decide_eq_true (decide_eq_true h219)); omega, by have := (of_decide_eq_true (decide_eq_true h219)); omega, by rw [show x15 = (1 : Int) from (of_decide_eq_true (decide_eq_true h219))]; rfl⟩)
     rcases ifs h with ⟨h221, h⟩ | ⟨h221, h⟩
     ·rcases ifs h with ⟨h222, h⟩ | ⟨h222, h⟩
      ·have e223 := (ti (ti (ti (an (an (decide_eq_true h221) trivial) (an (an (decide_eq_true h221) trivial) (an (decide_eq_true h221) (ti (an (decide_eq_true h222) (an (decide_eq_true h222) (an (decide_eq_true h222) trivial))))))))))
       injection h with h; subst h
       exact round_stop (c := ⟨[(2, none)], [], []⟩) (s1 := (nspeculumlaw06_Few_l0_0_e0 a0 ())) pm pn (ans := [.reg (.n :: []), .br true, .reg (.v (vi (a0.Q.length : Int)) :: .n :: []), .reg (nN 5 (.b true :: .n :: .skip :: .skip :: .b true :: [])), .br true, .reg (.n :: [])]) (by kernel_rfl) (by intro e; cases e) (an (an (ti trivial) (an (an (decide_eq_true h209) trivial) (an (an e220 (ti trivial)) (an e223 (an rt (an (ti trivial) trivial)))))) (ti trivial))
      ·have e224 := (ti (ti (ti (an (an (decide_eq_true h221) trivial) (an (an (decide_eq_true h221) trivial) (an (decide_eq_true h221) (ti (an (an (decide_eq_false h222) trivial) (an (an (decide_eq_false h222) trivial) (an (decide_eq_false h222) trivial))))))))))
       rcases ifs h with ⟨h225, h⟩ | ⟨h225, h⟩
       ·injection h with h; subst h
        exact round_stop (c := ⟨[(2, none)], [], []⟩) (s1 := (nspeculumlaw06_Few_l0_0_e0 a0 ())) pm pn (ans := [.reg (.n :: []), .br true, .reg (.v (vi (a0.Q.length : Int)) :: .n :: []), .reg (nN 5 (.b true :: nN 3 (.b false :: []))), .br true, .reg (.n :: [])]) (by kernel_rfl) (by intro e; cases e) (an (an (ti trivial) (an (an (decide_eq_true h209) trivial) (an (an e220 (ti trivial)) (an e224 (an (decide_eq_true h225) (an (ti trivial) trivial)))))) (ti trivial))
       ·have h2 := ih _ _ h
        obtain ⟨q, hv, hq⟩ := pkR (rd := none) (P := Try.prog) (fn := Try.f8) (k := 0) (s := (nspeculumlaw06_Few_l0_0_h a0 x15)) (ans := [.reg (.n :: []), .br true, .reg (.v (vi (a0.Q.length : Int)) :: .n :: []), .reg (nN 5 (.b true :: nN 3 (.b false :: []))), .br false, .reg (.n :: .n :: [])]) (c := ⟨[(14, none), (15, none)], [], []⟩) (e := .normal) (s1 := (nspeculumlaw06_Few_l0_0_h a0 (w64 (x15 + 1)))) (an (an (ti trivial) (an (an (decide_eq_true h209) trivial) (an (an (an e220 (ti trivial)) (an e224 (an (decide_eq_false h225) trivial))) (ti (ti trivial))))) (ti trivial)) (by kernel_rfl)
        cases r with
        | inl r => exact round_next pm pn hv hq h2
        | inr r =>
         exact round_next pm pn hv hq h2
     ·have e226 := (ti (ti (ti (an (decide_eq_false h221) (an (decide_eq_false h221) (an (decide_eq_false h221) (ti (an (an rf trivial) (an (an rf trivial) (an rf trivial))))))))))
      rcases ifs h with ⟨h227, h⟩ | ⟨h227, h⟩
      ·injection h with h; subst h
       exact round_stop (c := ⟨[(2, none)], [], []⟩) (s1 := (nspeculumlaw06_Few_l0_0_e0 a0 ())) pm pn (ans := [.reg (.n :: []), .br true, .reg (.v (vi (a0.Q.length : Int)) :: .n :: []), .reg (nN 3 (.skip :: .skip :: .b false :: nN 3 (.b false :: []))), .br true, .reg (.n :: [])]) (by kernel_rfl) (by intro e; cases e) (an (an (ti trivial) (an (an (decide_eq_true h209) trivial) (an (an e220 (ti trivial)) (an e226 (an (decide_eq_true h227) (an (ti trivial) trivial)))))) (ti trivial))
      ·have h2 := ih _ _ h
       obtain ⟨q, hv, hq⟩ := pkR (rd := none) (P := Try.prog) (fn := Try.f8) (k := 0) (s := (nspeculumlaw06_Few_l0_0_h a0 x15)) (ans := [.reg (.n :: []), .br true, .reg (.v (vi (a0.Q.length : Int)) :: .n :: []), .reg (nN 3 (.skip :: .skip :: .b false :: nN 3 (.b false :: []))), .br false, .reg (.n :: .n :: [])]) (c := ⟨[(14, none), (15, none)], [], []⟩) (e := .normal) (s1 := (nspeculumlaw06_Few_l0_0_h a0 (w64 (x15 + 1)))) (an (an (ti trivial) (an (an (decide_eq_true h209) trivial) (an (an (an e220 (ti trivial)) (an e226 (an (decide_eq_false h227) trivial))) (ti (ti trivial))))) (ti trivial)) (by kernel_rfl)
       cases r with
       | inl r => exact round_next pm pn hv hq h2
       | inr r =>
        exact round_next pm pn hv hq h2
    ·rcases ifs h with ⟨h228, h⟩ | ⟨h228, h⟩
     ·have e229 := (show (0:Int) <= x15 /\ x15 < ((3 : Nat) : Int) /\ partV (x15.toNat * 1) none [vi (a0.Heights.length : Int), vi (a0.Q.length : Int), vi (a0.Weights.length : Int)] = some (vi (a0.Weights.length : Int)) from ⟨by have := (of_decide_eq_true (decide_eq_true h228)); omega, by have := (of_decide_eq_true (decide_eq_true h228)); omega, by rw [show x15 = (2 : Int) from (of_decide_eq_true (decide_eq_true h228))]; rfl⟩)
      rcases ifs h with ⟨h230, h⟩ | ⟨h230, h⟩
      ·rcases ifs h with ⟨h231, h⟩ | ⟨h231, h⟩
       ·have e232 := (ti (ti (ti (an (an (decide_eq_true h230) trivial) (an (an (decide_eq_true h230) trivial) (an (decide_eq_true h230) (ti (an (decide_eq_true h231) (an (decide_eq_true h231) (an (decide_eq_true h231) trivial))))))))))
        injection h with h; subst h
        exact round_stop (c := ⟨[(2, none)], [], []⟩) (s1 := (nspeculumlaw06_Few_l0_0_e0 a0 ())) pm pn (ans := [.reg (.n :: []), .br true, .reg (.v (vi (a0.Weights.length : Int)) :: .n :: []), .reg (nN 5 (.b true :: .n :: .skip :: .skip :: .b true :: [])), .br true, .reg (.n :: [])]) (by kernel_rfl) (by intro e; cases e) (an (an (ti trivial) (an (an (decide_eq_true h209) trivial) (an (an e229 (ti trivial)) (an e232 (an rt (an (ti trivial) trivial)))))) (ti trivial))
       ·have e233 := (ti (ti (ti (an (an (decide_eq_true h230) trivial) (an (an (decide_eq_true h230) trivial) (an (decide_eq_true h230) (ti (an (an (decide_eq_false h231) trivial) (an (an (decide_eq_false h231) trivial) (an (decide_eq_false h231) trivial))))))))))
        rcases ifs h with ⟨h234, h⟩ | ⟨h234, h⟩
        ·injection h with h; subst h
         exact round_stop (c := ⟨[(2, none)], [], []⟩) (s1 := (nspeculumlaw06_Few_l0_0_e0 a0 ())) pm pn (ans := [.reg (.n :: []), .br true, .reg (.v (vi (a0.Weights.length : Int)) :: .n :: []), .reg (nN 5 (.b true :: nN 3 (.b false :: []))), .br true, .reg (.n :: [])]) (by kernel_rfl) (by intro e; cases e) (an (an (ti trivial) (an (an (decide_eq_true h209) trivial) (an (an e229 (ti trivial)) (an e233 (an (decide_eq_true h234) (an (ti trivial) trivial)))))) (ti trivial))
        ·have h2 := ih _ _ h
         obtain ⟨q, hv, hq⟩ := pkR (rd := none) (P := Try.prog) (fn := Try.f8) (k := 0) (s := (nspeculumlaw06_Few_l0_0_h a0 x15)) (ans := [.reg (.n :: []), .br true, .reg (.v (vi (a0.Weights.length : Int)) :: .n :: []), .reg (nN 5 (.b true :: nN 3 (.b false :: []))), .br false, .reg (.n :: .n :: [])]) (c := ⟨[(14, none), (15, none)], [], []⟩) (e := .normal) (s1 := (nspeculumlaw06_Few_l0_0_h a0 (w64 (x15 + 1)))) (an (an (ti trivial) (an (an (decide_eq_true h209) trivial) (an (an (an e229 (ti trivial)) (an e233 (an (decide_eq_false h234) trivial))) (ti (ti trivial))))) (ti trivial)) (by kernel_rfl)
         cases r with
         | inl r => exact round_next pm pn hv hq h2
         | inr r =>
          exact round_next pm pn hv hq h2
      ·have e235 := (ti (ti (ti (an (decide_eq_false h230) (an (decide_eq_false h230) (an (decide_eq_false h230) (ti (an (an rf trivial) (an (an rf trivial) (an rf trivial))))))))))
       rcases ifs h with ⟨h236, h⟩ | ⟨h236, h⟩
       ·injection h with h; subst h
        exact round_stop (c := ⟨[(2, none)], [], []⟩) (s1 := (nspeculumlaw06_Few_l0_0_e0 a0 ())) pm pn (ans := [.reg (.n :: []), .br true, .reg (.v (vi (a0.Weights.length : Int)) :: .n :: []), .reg (nN 3 (.skip :: .skip :: .b false :: nN 3 (.b false :: []))), .br true, .reg (.n :: [])]) (by kernel_rfl) (by intro e; cases e) (an (an (ti trivial) (an (an (decide_eq_true h209) trivial) (an (an e229 (ti trivial)) (an e235 (an (decide_eq_true h236) (an (ti trivial) trivial)))))) (ti trivial))
       ·have h2 := ih _ _ h
        obtain ⟨q, hv, hq⟩ := pkR (rd := none) (P := Try.prog) (fn := Try.f8) (k := 0) (s := (nspeculumlaw06_Few_l0_0_h a0 x15)) (ans := [.reg (.n :: []), .br true, .reg (.v (vi (a0.Weights.length : Int)) :: .n :: []), .reg (nN 3 (.skip :: .skip :: .b false :: nN 3 (.b false :: []))), .br false, .reg (.n :: .n :: [])]) (c := ⟨[(14, none), (15, none)], [], []⟩) (e := .normal) (s1 := (nspeculumlaw06_Few_l0_0_h a0 (w64 (x15 + 1)))) (an (an (ti trivial) (an (an (decide_eq_true h209) trivial) (an (an (an e229 (ti trivial)) (an e235 (an (decide_eq_false h236) trivial))) (ti (ti trivial))))) (ti trivial)) (by kernel_rfl)
        cases r with
        | inl r => exact round_next pm pn hv hq h2
        | inr r =>
         exact round_next pm pn hv hq h2
     ·cases h
  ·injection h with h; subst h
   exact round_stop (c := ⟨[], [], []⟩) (s1 := (nspeculumlaw06_Few_l0_0_e1 a0 ())) pm pn (ans := [.reg (.n :: []), .br false]) (by kernel_rfl) (by intro e; cases e) (an (an (ti trivial) (an (decide_eq_false h209) trivial)) (ti trivial))
def nspeculumlaw06_Few (k : Nat) (a0 : SRemovalMap) : Option Bool :=
 (nspeculumlaw06_Few_l0_0 k a0 k 0).bind fun r238 => (match r238 with | .inl r239 => (some false) | .inr r240 => (some true))
theorem nspeculumlaw06_Few_ok (k : Nat) (a0 : SRemovalMap) (r : Bool) (h : nspeculumlaw06_Few k a0 = some r) : VC Try.prog 8 [VV.ag (c_SRemovalMap a0)] (vb r) := by
 unfold nspeculumlaw06_Few at h
 have e172 := (ti (ti (ti (ti (ti (ti (ti (ti (ti (ti (ti trivial)))))))))))
 obtain ⟨r238, h237, h⟩ := bs h
 have hph237 := nspeculumlaw06_Few_l0_0_ok k a0 _ _ _ h237
 cases r238 with
 | inl r239 =>
  dsimp only at h
  have e241 := (an (ti trivial) (VRun.loop hph237))
  injection h with h; subst h
  exact fun_ok pm pn Try.func8 (r0 := vb false) (ans := [.reg (.n :: .n :: []), .reg (nN 11 []), .sub ⟨[(14, none), (15, none)], [], []⟩ .ret (nspeculumlaw06_Few_l0_0_e0 a0 r239)]) (fr := true) (by kernel_rfl) (an (an (ti (ti trivial)) (an e172 e241)) (ti trivial)) (Wv.refl _)
 | inr r240 =>
  dsimp only at h
  have e242 := (an (ti trivial) (VRun.loop hph237))
  injection h with h; subst h
  exact fun_ok pm pn Try.func8 (r0 := vb true) (ans := [.reg (.n :: .n :: []), .reg (nN 11 []), .sub ⟨[(14, none), (15, none)], [], []⟩ (.exit 0) (nspeculumlaw06_Few_l0_0_e1 a0 r240), .reg (.n :: [])]) (fr := true) (by kernel_rfl) (an (an (ti (ti trivial)) (an (an e172 e242) (an (ti trivial) trivial))) (ti trivial)) (Wv.refl _)
def nspeculumbase_Within (k : Nat) (a0 : Int) (a1 : Int) (a2 : Int) : Option Bool :=
 if a1 <= a0 then (some (decide (a0 <= a2))) else (some false)
theorem nspeculumbase_Within_ok (k : Nat) (a0 : Int) (a1 : Int) (a2 : Int) (r : Bool) (h : nspeculumbase_Within k a0 a1 a2 = some r) : VC Try.prog 11 [vi a0, vi a1, vi a2] (vb r) := by
 unfold nspeculumbase_Within at h
 rcases ifs h with ⟨h246, h⟩ | ⟨h246, h⟩
 ·have e247 := (ti (ti (ti (ti (an (an (decide_eq_true h246) trivial) (an (an (decide_eq_true h246) trivial) (an (an (decide_eq_true h246) trivial) (an (decide_eq_true h246) (ti trivial)))))))))
  injection h with h; subst h
  exact fun_ok pm pn Try.func11 (r0 := vb (decide (a0 <= a2))) (ans := [.reg (.n :: []), .reg (nN 7 (.b true :: .n :: []))]) (fr := true) (by kernel_rfl) (an (an (ti trivial) (an e247 trivial)) (ti trivial)) (Wv.refl _)
 ·have e248 := (ti (ti (ti (ti (an (decide_eq_false h246) (an (decide_eq_false h246) (an (decide_eq_false h246) (an (decide_eq_false h246) (ti trivial)))))))))
  injection h with h; subst h
  exact fun_ok pm pn Try.func11 (r0 := vb false) (ans := [.reg (.n :: []), .reg (nN 4 (nS 3 (.b false :: .n :: [])))]) (fr := true) (by kernel_rfl) (an (an (ti trivial) (an e248 trivial)) (ti trivial)) (Wv.refl _)
def nspeculumref06_isHeight (k : Nat) (a0 : Int) : Option Bool :=
 (nspeculumbase_Within k a0 (-100000) 100000).bind fun r267 => (some r267)
theorem nspeculumref06_isHeight_ok (k : Nat) (a0 : Int) (r : Bool) (h : nspeculumref06_isHeight k a0 = some r) : VC Try.prog 37 [vi a0] (vb r) := by
 unfold nspeculumref06_isHeight at h
 obtain ⟨r267, h268, h⟩ := bs h
 have e269 := (nspeculumbase_Within_ok k a0 (-100000) 100000 _ h268)
 injection h with h; subst h
 exact fun_ok pm pn Try.func37 (r0 := vb r267) (ans := [.reg (.n :: []), .reg (.n :: .call (vb r267) :: .n :: [])]) (fr := true) (by kernel_rfl) (an (an (ti trivial) (an (ti (an e269 (ti trivial))) trivial)) (ti trivial)) (Wv.refl _)
def arE1_0 (z0 : SRemovalMap) (z1 : Int) (z2 : Bool) (z3 : Bool) (z4 : Bool) : List Ans := (nN 4 (.v (vi (z0.Heights.getD z1.toNat 0)) :: .call (vb z2) :: nN 6 (.v (vi (z0.Q.getD z1.toNat 0)) :: .call (vb z3) :: .n :: .b false :: nN 5 (.v (vi (z0.Weights.getD z1.toNat 0)) :: .call (vb z4) :: .n :: .b false :: []))))
def arE1_1 (z0 : SRemovalMap) (z1 : Int) (z2 : Bool) (z3 : Bool) : List Ans := (nN 4 (.v (vi (z0.Heights.getD z1.toNat 0)) :: .call (vb z2) :: nN 6 (.v (vi (z0.Q.getD z1.toNat 0)) :: .call (vb z3) :: .n :: .b false :: .n :: nS 7 (.b true :: []))))
def arE1_2 (z0 : SRemovalMap) (z1 : Int) (z2 : Bool) : List Ans := (nN 4 (.v (vi (z0.Heights.getD z1.toNat 0)) :: .call (vb z2) :: .n :: .n :: nS 7 (.b true :: .n :: nS 7 (.b true :: []))))
def nspeculumref06_CheckMap_l0_0_h (a0 : SRemovalMap) (x4 : Int) (x5 : Int) : VS := ⟨mkA [(1, VV.pt 0 0), (3, vi (a0.Heights.length : Int)), (4, vi x4), (5, vi x5)], [some ⟨true, 1, c_SRemovalMap a0⟩], .nil⟩
def nspeculumref06_CheckMap_l0_0_e0 (a0 : SRemovalMap) (r : Unit) : VS := ⟨mkA [(2, vi 2)], [], .nil⟩
def nspeculumref06_CheckMap_l0_0_e1 (a0 : SRemovalMap) (r : Int) : VS := ⟨mkA [(4, vi r)], [], .nil⟩
def nspeculumref06_CheckMap_l0_0 (k : Nat) (a0 : SRemovalMap) : Nat -> Int -> Int -> Option (Sum Unit Int)
 | 0, _, _ => none
 | fuel + 1, x4, x5 => if x5 < (a0.Heights.length : Int) then (if 0 <= x5 /\ x5 < (a0.Heights.length : Int) then ((nspeculumref06_isHeight k (a0.Heights.getD x5.toNat 0)).bind fun r411 => (if r411 = true then (if 0 <= x5 /\ x5 < (a0.Q.length : Int) then ((nspeculumbase_Within k (a0.Q.getD x5.toNat 0) 0 1000).bind fun r417 => (if r417 = true then (if 0 <= x5 /\ x5 < (a0.Weights.length : Int) then ((nspeculumbase_Within k (a0.Weights.getD x5.toNat 0) 0 1000).bind fun r423 => (if r423 = true then (nspeculumref06_CheckMap_l0_0 k a0 fuel (w64 (x4 + (a0.Weights.getD x5.toNat 0))) (w64 (x5 + 1))) else (some (.inl ())))) else none) else (some (.inl ())))) else none) else (some (.inl ())))) else none) else (some (.inr x4))
theorem nspeculumref06_CheckMap_l0_0_ok (k : Nat) (a0 : SRemovalMap) : ∀ (fuel : Nat) (x4 : Int) (x5 : Int) (r : Sum Unit Int), nspeculumref06_CheckMap_l0_0 k a0 fuel x4 x5 = some r -> (match r with | .inl r => VLoop none Try.prog (szF Try.f9) (bodyOf Try.f9 0) (nspeculumref06_CheckMap_l0_0_h a0 x4 x5) .ret (nspeculumref06_CheckMap_l0_0_e0 a0 r) | .inr r => VLoop none Try.prog (szF Try.f9) (bodyOf Try.f9 0) (nspeculumref06_CheckMap_l0_0_h a0 x4 x5) (.exit 0) (nspeculumref06_CheckMap_l0_0_e1 a0 r)) := by
 intro fuel
 induction fuel with
 | zero => intro x4 x5 r h; rw [nspeculumref06_CheckMap_l0_0.eq_1] at h; cases h
 | succ fuel ih =>
  intro x4 x5 r h
  rw [nspeculumref06_CheckMap_l0_0.eq_2] at h
  rcases ifs h with ⟨h408, h⟩ | ⟨h408, h⟩
  ·obtain ⟨h409, h⟩ := ifn h
   have e410 := (show loadL Try.prog 3 (x5.toNat * 1) (List.map vi a0.Heights) = some (vi (a0.Heights.getD x5.toNat 0)) from ld_map ag3 vi a0.Heights 0 h409 (by omega))
   obtain ⟨r411, h412, h⟩ := bs h
   have e413 := (nspeculumref06_isHeight_ok k (a0.Heights.getD x5.toNat 0) _ h412)
   rcases ifs h with ⟨h414, h⟩ | ⟨h414, h⟩
   ·obtain ⟨h415, h⟩ := ifn h
    have e416 := (an (not_f h414) (show loadL Try.prog 3 (x5.toNat * 1) (List.map vi a0.Q) = some (vi (a0.Q.getD x5.toNat 0)) from ld_map ag3 vi a0.Q 0 h415 (by omega)))
    obtain ⟨r417, h418, h⟩ := bs h
    have e419 := (an (not_f h414) (nspeculumbase_Within_ok k (a0.Q.getD x5.toNat 0) 0 1000 _ h418))
    rcases ifs h with ⟨h420, h⟩ | ⟨h420, h⟩
    ·obtain ⟨h421, h⟩ := ifn h
     have e422 := (an (not_f h420) (show loadL Try.prog 3 (x5.toNat * 1) (List.map vi a0.Weights) = some (vi (a0.Weights.getD x5.toNat 0)) from ld_map ag3 vi a0.Weights 0 h421 (by omega)))
     obtain ⟨r423, h424, h⟩ := bs h
     have e425 := (an (not_f h420) (nspeculumbase_Within_ok k (a0.Weights.getD x5.toNat 0) 0 1000 _ h424))
     have e426 := (ti (ti (ti (an h409 (an e410 (an e413 (ti (ti (an (an (not_f h414) trivial) (an (an (not_f h414) trivial) (an (an (not_f h414) trivial) (an (an (not_f h414) h415) (an e416 (an e419 (an (an (not_f h414) trivial) (an (not_f h414) (ti (an (an (not_f h420) trivial) (an (an (not_f h420) trivial) (an (an (not_f h420) trivial) (an (an (not_f h420) h421) (an e422 (an e425 (an (an (not_f h420) trivial) (an (not_f h420) trivial)))))))))))))))))))))))))
     rcases ifs h with ⟨h427, h⟩ | ⟨h427, h⟩
     ·have e428 := (show loadL Try.prog 3 (x5.toNat * 1) (List.map vi a0.Weights) = some (vi (a0.Weights.getD x5.toNat 0)) from ld_map ag3 vi a0.Weights 0 h421 (by omega))
      have e429 := (ti (ti (ti (ti (an h421 (an e428 (ti (ti trivial))))))))
      have h2 := ih _ _ _ h
      obtain ⟨q, hv, hq⟩ := pkR (rd := none) (P := Try.prog) (fn := Try.f9) (k := 0) (s := (nspeculumref06_CheckMap_l0_0_h a0 x4 x5)) (ans := [.reg (nN 3 []), .br true, .reg (arE1_0 a0 x5 r411 r417 r423), .br false, .reg (nN 5 (.v (vi (a0.Weights.getD x5.toNat 0)) :: .n :: .n :: [])), .reg (nN 3 [])]) (c := ⟨[(1, none), (3, none), (4, none), (5, none)], [none], []⟩) (e := .normal) (s1 := (nspeculumref06_CheckMap_l0_0_h a0 (w64 (x4 + (a0.Weights.getD x5.toNat 0))) (w64 (x5 + 1)))) (an (an (an (ti (ti (ti trivial))) (an (decide_eq_true h408) trivial)) (an (an (an e426 (an (not_f h427) trivial)) e429) (ti (ti (ti trivial))))) (ti trivial)) (by kernel_rfl)
      cases r with
      | inl r => exact round_next pm pn hv hq h2
      | inr r =>
       exact round_next pm pn hv hq h2
     ·injection h with h; subst h
      exact round_stop (c := ⟨[(2, none)], [], []⟩) (s1 := (nspeculumref06_CheckMap_l0_0_e0 a0 ())) pm pn (ans := [.reg (nN 3 []), .br true, .reg (arE1_0 a0 x5 r411 r417 r423), .br true, .reg (.n :: [])]) (by kernel_rfl) (by intro e; cases e) (an (an (an (ti (ti (ti trivial))) (an (decide_eq_true h408) trivial)) (an e426 (an (not_t (bool_f h427)) (an (ti trivial) trivial)))) (ti trivial))
    ·have e430 := (ti (ti (ti (an h409 (an e410 (an e413 (ti (ti (an (an (not_f h414) trivial) (an (an (not_f h414) trivial) (an (an (not_f h414) trivial) (an (an (not_f h414) h415) (an e416 (an e419 (an (an (not_f h414) trivial) (an (not_f h414) (ti (an (not_t (bool_f h420)) (an (not_t (bool_f h420)) (an (not_t (bool_f h420)) (an (not_t (bool_f h420)) (an (not_t (bool_f h420)) (an (not_t (bool_f h420)) (an (not_t (bool_f h420)) (an (not_t (bool_f h420)) trivial)))))))))))))))))))))))))
     injection h with h; subst h
     exact round_stop (c := ⟨[(2, none)], [], []⟩) (s1 := (nspeculumref06_CheckMap_l0_0_e0 a0 ())) pm pn (ans := [.reg (nN 3 []), .br true, .reg (arE1_1 a0 x5 r411 r417), .br true, .reg (.n :: [])]) (by kernel_rfl) (by intro e; cases e) (an (an (an (ti (ti (ti trivial))) (an (decide_eq_true h408) trivial)) (an e430 (an rt (an (ti trivial) trivial)))) (ti trivial))
   ·have e431 := (ti (ti (ti (an h409 (an e410 (an e413 (ti (ti (an (not_t (bool_f h414)) (an (not_t (bool_f h414)) (an (not_t (bool_f h414)) (an (not_t (bool_f h414)) (an (not_t (bool_f h414)) (an (not_t (bool_f h414)) (an (not_t (bool_f h414)) (an (not_t (bool_f h414)) (ti (an rt (an rt (an rt (an rt (an rt (an rt (an rt (an rt trivial)))))))))))))))))))))))))
    injection h with h; subst h
    exact round_stop (c := ⟨[(2, none)], [], []⟩) (s1 := (nspeculumref06_CheckMap_l0_0_e0 a0 ())) pm pn (ans := [.reg (nN 3 []), .br true, .reg (arE1_2 a0 x5 r411), .br true, .reg (.n :: [])]) (by kernel_rfl) (by intro e; cases e) (an (an (an (ti (ti (ti trivial))) (an (decide_eq_true h408) trivial)) (an e431 (an rt (an (ti trivial) trivial)))) (ti trivial))
  ·injection h with h; subst h
   exact round_stop (c := ⟨[(4, none)], [], []⟩) (s1 := (nspeculumref06_CheckMap_l0_0_e1 a0 x4)) pm pn (ans := [.reg (nN 3 []), .br false]) (by kernel_rfl) (by intro e; cases e) (an (an (ti (ti (ti trivial))) (an (decide_eq_false h408) trivial)) (ti trivial))
def nspeculumref06_CheckMap (k : Nat) (a0 : SRemovalMap) : Option Int :=
 (nspeculumbase_Within k (a0.Heights.length : Int) 1 40).bind fun r348 => (if r348 = true then (if (a0.Q.length : Int) = (a0.Heights.length : Int) then (if (a0.Weights.length : Int) = (a0.Heights.length : Int) then ((nspeculumref06_CheckMap_l0_0 k a0 k 0 0).bind fun r433 => (match r433 with | .inl r434 => (some 2) | .inr r435 => (if r435 = 0 then (some 11) else (some 0)))) else (some 10)) else (some 10)) else (some 10))
theorem nspeculumref06_CheckMap_ok (k : Nat) (a0 : SRemovalMap) (r : Int) (h : nspeculumref06_CheckMap k a0 = some r) : VC Try.prog 9 [VV.ag (c_SRemovalMap a0)] (vi r) := by
 unfold nspeculumref06_CheckMap at h
 obtain ⟨r348, h349, h⟩ := bs h
 have e350 := (nspeculumbase_Within_ok k (a0.Heights.length : Int) 1 40 _ h349)
 rcases ifs h with ⟨h351, h⟩ | ⟨h351, h⟩
 ·rcases ifs h with ⟨h352, h⟩ | ⟨h352, h⟩
  ·have e353 := (an (not_f (decide_eq_true h352)) trivial)
   have e354 := (an (not_f (decide_eq_true h352)) trivial)
   have e355 := (an (not_f (decide_eq_true h352)) trivial)
   have e356 := (an (not_f (decide_eq_true h352)) trivial)
   have e357 := (an (not_f (decide_eq_true h352)) trivial)
   have e358 := (ti (an e350 (ti (ti (an (an (not_f h351) trivial) (an (an (not_f h351) trivial) (an (an (not_f h351) trivial) (an (an (not_f h351) trivial) (an (an (not_f h351) trivial) (an (not_f h351) (ti (an e353 (an e354 (an e355 (an e356 (an e357 (an (not_f (decide_eq_true h352)) trivial)))))))))))))))))
   rcases ifs h with ⟨h359, h⟩ | ⟨h359, h⟩
   ·obtain ⟨r433, h432, h⟩ := bs h
    have hph432 := nspeculumref06_CheckMap_l0_0_ok k a0 _ _ _ _ h432
    cases r433 with
    | inl r434 =>
     dsimp only at h
     have e436 := (an (ti trivial) (VRun.loop hph432))
     injection h with h; subst h
     exact fun_ok pm pn Try.func9 (r0 := vi 2) (ans := [.reg (.n :: .n :: []), .reg (nN 4 []), .reg (.n :: .call (vb r348) :: nN 7 (.b false :: nN 6 (.b false :: []))), .br false, .reg (.n :: []), .reg (.n :: []), .sub ⟨[(1, none), (3, none), (4, none), (5, none)], [none], []⟩ .ret (nspeculumref06_CheckMap_l0_0_e0 a0 r434)]) (fr := true) (by kernel_rfl) (an (an (ti (ti trivial)) (an (ti (ti (ti (ti trivial)))) (an (an e358 (an (not_f (decide_eq_true h359)) trivial)) (an (ti trivial) (an (ti trivial) e436))))) (ti trivial)) (Wv.refl _)
    | inr r435 =>
     dsimp only at h
     have e437 := (an (ti trivial) (VRun.loop hph432))
     rcases ifs h with ⟨h438, h⟩ | ⟨h438, h⟩
     ·injection h with h; subst h
      exact fun_ok pm pn Try.func9 (r0 := vi 11) (ans := [.reg (.n :: .n :: []), .reg (nN 4 []), .reg (.n :: .call (vb r348) :: nN 7 (.b false :: nN 6 (.b false :: []))), .br false, .reg (.n :: []), .reg (.n :: []), .sub ⟨[(1, none), (3, none), (4, none), (5, none)], [none], []⟩ (.exit 0) (nspeculumref06_CheckMap_l0_0_e1 a0 r435), .reg (.n :: .n :: []), .br true, .reg (.n :: [])]) (fr := true) (by kernel_rfl) (an (an (ti (ti trivial)) (an (ti (ti (ti (ti trivial)))) (an (an e358 (an (not_f (decide_eq_true h359)) trivial)) (an (ti trivial) (an (an (ti trivial) e437) (an (ti (ti trivial)) (an (decide_eq_true h438) (an (ti trivial) trivial)))))))) (ti trivial)) (Wv.refl _)
     ·injection h with h; subst h
      exact fun_ok pm pn Try.func9 (r0 := vi 0) (ans := [.reg (.n :: .n :: []), .reg (nN 4 []), .reg (.n :: .call (vb r348) :: nN 7 (.b false :: nN 6 (.b false :: []))), .br false, .reg (.n :: []), .reg (.n :: []), .sub ⟨[(1, none), (3, none), (4, none), (5, none)], [none], []⟩ (.exit 0) (nspeculumref06_CheckMap_l0_0_e1 a0 r435), .reg (.n :: .n :: []), .br false, .reg (.n :: [])]) (fr := true) (by kernel_rfl) (an (an (ti (ti trivial)) (an (ti (ti (ti (ti trivial)))) (an (an e358 (an (not_f (decide_eq_true h359)) trivial)) (an (ti trivial) (an (an (ti trivial) e437) (an (an (ti (ti trivial)) (an (decide_eq_false h438) trivial)) (an (ti trivial) trivial))))))) (ti trivial)) (Wv.refl _)
   ·injection h with h; subst h
    exact fun_ok pm pn Try.func9 (r0 := vi 10) (ans := [.reg (.n :: .n :: []), .reg (nN 4 []), .reg (.n :: .call (vb r348) :: nN 7 (.b false :: nN 6 (.b false :: []))), .br true, .reg (.n :: [])]) (fr := true) (by kernel_rfl) (an (an (ti (ti trivial)) (an (ti (ti (ti (ti trivial)))) (an e358 (an (not_t (decide_eq_false h359)) (an (ti trivial) trivial))))) (ti trivial)) (Wv.refl _)
  ·have e439 := (ti (an e350 (ti (ti (an (an (not_f h351) trivial) (an (an (not_f h351) trivial) (an (an (not_f h351) trivial) (an (an (not_f h351) trivial) (an (an (not_f h351) trivial) (an (not_f h351) (ti (an (not_t (decide_eq_false h352)) (an (not_t (decide_eq_false h352)) (an (not_t (decide_eq_false h352)) (an (not_t (decide_eq_false h352)) (an (not_t (decide_eq_false h352)) (an (not_t (decide_eq_false h352)) trivial)))))))))))))))))
   injection h with h; subst h
   exact fun_ok pm pn Try.func9 (r0 := vi 10) (ans := [.reg (.n :: .n :: []), .reg (nN 4 []), .reg (.n :: .call (vb r348) :: nN 7 (.b false :: .n :: nS 5 (.b true :: []))), .br true, .reg (.n :: [])]) (fr := true) (by kernel_rfl) (an (an (ti (ti trivial)) (an (ti (ti (ti (ti trivial)))) (an e439 (an rt (an (ti trivial) trivial))))) (ti trivial)) (Wv.refl _)
 ·have e440 := (ti (an e350 (ti (ti (an (not_t (bool_f h351)) (an (not_t (bool_f h351)) (an (not_t (bool_f h351)) (an (not_t (bool_f h351)) (an (not_t (bool_f h351)) (an (not_t (bool_f h351)) (ti (an rt (an rt (an rt (an rt (an rt (an rt trivial)))))))))))))))))
  injection h with h; subst h
  exact fun_ok pm pn Try.func9 (r0 := vi 10) (ans := [.reg (.n :: .n :: []), .reg (nN 4 []), .reg (.n :: .call (vb r348) :: .n :: .n :: nS 5 (.b true :: .n :: nS 5 (.b true :: []))), .br true, .reg (.n :: [])]) (fr := true) (by kernel_rfl) (an (an (ti (ti trivial)) (an (ti (ti (ti (ti trivial)))) (an e440 (an rt (an (ti trivial) trivial))))) (ti trivial)) (Wv.refl _)
def nspeculumbase_Abs (k : Nat) (a0 : Int) : Option Int :=
 if a0 < 0 then (some (w64 (0 - a0))) else (some a0)
theorem nspeculumbase_Abs_ok (k : Nat) (a0 : Int) (r : Int) (h : nspeculumbase_Abs k a0 = some r) : VC Try.prog 79 [vi a0] (vi r) := by
 unfold nspeculumbase_Abs at h
 rcases ifs h with ⟨h453, h⟩ | ⟨h453, h⟩
 ·injection h with h; subst h
  exact fun_ok pm pn Try.func79 (r0 := vi (w64 (0 - a0))) (ans := [.reg (.n :: []), .reg (.n :: .n :: []), .br true, .reg (nN 3 [])]) (fr := true) (by kernel_rfl) (an (an (ti trivial) (an (ti (ti trivial)) (an (decide_eq_true h453) (an (ti (ti (ti trivial))) trivial)))) (ti trivial)) (Wv.refl _)
 ·injection h with h; subst h
  exact fun_ok pm pn Try.func79 (r0 := vi a0) (ans := [.reg (.n :: []), .reg (.n :: .n :: []), .br false, .reg (.n :: .n :: [])]) (fr := true) (by kernel_rfl) (an (an (ti trivial) (an (an (ti (ti trivial)) (an (decide_eq_false h453) trivial)) (an (ti (ti trivial)) trivial))) (ti trivial)) (Wv.refl _)
def nspeculumbase_Gcd_l0_0_h  (x0 : Int) (x1 : Int) : VS := ⟨mkA [(0, vi x0), (1, vi x1)], [], .nil⟩
def nspeculumbase_Gcd_l0_0_e0  (r : Int) : VS := ⟨mkA [(0, vi r)], [], .nil⟩
def nspeculumbase_Gcd_l0_0 (k : Nat)  : Nat -> Int -> Int -> Option (Int)
 | 0, _, _ => none
 | fuel + 1, x0, x1 => if x1 = 0 then (some x0) else (if x1 ≠ 0 then (nspeculumbase_Gcd_l0_0 k  fuel x1 (x0.tmod x1)) else none)
theorem nspeculumbase_Gcd_l0_0_ok (k : Nat)  : ∀ (fuel : Nat) (x0 : Int) (x1 : Int) (r : Int), nspeculumbase_Gcd_l0_0 k  fuel x0 x1 = some r -> (VLoop none Try.prog (szF Try.f50) (bodyOf Try.f50 0) (nspeculumbase_Gcd_l0_0_h  x0 x1) (.exit 0) (nspeculumbase_Gcd_l0_0_e0  r)) := by
 intro fuel
 induction fuel with
 | zero => intro x0 x1 r h; rw [nspeculumbase_Gcd_l0_0.eq_1] at h; cases h
 | succ fuel ih =>
  intro x0 x1 r h
  rw [nspeculumbase_Gcd_l0_0.eq_2] at h
  rcases ifs h with ⟨h461, h⟩ | ⟨h461, h⟩
  ·injection h with h; subst h
   exact round_stop (c := ⟨[(0, none)], [], []⟩) (s1 := (nspeculumbase_Gcd_l0_0_e0  x0)) pm pn (ans := [.reg (.n :: .n :: []), .br false]) (by kernel_rfl) (by intro e; cases e) (an (an (ti (ti trivial)) (an (not_f (decide_eq_true h461)) trivial)) (ti trivial))
  ·obtain ⟨h462, h⟩ := ifn h
   have h2 := ih _ _ _ h
   obtain ⟨q, hv, hq⟩ := pkR (rd := none) (P := Try.prog) (fn := Try.f50) (k := 0) (s := (nspeculumbase_Gcd_l0_0_h  x0 x1)) (ans := [.reg (.n :: .n :: []), .br true, .reg (nN 6 [])]) (c := ⟨[(0, none), (1, none)], [], []⟩) (e := .normal) (s1 := (nspeculumbase_Gcd_l0_0_h  x1 (x0.tmod x1))) (an (an (an (ti (ti trivial)) (an (not_t (decide_eq_false h461)) trivial)) (ti (ti (ti (an h462 (ti (ti trivial))))))) (ti trivial)) (by kernel_rfl)
   exact round_next pm pn hv hq h2
def nspeculumbase_Gcd (k : Nat) (a0 : Int) (a1 : Int) : Option Int :=
 (nspeculumbase_Gcd_l0_0 k k a0 a1).bind fun r464 => ((nspeculumbase_Abs k r464).bind fun r466 => (some r466))
theorem nspeculumbase_Gcd_ok (k : Nat) (a0 : Int) (a1 : Int) (r : Int) (h : nspeculumbase_Gcd k a0 a1 = some r) : VC Try.prog 50 [vi a0, vi a1] (vi r) := by
 unfold nspeculumbase_Gcd at h
 obtain ⟨r464, h463, h⟩ := bs h
 have hph463 := nspeculumbase_Gcd_l0_0_ok k  _ _ _ _ h463
 have e465 := (an (ti trivial) (VRun.loop hph463))
 obtain ⟨r466, h467, h⟩ := bs h
 have e468 := (ti (an (nspeculumbase_Abs_ok k r464 _ h467) (ti trivial)))
 injection h with h; subst h
 exact fun_ok pm pn Try.func50 (r0 := vi r466) (ans := [.reg (.n :: []), .sub ⟨[(0, none), (1, none)], [], []⟩ (.exit 0) (nspeculumbase_Gcd_l0_0_e0  r464), .reg (.n :: .call (vi r466) :: .n :: [])]) (fr := true) (by kernel_rfl) (an (an (ti trivial) (an e465 (an e468 trivial))) (ti trivial)) (Wv.refl _)
def nspeculumbase_IsLowest (k : Nat) (a0 : SFrac) : Option Bool :=
 if 0 < a0.Den then ((nspeculumbase_Gcd k a0.Num a0.Den).bind fun r475 => (some (decide (r475 = 1)))) else (some false)
theorem nspeculumbase_IsLowest_ok (k : Nat) (a0 : SFrac) (r : Bool) (h : nspeculumbase_IsLowest k a0 = some r) : VC Try.prog 38 [VV.ag (c_SFrac a0)] (vb r) := by
 unfold nspeculumbase_IsLowest at h
 rcases ifs h with ⟨h474, h⟩ | ⟨h474, h⟩
 ·obtain ⟨r475, h476, h⟩ := bs h
  have e477 := (an (decide_eq_true h474) (nspeculumbase_Gcd_ok k a0.Num a0.Den _ h476))
  have e478 := (ti (ti (ti (ti (an (an (decide_eq_true h474) trivial) (an (an (decide_eq_true h474) trivial) (an (an (decide_eq_true h474) trivial) (an (an (decide_eq_true h474) trivial) (an e477 (an (an (decide_eq_true h474) trivial) (an (decide_eq_true h474) (ti trivial))))))))))))
  injection h with h; subst h
  exact fun_ok pm pn Try.func38 (r0 := vb (decide (r475 = 1))) (ans := [.reg (.n :: .n :: []), .reg (nN 8 (.call (vi r475) :: .n :: .b true :: .n :: []))]) (fr := true) (by kernel_rfl) (an (an (ti (ti trivial)) (an e478 trivial)) (ti trivial)) (Wv.refl _)
 ·have e479 := (ti (ti (ti (ti (an (decide_eq_false h474) (an (decide_eq_false h474) (an (decide_eq_false h474) (an (decide_eq_false h474) (an (decide_eq_false h474) (an (decide_eq_false h474) (an (decide_eq_false h474) (ti trivial))))))))))))
  injection h with h; subst h
  exact fun_ok pm pn Try.func38 (r0 := vb false) (ans := [.reg (.n :: .n :: []), .reg (nN 4 (nS 6 (.b false :: .n :: [])))]) (fr := true) (by kernel_rfl) (an (an (ti (ti trivial)) (an e479 trivial)) (ti trivial)) (Wv.refl _)
def nspeculumref06_CheckLine_l0_0_h (a0 : SLowerLine) (x12 : Int) : VS := ⟨mkA [(1, VV.pt 0 0), (11, VV.ag [vi a0.Start.Num, vi a0.Start.Den, vi a0.Slope.Num, vi a0.Slope.Den]), (12, vi x12)], [some ⟨true, 1, c_SLowerLine a0⟩], .nil⟩
def nspeculumref06_CheckLine_l0_0_e0 (a0 : SLowerLine) (r : Unit) : VS := ⟨mkA [(2, vi 3)], [], .nil⟩
def nspeculumref06_CheckLine_l0_0_e1 (a0 : SLowerLine) (r : Unit) : VS := ⟨mkA [(1, VV.pt 0 0)], [some ⟨true, 1, c_SLowerLine a0⟩], .nil⟩
def nspeculumref06_CheckLine_l0_0 (k : Nat) (a0 : SLowerLine) : Nat -> Int -> Option (Sum Unit Unit)
 | 0, _ => none
 | fuel + 1, x12 => if x12 < 2 then (if x12 = 0 then ((nspeculumbase_IsLowest k a0.Start).bind fun r589 => (if r589 = true then (nspeculumref06_CheckLine_l0_0 k a0 fuel (w64 (x12 + 1))) else (some (.inl ())))) else (if x12 = 1 then ((nspeculumbase_IsLowest k a0.Slope).bind fun r595 => (if r595 = true then (nspeculumref06_CheckLine_l0_0 k a0 fuel (w64 (x12 + 1))) else (some (.inl ())))) else none)) else (some (.inr ()))
theorem nspeculumref06_CheckLine_l0_0_ok (k : Nat) (a0 : SLowerLine) : ∀ (fuel : Nat) (x12 : Int) (r : Sum Unit Unit), nspeculumref06_CheckLine_l0_0 k a0 fuel x12 = some r -> (match r with | .inl r => VLoop none Try.prog (szF Try.f10) (bodyOf Try.f10 0) (nspeculumref06_CheckLine_l0_0_h a0 x12) .ret (nspeculumref06_CheckLine_l0_0_e0 a0 r) | .inr r => VLoop none Try.prog (szF Try.f10) (bodyOf Try.f10 0) (nspeculumref06_CheckLine_l0_0_h a0 x12) (.exit 0) (nspeculumref06_CheckLine_l0_0_e1 a0 r)) := by
 intro fuel
 induction fuel with
 | zero => intro x12 r h; rw [nspeculumref06_CheckLine_l0_0.eq_1] at h; cases h
 | succ fuel ih =>
  intro x12 r h
  rw [nspeculumref06_CheckLine_l0_0.eq_2] at h
  rcases ifs h with ⟨h586, h⟩ | ⟨h586, h⟩
  ·rcases ifs h with ⟨h587, h⟩ | ⟨h587, h⟩
   ·have e588 := (show (0:Int) <= x12 /\ x12 < ((2 : Nat) : Int) /\ partV (x12.toNat * 2) (some 2) [vi a0.Start.Num, vi a0.Start.Den, vi a0.Slope.Num, vi a0.Slope.Den] = some (VV.ag (c_SFrac a0.Start)) from ⟨by have := (of_decide_eq_true (decide_eq_true h587)); omega, by have := (of_decide_eq_true (decide_eq_true h587)); omega, by rw [show x12 = (0 : Int) from (of_decide_eq_true (decide_eq_true h587))]; rfl⟩)
    obtain ⟨r589, h590, h⟩ := bs h
    have e591 := (nspeculumbase_IsLowest_ok k a0.Start _ h590)
    rcases ifs h with ⟨h592, h⟩ | ⟨h592, h⟩
    ·have h2 := ih _ _ h
     obtain ⟨q, hv, hq⟩ := pkR (rd := none) (P := Try.prog) (fn := Try.f10) (k := 0) (s := (nspeculumref06_CheckLine_l0_0_h a0 x12)) (ans := [.reg (.n :: []), .br true, .reg (.v (VV.ag (c_SFrac a0.Start)) :: .n :: .n :: []), .reg (.n :: .call (vb r589) :: .n :: []), .br false, .reg (.n :: .n :: [])]) (c := ⟨[(1, none), (11, none), (12, none)], [none], []⟩) (e := .normal) (s1 := (nspeculumref06_CheckLine_l0_0_h a0 (w64 (x12 + 1)))) (an (an (ti trivial) (an (an (decide_eq_true h586) trivial) (an (an (an e588 (ti (ti trivial))) (an (ti (an e591 (ti trivial))) (an (not_f h592) trivial))) (ti (ti trivial))))) (ti trivial)) (by kernel_rfl)
     cases r with
     | inl r => exact round_next pm pn hv hq h2
     | inr r =>
      exact round_next pm pn hv hq h2
    ·injection h with h; subst h
     exact round_stop (c := ⟨[(2, none)], [], []⟩) (s1 := (nspeculumref06_CheckLine_l0_0_e0 a0 ())) pm pn (ans := [.reg (.n :: []), .br true, .reg (.v (VV.ag (c_SFrac a0.Start)) :: .n :: .n :: []), .reg (.n :: .call (vb r589) :: .n :: []), .br true, .reg (.n :: [])]) (by kernel_rfl) (by intro e; cases e) (an (an (ti trivial) (an (an (decide_eq_true h586) trivial) (an (an e588 (ti (ti trivial))) (an (ti (an e591 (ti trivial))) (an (not_t (bool_f h592)) (an (ti trivial) trivial)))))) (ti trivial))
   ·rcases ifs h with ⟨h593, h⟩ | ⟨h593, h⟩
    ·have e594 := (show (0:Int) <= x12 /\ x12 < ((2 : Nat) : Int) /\ partV (x12.toNat * 2) (some 2) [vi a0.Start.Num, vi a0.Start.Den, vi a0.Slope.Num, vi a0.Slope.Den] = some (VV.ag (c_SFrac a0.Slope)) from ⟨by have := (of_decide_eq_true (decide_eq_true h593)); omega, by have := (of_decide_eq_true (decide_eq_true h593)); omega, by rw [show x12 = (1 : Int) from (of_decide_eq_true (decide_eq_true h593))]; rfl⟩)
     obtain ⟨r595, h596, h⟩ := bs h
     have e597 := (nspeculumbase_IsLowest_ok k a0.Slope _ h596)
     rcases ifs h with ⟨h598, h⟩ | ⟨h598, h⟩
     ·have h2 := ih _ _ h
      obtain ⟨q, hv, hq⟩ := pkR (rd := none) (P := Try.prog) (fn := Try.f10) (k := 0) (s := (nspeculumref06_CheckLine_l0_0_h a0 x12)) (ans := [.reg (.n :: []), .br true, .reg (.v (VV.ag (c_SFrac a0.Slope)) :: .n :: .n :: []), .reg (.n :: .call (vb r595) :: .n :: []), .br false, .reg (.n :: .n :: [])]) (c := ⟨[(1, none), (11, none), (12, none)], [none], []⟩) (e := .normal) (s1 := (nspeculumref06_CheckLine_l0_0_h a0 (w64 (x12 + 1)))) (an (an (ti trivial) (an (an (decide_eq_true h586) trivial) (an (an (an e594 (ti (ti trivial))) (an (ti (an e597 (ti trivial))) (an (not_f h598) trivial))) (ti (ti trivial))))) (ti trivial)) (by kernel_rfl)
      cases r with
      | inl r => exact round_next pm pn hv hq h2
      | inr r =>
       exact round_next pm pn hv hq h2
     ·injection h with h; subst h
      exact round_stop (c := ⟨[(2, none)], [], []⟩) (s1 := (nspeculumref06_CheckLine_l0_0_e0 a0 ())) pm pn (ans := [.reg (.n :: []), .br true, .reg (.v (VV.ag (c_SFrac a0.Slope)) :: .n :: .n :: []), .reg (.n :: .call (vb r595) :: .n :: []), .br true, .reg (.n :: [])]) (by kernel_rfl) (by intro e; cases e) (an (an (ti trivial) (an (an (decide_eq_true h586) trivial) (an (an e594 (ti (ti trivial))) (an (ti (an e597 (ti trivial))) (an (not_t (bool_f h598)) (an (ti trivial) trivial)))))) (ti trivial))
    ·cases h
  ·injection h with h; subst h
   exact round_stop (c := ⟨[(1, none)], [none], []⟩) (s1 := (nspeculumref06_CheckLine_l0_0_e1 a0 ())) pm pn (ans := [.reg (.n :: []), .br false]) (by kernel_rfl) (by intro e; cases e) (an (an (ti trivial) (an (decide_eq_false h586) trivial)) (ti trivial))
def nspeculumref06_CheckLine_l1_0_h (a0 : SLowerLine) (x24 : Int) : VS := ⟨mkA [(23, VV.ag [vi a0.Start.Num, vi a0.Start.Den, vi a0.Slope.Num, vi a0.Slope.Den]), (24, vi x24)], [], .nil⟩
def nspeculumref06_CheckLine_l1_0_e0 (a0 : SLowerLine) (r : Unit) : VS := ⟨mkA [(2, vi 2)], [], .nil⟩
def nspeculumref06_CheckLine_l1_0_e1 (a0 : SLowerLine) (r : Unit) : VS := ⟨mkA [], [], .nil⟩
def nspeculumref06_CheckLine_l1_0 (k : Nat) (a0 : SLowerLine) : Nat -> Int -> Option (Sum Unit Unit)
 | 0, _ => none
 | fuel + 1, x24 => if x24 < 2 then (if x24 = 0 then (if 1000 < a0.Start.Den then (some (.inl ())) else ((nspeculumbase_Within k a0.Start.Num (-1000000000) 1000000000).bind fun r637 => (if r637 = true then (nspeculumref06_CheckLine_l1_0 k a0 fuel (w64 (x24 + 1))) else (some (.inl ()))))) else (if x24 = 1 then (if 1000 < a0.Slope.Den then (some (.inl ())) else ((nspeculumbase_Within k a0.Slope.Num (-1000000000) 1000000000).bind fun r646 => (if r646 = true then (nspeculumref06_CheckLine_l1_0 k a0 fuel (w64 (x24 + 1))) else (some (.inl ()))))) else none)) else (some (.inr ()))
theorem nspeculumref06_CheckLine_l1_0_ok (k : Nat) (a0 : SLowerLine) : ∀ (fuel : Nat) (x24 : Int) (r : Sum Unit Unit), nspeculumref06_CheckLine_l1_0 k a0 fuel x24 = some r -> (match r with | .inl r => VLoop none Try.prog (szF Try.f10) (bodyOf Try.f10 1) (nspeculumref06_CheckLine_l1_0_h a0 x24) .ret (nspeculumref06_CheckLine_l1_0_e0 a0 r) | .inr r => VLoop none Try.prog (szF Try.f10) (bodyOf Try.f10 1) (nspeculumref06_CheckLine_l1_0_h a0 x24) (.exit 2) (nspeculumref06_CheckLine_l1_0_e1 a0 r)) := by
 intro fuel
 induction fuel with
 | zero => intro x24 r h; rw [nspeculumref06_CheckLine_l1_0.eq_1] at h; cases h
 | succ fuel ih =>
  intro x24 r h
  rw [nspeculumref06_CheckLine_l1_0.eq_2] at h
  rcases ifs h with ⟨h632, h⟩ | ⟨h632, h⟩
  ·rcases ifs h with ⟨h633, h⟩ | ⟨h633, h⟩
   ·have e634 := (show (0:Int) <= x24 /\ x24 < ((2 : Nat) : Int) /\ partV (x24.toNat * 2) (some 2) [vi a0.Start.Num, vi a0.Start.Den, vi a0.Slope.Num, vi a0.Slope.Den] = some (VV.ag (c_SFrac a0.Start)) from ⟨by have := (of_decide_eq_true (decide_eq_true h633)); omega, by have := (of_decide_eq_true (decide_eq_true h633)); omega, by rw [show x24 = (0 : Int) from (of_decide_eq_true (decide_eq_true h633))]; rfl⟩)
    rcases ifs h with ⟨h635, h⟩ | ⟨h635, h⟩
    ·have e636 := (ti (ti (ti (ti (an (decide_eq_true h635) (an (decide_eq_true h635) (an (decide_eq_true h635) (an (decide_eq_true h635) (an (decide_eq_true h635) trivial)))))))))
     injection h with h; subst h
     exact round_stop (c := ⟨[(2, none)], [], []⟩) (s1 := (nspeculumref06_CheckLine_l1_0_e0 a0 ())) pm pn (ans := [.reg (.n :: []), .br true, .reg (.v (VV.ag (c_SFrac a0.Start)) :: .n :: .n :: []), .reg (nN 4 (nS 4 (.b true :: []))), .br true, .reg (.n :: [])]) (by kernel_rfl) (by intro e; cases e) (an (an (ti trivial) (an (an (decide_eq_true h632) trivial) (an (an e634 (ti (ti trivial))) (an e636 (an rt (an (ti trivial) trivial)))))) (ti trivial))
    ·obtain ⟨r637, h638, h⟩ := bs h
     have e639 := (an (decide_eq_false h635) (nspeculumbase_Within_ok k a0.Start.Num (-1000000000) 1000000000 _ h638))
     have e640 := (ti (ti (ti (ti (an (an (decide_eq_false h635) trivial) (an (an (decide_eq_false h635) trivial) (an e639 (an (an (decide_eq_false h635) trivial) (an (decide_eq_false h635) trivial)))))))))
     rcases ifs h with ⟨h641, h⟩ | ⟨h641, h⟩
     ·have h2 := ih _ _ h
      obtain ⟨q, hv, hq⟩ := pkR (rd := none) (P := Try.prog) (fn := Try.f10) (k := 1) (s := (nspeculumref06_CheckLine_l1_0_h a0 x24)) (ans := [.reg (.n :: []), .br true, .reg (.v (VV.ag (c_SFrac a0.Start)) :: .n :: .n :: []), .reg (nN 6 (.call (vb r637) :: .n :: .b false :: [])), .br false, .reg (.n :: .n :: [])]) (c := ⟨[(23, none), (24, none)], [], []⟩) (e := .normal) (s1 := (nspeculumref06_CheckLine_l1_0_h a0 (w64 (x24 + 1)))) (an (an (ti trivial) (an (an (decide_eq_true h632) trivial) (an (an (an e634 (ti (ti trivial))) (an e640 (an (not_f h641) trivial))) (ti (ti trivial))))) (ti trivial)) (by kernel_rfl)
      cases r with
      | inl r => exact round_next pm pn hv hq h2
      | inr r =>
       exact round_next pm pn hv hq h2
     ·injection h with h; subst h
      exact round_stop (c := ⟨[(2, none)], [], []⟩) (s1 := (nspeculumref06_CheckLine_l1_0_e0 a0 ())) pm pn (ans := [.reg (.n :: []), .br true, .reg (.v (VV.ag (c_SFrac a0.Start)) :: .n :: .n :: []), .reg (nN 6 (.call (vb r637) :: .n :: .b false :: [])), .br true, .reg (.n :: [])]) (by kernel_rfl) (by intro e; cases e) (an (an (ti trivial) (an (an (decide_eq_true h632) trivial) (an (an e634 (ti (ti trivial))) (an e640 (an (not_t (bool_f h641)) (an (ti trivial) trivial)))))) (ti trivial))
   ·rcases ifs h with ⟨h642, h⟩ | ⟨h642, h⟩
    ·have e643 := (show (0:Int) <= x24 /\ x24 < ((2 : Nat) : Int) /\ partV (x24.toNat * 2) (some 2) [vi a0.Start.Num, vi a0.Start.Den, vi a0.Slope.Num, vi a0.Slope.Den] = some (VV.ag (c_SFrac a0.Slope)) from ⟨by have := (of_decide_eq_true (decide_eq_true h642)); omega, by have := (of_decide_eq_true (decide_eq_true h642)); omega, by rw [show x24 = (1 : Int) from (of_decide_eq_true (decide_eq_true h642))]; rfl⟩)
     rcases ifs h with ⟨h644, h⟩ | ⟨h644, h⟩
     ·have e645 := (ti (ti (ti (ti (an (decide_eq_true h644) (an (decide_eq_true h644) (an (decide_eq_true h644) (an (decide_eq_true h644) (an (decide_eq_true h644) trivial)))))))))
      injection h with h; subst h
      exact round_stop (c := ⟨[(2, none)], [], []⟩) (s1 := (nspeculumref06_CheckLine_l1_0_e0 a0 ())) pm pn (ans := [.reg (.n :: []), .br true, .reg (.v (VV.ag (c_SFrac a0.Slope)) :: .n :: .n :: []), .reg (nN 4 (nS 4 (.b true :: []))), .br true, .reg (.n :: [])]) (by kernel_rfl) (by intro e; cases e) (an (an (ti trivial) (an (an (decide_eq_true h632) trivial) (an (an e643 (ti (ti trivial))) (an e645 (an rt (an (ti trivial) trivial)))))) (ti trivial))
     ·obtain ⟨r646, h647, h⟩ := bs h
      have e648 := (an (decide_eq_false h644) (nspeculumbase_Within_ok k a0.Slope.Num (-1000000000) 1000000000 _ h647))
      have e649 := (ti (ti (ti (ti (an (an (decide_eq_false h644) trivial) (an (an (decide_eq_false h644) trivial) (an e648 (an (an (decide_eq_false h644) trivial) (an (decide_eq_false h644) trivial)))))))))
      rcases ifs h with ⟨h650, h⟩ | ⟨h650, h⟩
      ·have h2 := ih _ _ h
       obtain ⟨q, hv, hq⟩ := pkR (rd := none) (P := Try.prog) (fn := Try.f10) (k := 1) (s := (nspeculumref06_CheckLine_l1_0_h a0 x24)) (ans := [.reg (.n :: []), .br true, .reg (.v (VV.ag (c_SFrac a0.Slope)) :: .n :: .n :: []), .reg (nN 6 (.call (vb r646) :: .n :: .b false :: [])), .br false, .reg (.n :: .n :: [])]) (c := ⟨[(23, none), (24, none)], [], []⟩) (e := .normal) (s1 := (nspeculumref06_CheckLine_l1_0_h a0 (w64 (x24 + 1)))) (an (an (ti trivial) (an (an (decide_eq_true h632) trivial) (an (an (an e643 (ti (ti trivial))) (an e649 (an (not_f h650) trivial))) (ti (ti trivial))))) (ti trivial)) (by kernel_rfl)
       cases r with
       | inl r => exact round_next pm pn hv hq h2
       | inr r =>
        exact round_next pm pn hv hq h2
      ·injection h with h; subst h
       exact round_stop (c := ⟨[(2, none)], [], []⟩) (s1 := (nspeculumref06_CheckLine_l1_0_e0 a0 ())) pm pn (ans := [.reg (.n :: []), .br true, .reg (.v (VV.ag (c_SFrac a0.Slope)) :: .n :: .n :: []), .reg (nN 6 (.call (vb r646) :: .n :: .b false :: [])), .br true, .reg (.n :: [])]) (by kernel_rfl) (by intro e; cases e) (an (an (ti trivial) (an (an (decide_eq_true h632) trivial) (an (an e643 (ti (ti trivial))) (an e649 (an (not_t (bool_f h650)) (an (ti trivial) trivial)))))) (ti trivial))
    ·cases h
  ·injection h with h; subst h
   exact round_stop (c := ⟨[], [], []⟩) (s1 := (nspeculumref06_CheckLine_l1_0_e1 a0 ())) pm pn (ans := [.reg (.n :: []), .br false]) (by kernel_rfl) (by intro e; cases e) (an (an (ti trivial) (an (decide_eq_false h632) trivial)) (ti trivial))
def nspeculumref06_CheckLine (k : Nat) (a0 : SLowerLine) : Option Int :=
 (nspeculumref06_CheckLine_l0_0 k a0 k 0).bind fun r600 => (match r600 with | .inl r601 => (some 3) | .inr r602 => ((nspeculumref06_CheckLine_l1_0 k a0 k 0).bind fun r652 => (match r652 with | .inl r653 => (some 2) | .inr r654 => (some 0))))
theorem nspeculumref06_CheckLine_ok (k : Nat) (a0 : SLowerLine) (r : Int) (h : nspeculumref06_CheckLine k a0 = some r) : VC Try.prog 10 [VV.ag (c_SLowerLine a0)] (vi r) := by
 unfold nspeculumref06_CheckLine at h
 obtain ⟨r600, h599, h⟩ := bs h
 have hph599 := nspeculumref06_CheckLine_l0_0_ok k a0 _ _ _ h599
 cases r600 with
 | inl r601 =>
  dsimp only at h
  have e603 := (an (ti trivial) (VRun.loop hph599))
  injection h with h; subst h
  exact fun_ok pm pn Try.func10 (r0 := vi 3) (ans := [.reg (.n :: .n :: []), .reg (nN 6 []), .sub ⟨[(1, none), (11, none), (12, none)], [none], []⟩ .ret (nspeculumref06_CheckLine_l0_0_e0 a0 r601)]) (fr := true) (by kernel_rfl) (an (an (ti (ti trivial)) (an (ti (ti (ti (ti (ti (ti trivial)))))) e603)) (ti trivial)) (Wv.refl _)
 | inr r602 =>
  dsimp only at h
  have e604 := (an (ti trivial) (VRun.loop hph599))
  obtain ⟨r652, h651, h⟩ := bs h
  have hph651 := nspeculumref06_CheckLine_l1_0_ok k a0 _ _ _ h651
  cases r652 with
  | inl r653 =>
   dsimp only at h
   have e655 := (an (ti trivial) (VRun.loop hph651))
   injection h with h; subst h
   exact fun_ok pm pn Try.func10 (r0 := vi 2) (ans := [.reg (.n :: .n :: []), .reg (nN 6 []), .sub ⟨[(1, none), (11, none), (12, none)], [none], []⟩ (.exit 0) (nspeculumref06_CheckLine_l0_0_e1 a0 r602), .reg (nN 6 []), .sub ⟨[(23, none), (24, none)], [], []⟩ .ret (nspeculumref06_CheckLine_l1_0_e0 a0 r653)]) (fr := true) (by kernel_rfl) (an (an (ti (ti trivial)) (an (an (ti (ti (ti (ti (ti (ti trivial)))))) e604) (an (ti (ti (ti (ti (ti (ti trivial)))))) e655))) (ti trivial)) (Wv.refl _)
  | inr r654 =>
   dsimp only at h
   have e656 := (an (ti trivial) (VRun.loop hph651))
   injection h with h; subst h
   exact fun_ok pm pn Try.func10 (r0 := vi 0) (ans := [.reg (.n :: .n :: []), .reg (nN 6 []), .sub ⟨[(1, none), (11, none), (12, none)], [none], []⟩ (.exit 0) (nspeculumref06_CheckLine_l0_0_e1 a0 r602), .reg (nN 6 []), .sub ⟨[(23, none), (24, none)], [], []⟩ (.exit 2) (nspeculumref06_CheckLine_l1_0_e1 a0 r654), .reg (.n :: [])]) (fr := true) (by kernel_rfl) (an (an (ti (ti trivial)) (an (an (ti (ti (ti (ti (ti (ti trivial)))))) e604) (an (an (ti (ti (ti (ti (ti (ti trivial)))))) e656) (an (ti trivial) trivial)))) (ti trivial)) (Wv.refl _)
def nspeculumbase_CopyInts (k : Nat) (a0 : (List Int)) : Option (List Int) :=
 if ([] : List Int).length + a0.length <= 1000000000 then (some (([] : List Int) ++ a0)) else none
theorem nspeculumbase_CopyInts_ok (k : Nat) (a0 : (List Int)) (r : (List Int)) (h : nspeculumbase_CopyInts k a0 = some r) : VC Try.prog 28 [VV.tr (List.map vi a0) a0.length] (VV.fw 1 (List.map vi r) r.length) := by
 unfold nspeculumbase_CopyInts at h
 obtain ⟨h659, h⟩ := ifn h
 have e660 := (show List.length [] = 0 * 1 /\ List.length (List.map vi a0) = a0.length * 1 /\ (0 + a0.length) * 8 <= 140737488355328 /\ 0 + a0.length < 1099511627776 /\ List.all (List.map vi a0) VV.still = true from ⟨(by rw [show [] = List.map vi ([] : List Int) from rfl]; simp), (by simp), (by first | omega | (simp at h659 ⊢; omega)), (by first | omega | (simp at h659 ⊢; omega)), (by exact still_vi _)⟩)
 injection h with h; subst h
 exact fun_ok pm pn Try.func28 (r0 := VV.fw 1 (List.drop 0 (List.map unfr ([] ++ (List.map vi a0)))) (0 + a0.length)) (ans := [.reg (.n :: []), .reg (nN 4 [])]) (fr := true) (by kernel_rfl) (an (an (ti trivial) (an (ti (ti (an e660 (ti trivial)))) trivial)) (an (show List.all ([] ++ (List.map vi a0)) new0 = true from (by rw [show [] ++ (List.map vi a0) = List.map vi (([] : List Int) ++ a0) from (by rw [show [] = List.map vi ([] : List Int) from rfl]; exact List.map_append.symm)]; exact new0_vi _)) trivial)) (Wv.of_eq (by simp only [show [] ++ (List.map vi a0) = List.map vi (([] : List Int) ++ a0) from (by rw [show [] = List.map vi ([] : List Int) from rfl]; exact List.map_append.symm), drop0, unfr_vi, unfr_vb, unfr_vs, map_cons, map_nil, un_i, un_k, un_b, un_s, un_tr, un_fr, length_map, length_replicate, length_append, List.length_set, length_cons, length_nil, unfr_c_SRemovalMap, unfr_g_SRemovalMap, unfr_c_SLowerLine, unfr_c_SFrac, unfr_c_A27]))
def arE1_3 (z0 : (List Int)) (z1 : (List Int)) (z2 : (List Int)) : List Ans := (.n :: .n :: .call (VV.fr (List.map vi z0) z0.length) :: .n :: .n :: .call (VV.fr (List.map vi z1) z1.length) :: .n :: .n :: .call (VV.fr (List.map vi z2) z2.length) :: .n :: .n :: [])
theorem eqE1_0 (z0 : (List Int)) (z1 : (List Int)) (z2 : (List Int)) : VV.ag [VV.fr (List.map vi z0) z0.length, VV.fr (List.map vi z1) z1.length, VV.fr (List.map vi z2) z2.length] = VV.ag (g_SRemovalMap (⟨z0, z1, z2⟩ : SRemovalMap)) := by first | rfl | (simp only [unfr_vi, map_cons, map_nil, un_i, un_fr, length_map, length_cons, length_nil, unfr_g_SRemovalMap]; done) | (simp only [unfr_vi, map_cons, map_nil, un_i, un_fr, length_map, length_cons, length_nil, unfr_g_SRemovalMap]; rfl) | (simp only [unfr_vi, map_cons, map_nil, un_i, un_fr, length_map, length_cons, length_nil, unfr_g_SRemovalMap, g_SRemovalMap, length_cons, length_nil, length_append]; done)
def nspeculumlaw06_mapped (k : Nat) (a0 : SRemovalMap) : Option SRemovalMap :=
 (nspeculumbase_CopyInts k a0.Heights).bind fun r671 => ((nspeculumbase_CopyInts k a0.Q).bind fun r674 => ((nspeculumbase_CopyInts k a0.Weights).bind fun r677 => (some (⟨r671, r674, r677⟩ : SRemovalMap))))
theorem nspeculumlaw06_mapped_ok (k : Nat) (a0 : SRemovalMap) (r : SRemovalMap) (h : nspeculumlaw06_mapped k a0 = some r) : VC Try.prog 13 [VV.ag (c_SRemovalMap a0)] (VV.ag (g_SRemovalMap r)) := by
 unfold nspeculumlaw06_mapped at h
 obtain ⟨r671, h672, h⟩ := bs h
 have e673 := (show VC Try.prog 28 [VV.tr (List.map vi a0.Heights) a0.Heights.length] (VV.fr (List.map vi r671) r671.length) from (VC.weak (nspeculumbase_CopyInts_ok k a0.Heights _ h672) (Wv.fw rfl rfl)))
 obtain ⟨r674, h675, h⟩ := bs h
 have e676 := (show VC Try.prog 28 [VV.tr (List.map vi a0.Q) a0.Q.length] (VV.fr (List.map vi r674) r674.length) from (VC.weak (nspeculumbase_CopyInts_ok k a0.Q _ h675) (Wv.fw rfl rfl)))
 obtain ⟨r677, h678, h⟩ := bs h
 have e679 := (show VC Try.prog 28 [VV.tr (List.map vi a0.Weights) a0.Weights.length] (VV.fr (List.map vi r677) r677.length) from (VC.weak (nspeculumbase_CopyInts_ok k a0.Weights _ h678) (Wv.fw rfl rfl)))
 have e680 := (ti (ti (an e673 (ti (ti (an e676 (ti (ti (an e679 (ti (ti trivial)))))))))))
 injection h with h; subst h
 exact fun_ok pm pn Try.func13 (r0 := VV.ag [VV.fr (List.map vi r671) r671.length, VV.fr (List.map vi r674) r674.length, VV.fr (List.map vi r677) r677.length]) (ans := [.reg (.n :: .n :: []), .reg (arE1_3 r671 r674 r677)]) (fr := true) (by kernel_rfl) (an (an (ti (ti trivial)) (an e680 trivial)) (an (ti (ti (ti (ti trivial)))) trivial)) (Wv.of_eq (eqE1_0 r671 r674 r677))
def nfigure_isWithin (k : Nat) (a0 : Int) (a1 : Int) (a2 : Int) : Option Bool :=
 if a1 <= a0 then (some (decide (a0 <= a2))) else (some false)
theorem nfigure_isWithin_ok (k : Nat) (a0 : Int) (a1 : Int) (a2 : Int) (r : Bool) (h : nfigure_isWithin k a0 a1 a2 = some r) : VC Try.prog 48 [vi a0, vi a1, vi a2] (vb r) := by
 unfold nfigure_isWithin at h
 rcases ifs h with ⟨h684, h⟩ | ⟨h684, h⟩
 ·have e685 := (ti (ti (ti (ti (an (an (decide_eq_true h684) trivial) (an (an (decide_eq_true h684) trivial) (an (an (decide_eq_true h684) trivial) (an (decide_eq_true h684) (ti trivial)))))))))
  injection h with h; subst h
  exact fun_ok pm pn Try.func48 (r0 := vb (decide (a0 <= a2))) (ans := [.reg (.n :: []), .reg (nN 7 (.b true :: .n :: []))]) (fr := true) (by kernel_rfl) (an (an (ti trivial) (an e685 trivial)) (ti trivial)) (Wv.refl _)
 ·have e686 := (ti (ti (ti (ti (an (decide_eq_false h684) (an (decide_eq_false h684) (an (decide_eq_false h684) (an (decide_eq_false h684) (ti trivial)))))))))
  injection h with h; subst h
  exact fun_ok pm pn Try.func48 (r0 := vb false) (ans := [.reg (.n :: []), .reg (nN 4 (nS 3 (.b false :: .n :: [])))]) (fr := true) (by kernel_rfl) (an (an (ti trivial) (an e686 trivial)) (ti trivial)) (Wv.refl _)
def nfigure_areHeights_l0_0_h (a0 : (List Int)) (x7 : Int) : VS := ⟨mkA [(5, VV.tr (List.map vi a0) a0.length), (6, vi (a0.length : Int)), (7, vi x7)], [], .nil⟩
def nfigure_areHeights_l0_0_e0 (a0 : (List Int)) (r : Unit) : VS := ⟨mkA [(2, vb false)], [], .nil⟩
def nfigure_areHeights_l0_0_e1 (a0 : (List Int)) (r : Unit) : VS := ⟨mkA [], [], .nil⟩
def nfigure_areHeights_l0_0 (k : Nat) (a0 : (List Int)) : Nat -> Int -> Option (Sum Unit Unit)
 | 0, _ => none
 | fuel + 1, x7 => if x7 < (a0.length : Int) then (if 0 <= x7 /\ x7 < (a0.length : Int) then ((nfigure_isWithin k (a0.getD x7.toNat 0) (-100000) 100000).bind fun r746 => (if r746 = true then (nfigure_areHeights_l0_0 k a0 fuel (w64 (x7 + 1))) else (some (.inl ())))) else none) else (some (.inr ()))
theorem nfigure_areHeights_l0_0_ok (k : Nat) (a0 : (List Int)) : ∀ (fuel : Nat) (x7 : Int) (r : Sum Unit Unit), nfigure_areHeights_l0_0 k a0 fuel x7 = some r -> (match r with | .inl r => VLoop none Try.prog (szF Try.f73) (bodyOf Try.f73 0) (nfigure_areHeights_l0_0_h a0 x7) .ret (nfigure_areHeights_l0_0_e0 a0 r) | .inr r => VLoop none Try.prog (szF Try.f73) (bodyOf Try.f73 0) (nfigure_areHeights_l0_0_h a0 x7) (.exit 0) (nfigure_areHeights_l0_0_e1 a0 r)) := by
 intro fuel
 induction fuel with
 | zero => intro x7 r h; rw [nfigure_areHeights_l0_0.eq_1] at h; cases h
 | succ fuel ih =>
  intro x7 r h
  rw [nfigure_areHeights_l0_0.eq_2] at h
  rcases ifs h with ⟨h743, h⟩ | ⟨h743, h⟩
  ·obtain ⟨h744, h⟩ := ifn h
   have e745 := (show loadL Try.prog 3 (x7.toNat * 1) (List.map vi a0) = some (vi (a0.getD x7.toNat 0)) from ld_map ag3 vi a0 0 h744 (by omega))
   obtain ⟨r746, h747, h⟩ := bs h
   have e748 := (nfigure_isWithin_ok k (a0.getD x7.toNat 0) (-100000) 100000 _ h747)
   rcases ifs h with ⟨h749, h⟩ | ⟨h749, h⟩
   ·have h2 := ih _ _ h
    obtain ⟨q, hv, hq⟩ := pkR (rd := none) (P := Try.prog) (fn := Try.f73) (k := 0) (s := (nfigure_areHeights_l0_0_h a0 x7)) (ans := [.reg (.n :: []), .br true, .reg (.n :: .v (vi (a0.getD x7.toNat 0)) :: .n :: []), .reg (.n :: .call (vb r746) :: .n :: []), .br false, .reg (.n :: .n :: [])]) (c := ⟨[(5, none), (6, none), (7, none)], [], []⟩) (e := .normal) (s1 := (nfigure_areHeights_l0_0_h a0 (w64 (x7 + 1)))) (an (an (ti trivial) (an (an (decide_eq_true h743) trivial) (an (an (an h744 (an e745 (ti trivial))) (an (ti (an e748 (ti trivial))) (an (not_f h749) trivial))) (ti (ti trivial))))) (ti trivial)) (by kernel_rfl)
    cases r with
    | inl r => exact round_next pm pn hv hq h2
    | inr r =>
     exact round_next pm pn hv hq h2
   ·injection h with h; subst h
    exact round_stop (c := ⟨[(2, none)], [], []⟩) (s1 := (nfigure_areHeights_l0_0_e0 a0 ())) pm pn (ans := [.reg (.n :: []), .br true, .reg (.n :: .v (vi (a0.getD x7.toNat 0)) :: .n :: []), .reg (.n :: .call (vb r746) :: .n :: []), .br true, .reg (.n :: [])]) (by kernel_rfl) (by intro e; cases e) (an (an (ti trivial) (an (an (decide_eq_true h743) trivial) (an (an h744 (an e745 (ti trivial))) (an (ti (an e748 (ti trivial))) (an (not_t (bool_f h749)) (an (ti trivial) trivial)))))) (ti trivial))
  ·injection h with h; subst h
   exact round_stop (c := ⟨[], [], []⟩) (s1 := (nfigure_areHeights_l0_0_e1 a0 ())) pm pn (ans := [.reg (.n :: []), .br false]) (by kernel_rfl) (by intro e; cases e) (an (an (ti trivial) (an (decide_eq_false h743) trivial)) (ti trivial))
def nfigure_areHeights (k : Nat) (a0 : (List Int)) : Option Bool :=
 (nfigure_areHeights_l0_0 k a0 k 0).bind fun r751 => (match r751 with | .inl r752 => (some false) | .inr r753 => (some true))
theorem nfigure_areHeights_ok (k : Nat) (a0 : (List Int)) (r : Bool) (h : nfigure_areHeights k a0 = some r) : VC Try.prog 73 [VV.tr (List.map vi a0) a0.length] (vb r) := by
 unfold nfigure_areHeights at h
 obtain ⟨r751, h750, h⟩ := bs h
 have hph750 := nfigure_areHeights_l0_0_ok k a0 _ _ _ h750
 cases r751 with
 | inl r752 =>
  dsimp only at h
  have e754 := (an (ti trivial) (VRun.loop hph750))
  injection h with h; subst h
  exact fun_ok pm pn Try.func73 (r0 := vb false) (ans := [.reg (.n :: []), .reg (nN 3 []), .sub ⟨[(5, none), (6, none), (7, none)], [], []⟩ .ret (nfigure_areHeights_l0_0_e0 a0 r752)]) (fr := true) (by kernel_rfl) (an (an (ti trivial) (an (ti (ti (ti trivial))) e754)) (ti trivial)) (Wv.refl _)
 | inr r753 =>
  dsimp only at h
  have e755 := (an (ti trivial) (VRun.loop hph750))
  injection h with h; subst h
  exact fun_ok pm pn Try.func73 (r0 := vb true) (ans := [.reg (.n :: []), .reg (nN 3 []), .sub ⟨[(5, none), (6, none), (7, none)], [], []⟩ (.exit 0) (nfigure_areHeights_l0_0_e1 a0 r753), .reg (.n :: [])]) (fr := true) (by kernel_rfl) (an (an (ti trivial) (an (an (ti (ti (ti trivial))) e755) (an (ti trivial) trivial))) (ti trivial)) (Wv.refl _)
theorem eqE1_2 (z0 : SRemovalMap) (z1 : Int) : [VV.tr (List.map vi ([(z0.Heights.getD z1.toNat 0)] : List Int)) (([(z0.Heights.getD z1.toNat 0)] : List Int).length)] = [VV.tr [vi (z0.Heights.getD z1.toNat 0)] 1] := by first | rfl | (simp only [unfr_vi, map_cons, map_nil, un_i, un_tr, length_map, length_cons, length_nil]; done) | (simp only [unfr_vi, map_cons, map_nil, un_i, un_tr, length_map, length_cons, length_nil]; rfl) | (simp only [unfr_vi, map_cons, map_nil, un_i, un_tr, length_map, length_cons, length_nil, length_cons, length_nil, length_append]; done)
def arE1_4 (z0 : Bool) (z1 : SRemovalMap) (z2 : Int) (z3 : Bool) (z4 : Bool) : List Ans := (.n :: .v VV.any :: .call (vb z0) :: nN 6 (.v (vi (z1.Q.getD z2.toNat 0)) :: .call (vb z3) :: .n :: .b false :: nN 5 (.v (vi (z1.Weights.getD z2.toNat 0)) :: .call (vb z4) :: .n :: .b false :: [])))
def arE1_5 (z0 : Bool) (z1 : SRemovalMap) (z2 : Int) (z3 : Bool) : List Ans := (.n :: .v VV.any :: .call (vb z0) :: nN 6 (.v (vi (z1.Q.getD z2.toNat 0)) :: .call (vb z3) :: .n :: .b false :: .n :: nS 7 (.b true :: [])))
def arE1_6 (z0 : Bool) : List Ans := (.n :: .v VV.any :: .call (vb z0) :: .n :: .n :: nS 7 (.b true :: .n :: nS 7 (.b true :: [])))
def nslices_Max_int_int__l0_0_h (a0 : (List Int)) (x3 : Int) (x4 : Int) : VS := ⟨mkA [(0, VV.tr (List.map vi a0) a0.length), (3, vi x3), (4, vi x4)], [], .nil⟩
def nslices_Max_int_int__l0_0_e0 (a0 : (List Int)) (r : Int) : VS := ⟨mkA [(3, vi r)], [], .nil⟩
def nslices_Max_int_int__l0_0 (k : Nat) (a0 : (List Int)) : Nat -> Int -> Int -> Option (Int)
 | 0, _, _ => none
 | fuel + 1, x3, x4 => if x4 < (a0.length : Int) then (if 0 <= x4 /\ x4 < (a0.length : Int) then (nslices_Max_int_int__l0_0 k a0 fuel (maxI x3 (a0.getD x4.toNat 0)) (w64 (x4 + 1))) else none) else (some x3)
theorem nslices_Max_int_int__l0_0_ok (k : Nat) (a0 : (List Int)) : ∀ (fuel : Nat) (x3 : Int) (x4 : Int) (r : Int), nslices_Max_int_int__l0_0 k a0 fuel x3 x4 = some r -> (VLoop none Try.prog (szF Try.f74) (bodyOf Try.f74 0) (nslices_Max_int_int__l0_0_h a0 x3 x4) (.exit 0) (nslices_Max_int_int__l0_0_e0 a0 r)) := by
 intro fuel
 induction fuel with
 | zero => intro x3 x4 r h; rw [nslices_Max_int_int__l0_0.eq_1] at h; cases h
 | succ fuel ih =>
  intro x3 x4 r h
  rw [nslices_Max_int_int__l0_0.eq_2] at h
  rcases ifs h with ⟨h854, h⟩ | ⟨h854, h⟩
  ·obtain ⟨h855, h⟩ := ifn h
   have e856 := (show loadL Try.prog 3 (x4.toNat * 1) (List.map vi a0) = some (vi (a0.getD x4.toNat 0)) from ld_map ag3 vi a0 0 h855 (by omega))
   have e857 := (ti (ti (ti (an h855 (an e856 (ti (ti trivial)))))))
   have h2 := ih _ _ _ h
   obtain ⟨q, hv, hq⟩ := pkR (rd := none) (P := Try.prog) (fn := Try.f74) (k := 0) (s := (nslices_Max_int_int__l0_0_h a0 x3 x4)) (ans := [.reg (nN 4 []), .br true, .reg (nN 4 (.v (vi (a0.getD x4.toNat 0)) :: .n :: .n :: [])), .reg (nN 3 [])]) (c := ⟨[(0, none), (3, none), (4, none)], [], []⟩) (e := .normal) (s1 := (nslices_Max_int_int__l0_0_h a0 (maxI x3 (a0.getD x4.toNat 0)) (w64 (x4 + 1)))) (an (an (an (ti (ti (ti (ti trivial)))) (an (decide_eq_true h854) trivial)) (an e857 (ti (ti (ti trivial))))) (ti trivial)) (by kernel_rfl)
   exact round_next pm pn hv hq h2
  ·injection h with h; subst h
   exact round_stop (c := ⟨[(3, none)], [], []⟩) (s1 := (nslices_Max_int_int__l0_0_e0 a0 x3)) pm pn (ans := [.reg (nN 4 []), .br false]) (by kernel_rfl) (by intro e; cases e) (an (an (ti (ti (ti (ti trivial)))) (an (decide_eq_false h854) trivial)) (ti trivial))
def nslices_Max_int_int_ (k : Nat) (a0 : (List Int)) : Option Int :=
 if (a0.length : Int) < 1 then none else (if (0 : Int) <= 0 /\ 0 < (a0.length : Int) then ((nslices_Max_int_int__l0_0 k a0 k (a0.getD ((0 : Int)).toNat 0) 1).bind fun r859 => (some r859)) else none)
theorem nslices_Max_int_int__ok (k : Nat) (a0 : (List Int)) (r : Int) (h : nslices_Max_int_int_ k a0 = some r) : VC Try.prog 74 [VV.tr (List.map vi a0) a0.length] (vi r) := by
 unfold nslices_Max_int_int_ at h
 rcases ifs h with ⟨h843, h⟩ | ⟨h843, h⟩
 ·cases h
 ·obtain ⟨h844, h⟩ := ifn h
  have e845 := (show loadL Try.prog 3 (((0 : Int)).toNat * 1) (List.map vi a0) = some (vi (a0.getD ((0 : Int)).toNat 0)) from ld_map ag3 vi a0 0 h844 (by omega))
  obtain ⟨r859, h858, h⟩ := bs h
  have hph858 := nslices_Max_int_int__l0_0_ok k a0 _ _ _ _ h858
  have e860 := (an (ti trivial) (VRun.loop hph858))
  injection h with h; subst h
  exact fun_ok pm pn Try.func74 (r0 := vi r859) (ans := [.reg (.n :: []), .reg (nN 3 []), .br false, .reg (.n :: .n :: .v (vi (a0.getD ((0 : Int)).toNat 0)) :: .n :: []), .reg (.n :: []), .sub ⟨[(0, none), (3, none), (4, none)], [], []⟩ (.exit 0) (nslices_Max_int_int__l0_0_e0 a0 r859), .reg (.n :: .n :: [])]) (fr := true) (by kernel_rfl) (an (an (ti trivial) (an (an (ti (ti (ti trivial))) (an (decide_eq_false h843) trivial)) (an (ti (an h844 (an e845 (ti trivial)))) (an (an (ti trivial) e860) (an (ti (ti trivial)) trivial))))) (ti trivial)) (Wv.refl _)
def nfigure_CheckMap_l0_0_h (a0 : SRemovalMap) (x29 : Int) : VS := ⟨mkA [(1, VV.pt 0 0), (27, VV.tr (List.map vi a0.Heights) a0.Heights.length), (28, vi (a0.Heights.length : Int)), (29, vi x29)], [some ⟨true, 1, c_SRemovalMap a0⟩], .nil⟩
def nfigure_CheckMap_l0_0_e0 (a0 : SRemovalMap) (r : Unit) : VS := ⟨mkA [(2, vi 2)], [], .nil⟩
def nfigure_CheckMap_l0_0_e1 (a0 : SRemovalMap) (r : Unit) : VS := ⟨mkA [(1, VV.pt 0 0)], [some ⟨true, 1, c_SRemovalMap a0⟩], .nil⟩
def nfigure_CheckMap_l0_0 (k : Nat) (a0 : SRemovalMap) : Nat -> Int -> Option (Sum Unit Unit)
 | 0, _ => none
 | fuel + 1, x29 => if x29 < (a0.Heights.length : Int) then (if 0 <= x29 /\ x29 < (a0.Heights.length : Int) then ((nfigure_areHeights k ([(a0.Heights.getD x29.toNat 0)] : List Int)).bind fun r926 => (if r926 = true then (if 0 <= x29 /\ x29 < (a0.Q.length : Int) then ((nfigure_isWithin k (a0.Q.getD x29.toNat 0) 0 1000).bind fun r932 => (if r932 = true then (if 0 <= x29 /\ x29 < (a0.Weights.length : Int) then ((nfigure_isWithin k (a0.Weights.getD x29.toNat 0) 0 1000).bind fun r938 => (if r938 = true then (nfigure_CheckMap_l0_0 k a0 fuel (w64 (x29 + 1))) else (some (.inl ())))) else none) else (some (.inl ())))) else none) else (some (.inl ())))) else none) else (some (.inr ()))
theorem nfigure_CheckMap_l0_0_ok (k : Nat) (a0 : SRemovalMap) : ∀ (fuel : Nat) (x29 : Int) (r : Sum Unit Unit), nfigure_CheckMap_l0_0 k a0 fuel x29 = some r -> (match r with | .inl r => VLoop none Try.prog (szF Try.f43) (bodyOf Try.f43 0) (nfigure_CheckMap_l0_0_h a0 x29) .ret (nfigure_CheckMap_l0_0_e0 a0 r) | .inr r => VLoop none Try.prog (szF Try.f43) (bodyOf Try.f43 0) (nfigure_CheckMap_l0_0_h a0 x29) (.exit 0) (nfigure_CheckMap_l0_0_e1 a0 r)) := by
 intro fuel
 induction fuel with
 | zero => intro x29 r h; rw [nfigure_CheckMap_l0_0.eq_1] at h; cases h
 | succ fuel ih =>
  intro x29 r h
  rw [nfigure_CheckMap_l0_0.eq_2] at h
  rcases ifs h with ⟨h923, h⟩ | ⟨h923, h⟩
  ·obtain ⟨h924, h⟩ := ifn h
   have e925 := (show loadL Try.prog 3 (x29.toNat * 1) (List.map vi a0.Heights) = some (vi (a0.Heights.getD x29.toNat 0)) from ld_map ag3 vi a0.Heights 0 h924 (by omega))
   obtain ⟨r926, h927, h⟩ := bs h
   have e928 := (VC.args (nfigure_areHeights_ok k ([(a0.Heights.getD x29.toNat 0)] : List Int) _ h927) (eqE1_2 a0 x29))
   rcases ifs h with ⟨h929, h⟩ | ⟨h929, h⟩
   ·obtain ⟨h930, h⟩ := ifn h
    have e931 := (an (not_f h929) (show loadL Try.prog 3 (x29.toNat * 1) (List.map vi a0.Q) = some (vi (a0.Q.getD x29.toNat 0)) from ld_map ag3 vi a0.Q 0 h930 (by omega)))
    obtain ⟨r932, h933, h⟩ := bs h
    have e934 := (an (not_f h929) (nfigure_isWithin_ok k (a0.Q.getD x29.toNat 0) 0 1000 _ h933))
    rcases ifs h with ⟨h935, h⟩ | ⟨h935, h⟩
    ·obtain ⟨h936, h⟩ := ifn h
     have e937 := (an (not_f h935) (show loadL Try.prog 3 (x29.toNat * 1) (List.map vi a0.Weights) = some (vi (a0.Weights.getD x29.toNat 0)) from ld_map ag3 vi a0.Weights 0 h936 (by omega)))
     obtain ⟨r938, h939, h⟩ := bs h
     have e940 := (an (not_f h935) (nfigure_isWithin_ok k (a0.Weights.getD x29.toNat 0) 0 1000 _ h939))
     have e941 := (ti (ti (an e928 (ti (ti (an (an (not_f h929) trivial) (an (an (not_f h929) trivial) (an (an (not_f h929) trivial) (an (an (not_f h929) h930) (an e931 (an e934 (an (an (not_f h929) trivial) (an (not_f h929) (ti (an (an (not_f h935) trivial) (an (an (not_f h935) trivial) (an (an (not_f h935) trivial) (an (an (not_f h935) h936) (an e937 (an e940 (an (an (not_f h935) trivial) (an (not_f h935) trivial))))))))))))))))))))))
     rcases ifs h with ⟨h942, h⟩ | ⟨h942, h⟩
     ·have h2 := ih _ _ h
      obtain ⟨q, hv, hq⟩ := pkR (rd := none) (P := Try.prog) (fn := Try.f43) (k := 0) (s := (nfigure_CheckMap_l0_0_h a0 x29)) (ans := [.reg (.n :: []), .br true, .reg (.n :: .n :: .v (vi (a0.Heights.getD x29.toNat 0)) :: .n :: .n :: []), .reg (arE1_4 r926 a0 x29 r932 r938), .br false, .reg (.n :: .n :: [])]) (c := ⟨[(1, none), (27, none), (28, none), (29, none)], [none], []⟩) (e := .normal) (s1 := (nfigure_CheckMap_l0_0_h a0 (w64 (x29 + 1)))) (an (an (ti trivial) (an (an (decide_eq_true h923) trivial) (an (an (ti (an h924 (an e925 (ti (ti trivial))))) (an e941 (an (not_f h942) trivial))) (ti (ti trivial))))) (ti trivial)) (by kernel_rfl)
      cases r with
      | inl r => exact round_next pm pn hv hq h2
      | inr r =>
       exact round_next pm pn hv hq h2
     ·injection h with h; subst h
      exact round_stop (c := ⟨[(2, none)], [], []⟩) (s1 := (nfigure_CheckMap_l0_0_e0 a0 ())) pm pn (ans := [.reg (.n :: []), .br true, .reg (.n :: .n :: .v (vi (a0.Heights.getD x29.toNat 0)) :: .n :: .n :: []), .reg (arE1_4 r926 a0 x29 r932 r938), .br true, .reg (.n :: [])]) (by kernel_rfl) (by intro e; cases e) (an (an (ti trivial) (an (an (decide_eq_true h923) trivial) (an (ti (an h924 (an e925 (ti (ti trivial))))) (an e941 (an (not_t (bool_f h942)) (an (ti trivial) trivial)))))) (ti trivial))
    ·have e943 := (ti (ti (an e928 (ti (ti (an (an (not_f h929) trivial) (an (an (not_f h929) trivial) (an (an (not_f h929) trivial) (an (an (not_f h929) h930) (an e931 (an e934 (an (an (not_f h929) trivial) (an (not_f h929) (ti (an (not_t (bool_f h935)) (an (not_t (bool_f h935)) (an (not_t (bool_f h935)) (an (not_t (bool_f h935)) (an (not_t (bool_f h935)) (an (not_t (bool_f h935)) (an (not_t (bool_f h935)) (an (not_t (bool_f h935)) trivial))))))))))))))))))))))
     injection h with h; subst h
     exact round_stop (c := ⟨[(2, none)], [], []⟩) (s1 := (nfigure_CheckMap_l0_0_e0 a0 ())) pm pn (ans := [.reg (.n :: []), .br true, .reg (.n :: .n :: .v (vi (a0.Heights.getD x29.toNat 0)) :: .n :: .n :: []), .reg (arE1_5 r926 a0 x29 r932), .br true, .reg (.n :: [])]) (by kernel_rfl) (by intro e; cases e) (an (an (ti trivial) (an (an (decide_eq_true h923) trivial) (an (ti (an h924 (an e925 (ti (ti trivial))))) (an e943 (an rt (an (ti trivial) trivial)))))) (ti trivial))
   ·have e944 := (ti (ti (an e928 (ti (ti (an (not_t (bool_f h929)) (an (not_t (bool_f h929)) (an (not_t (bool_f h929)) (an (not_t (bool_f h929)) (an (not_t (bool_f h929)) (an (not_t (bool_f h929)) (an (not_t (bool_f h929)) (an (not_t (bool_f h929)) (ti (an rt (an rt (an rt (an rt (an rt (an rt (an rt (an rt trivial))))))))))))))))))))))
    injection h with h; subst h
    exact round_stop (c := ⟨[(2, none)], [], []⟩) (s1 := (nfigure_CheckMap_l0_0_e0 a0 ())) pm pn (ans := [.reg (.n :: []), .br true, .reg (.n :: .n :: .v (vi (a0.Heights.getD x29.toNat 0)) :: .n :: .n :: []), .reg (arE1_6 r926), .br true, .reg (.n :: [])]) (by kernel_rfl) (by intro e; cases e) (an (an (ti trivial) (an (an (decide_eq_true h923) trivial) (an (ti (an h924 (an e925 (ti (ti trivial))))) (an e944 (an rt (an (ti trivial) trivial)))))) (ti trivial))
  ·injection h with h; subst h
   exact round_stop (c := ⟨[(1, none)], [none], []⟩) (s1 := (nfigure_CheckMap_l0_0_e1 a0 ())) pm pn (ans := [.reg (.n :: []), .br false]) (by kernel_rfl) (by intro e; cases e) (an (an (ti trivial) (an (decide_eq_false h923) trivial)) (ti trivial))
def nfigure_CheckMap (k : Nat) (a0 : SRemovalMap) : Option Int :=
 (nfigure_isWithin k (a0.Heights.length : Int) 1 40).bind fun r867 => (if r867 = true then (if (a0.Q.length : Int) = (a0.Heights.length : Int) then (if (a0.Weights.length : Int) = (a0.Heights.length : Int) then ((nfigure_CheckMap_l0_0 k a0 k 0).bind fun r946 => (match r946 with | .inl r947 => (some 2) | .inr r948 => ((nslices_Max_int_int_ k a0.Weights).bind fun r951 => (if r951 = 0 then (some 11) else (some 0))))) else (some 10)) else (some 10)) else (some 10))
theorem nfigure_CheckMap_ok (k : Nat) (a0 : SRemovalMap) (r : Int) (h : nfigure_CheckMap k a0 = some r) : VC Try.prog 43 [VV.ag (c_SRemovalMap a0)] (vi r) := by
 unfold nfigure_CheckMap at h
 obtain ⟨r867, h868, h⟩ := bs h
 have e869 := (nfigure_isWithin_ok k (a0.Heights.length : Int) 1 40 _ h868)
 rcases ifs h with ⟨h870, h⟩ | ⟨h870, h⟩
 ·rcases ifs h with ⟨h871, h⟩ | ⟨h871, h⟩
  ·have e872 := (an (not_f (decide_eq_true h871)) trivial)
   have e873 := (an (not_f (decide_eq_true h871)) trivial)
   have e874 := (an (not_f (decide_eq_true h871)) trivial)
   have e875 := (an (not_f (decide_eq_true h871)) trivial)
   have e876 := (an (not_f (decide_eq_true h871)) trivial)
   have e877 := (ti (an e869 (ti (ti (an (an (not_f h870) trivial) (an (an (not_f h870) trivial) (an (an (not_f h870) trivial) (an (an (not_f h870) trivial) (an (an (not_f h870) trivial) (an (not_f h870) (ti (an e872 (an e873 (an e874 (an e875 (an e876 (an (not_f (decide_eq_true h871)) trivial)))))))))))))))))
   rcases ifs h with ⟨h878, h⟩ | ⟨h878, h⟩
   ·obtain ⟨r946, h945, h⟩ := bs h
    have hph945 := nfigure_CheckMap_l0_0_ok k a0 _ _ _ h945
    cases r946 with
    | inl r947 =>
     dsimp only at h
     have e949 := (an (ti trivial) (VRun.loop hph945))
     injection h with h; subst h
     exact fun_ok pm pn Try.func43 (r0 := vi 2) (ans := [.reg (.n :: .n :: []), .reg (nN 4 []), .reg (.n :: .call (vb r867) :: nN 7 (.b false :: nN 6 (.b false :: []))), .br false, .reg (nN 4 []), .sub ⟨[(1, none), (27, none), (28, none), (29, none)], [none], []⟩ .ret (nfigure_CheckMap_l0_0_e0 a0 r947)]) (fr := true) (by kernel_rfl) (an (an (ti (ti trivial)) (an (ti (ti (ti (ti trivial)))) (an (an e877 (an (not_f (decide_eq_true h878)) trivial)) (an (ti (ti (ti (ti trivial)))) e949)))) (ti trivial)) (Wv.refl _)
    | inr r948 =>
     dsimp only at h
     have e950 := (an (ti trivial) (VRun.loop hph945))
     obtain ⟨r951, h952, h⟩ := bs h
     have e953 := (nslices_Max_int_int__ok k a0.Weights _ h952)
     rcases ifs h with ⟨h954, h⟩ | ⟨h954, h⟩
     ·injection h with h; subst h
      exact fun_ok pm pn Try.func43 (r0 := vi 11) (ans := [.reg (.n :: .n :: []), .reg (nN 4 []), .reg (.n :: .call (vb r867) :: nN 7 (.b false :: nN 6 (.b false :: []))), .br false, .reg (nN 4 []), .sub ⟨[(1, none), (27, none), (28, none), (29, none)], [none], []⟩ (.exit 0) (nfigure_CheckMap_l0_0_e1 a0 r948), .reg (.n :: .n :: .call (vi r951) :: .n :: []), .br true, .reg (.n :: [])]) (fr := true) (by kernel_rfl) (an (an (ti (ti trivial)) (an (ti (ti (ti (ti trivial)))) (an (an e877 (an (not_f (decide_eq_true h878)) trivial)) (an (an (ti (ti (ti (ti trivial)))) e950) (an (ti (ti (an e953 (ti trivial)))) (an (decide_eq_true h954) (an (ti trivial) trivial))))))) (ti trivial)) (Wv.refl _)
     ·injection h with h; subst h
      exact fun_ok pm pn Try.func43 (r0 := vi 0) (ans := [.reg (.n :: .n :: []), .reg (nN 4 []), .reg (.n :: .call (vb r867) :: nN 7 (.b false :: nN 6 (.b false :: []))), .br false, .reg (nN 4 []), .sub ⟨[(1, none), (27, none), (28, none), (29, none)], [none], []⟩ (.exit 0) (nfigure_CheckMap_l0_0_e1 a0 r948), .reg (.n :: .n :: .call (vi r951) :: .n :: []), .br false, .reg (.n :: [])]) (fr := true) (by kernel_rfl) (an (an (ti (ti trivial)) (an (ti (ti (ti (ti trivial)))) (an (an e877 (an (not_f (decide_eq_true h878)) trivial)) (an (an (ti (ti (ti (ti trivial)))) e950) (an (an (ti (ti (an e953 (ti trivial)))) (an (decide_eq_false h954) trivial)) (an (ti trivial) trivial)))))) (ti trivial)) (Wv.refl _)
   ·injection h with h; subst h
    exact fun_ok pm pn Try.func43 (r0 := vi 10) (ans := [.reg (.n :: .n :: []), .reg (nN 4 []), .reg (.n :: .call (vb r867) :: nN 7 (.b false :: nN 6 (.b false :: []))), .br true, .reg (.n :: [])]) (fr := true) (by kernel_rfl) (an (an (ti (ti trivial)) (an (ti (ti (ti (ti trivial)))) (an e877 (an (not_t (decide_eq_false h878)) (an (ti trivial) trivial))))) (ti trivial)) (Wv.refl _)
  ·have e955 := (ti (an e869 (ti (ti (an (an (not_f h870) trivial) (an (an (not_f h870) trivial) (an (an (not_f h870) trivial) (an (an (not_f h870) trivial) (an (an (not_f h870) trivial) (an (not_f h870) (ti (an (not_t (decide_eq_false h871)) (an (not_t (decide_eq_false h871)) (an (not_t (decide_eq_false h871)) (an (not_t (decide_eq_false h871)) (an (not_t (decide_eq_false h871)) (an (not_t (decide_eq_false h871)) trivial)))))))))))))))))
   injection h with h; subst h
   exact fun_ok pm pn Try.func43 (r0 := vi 10) (ans := [.reg (.n :: .n :: []), .reg (nN 4 []), .reg (.n :: .call (vb r867) :: nN 7 (.b false :: .n :: nS 5 (.b true :: []))), .br true, .reg (.n :: [])]) (fr := true) (by kernel_rfl) (an (an (ti (ti trivial)) (an (ti (ti (ti (ti trivial)))) (an e955 (an rt (an (ti trivial) trivial))))) (ti trivial)) (Wv.refl _)
 ·have e956 := (ti (an e869 (ti (ti (an (not_t (bool_f h870)) (an (not_t (bool_f h870)) (an (not_t (bool_f h870)) (an (not_t (bool_f h870)) (an (not_t (bool_f h870)) (an (not_t (bool_f h870)) (ti (an rt (an rt (an rt (an rt (an rt (an rt trivial)))))))))))))))))
  injection h with h; subst h
  exact fun_ok pm pn Try.func43 (r0 := vi 10) (ans := [.reg (.n :: .n :: []), .reg (nN 4 []), .reg (.n :: .call (vb r867) :: .n :: .n :: nS 5 (.b true :: .n :: nS 5 (.b true :: []))), .br true, .reg (.n :: [])]) (fr := true) (by kernel_rfl) (an (an (ti (ti trivial)) (an (ti (ti (ti (ti trivial)))) (an e956 (an rt (an (ti trivial) trivial))))) (ti trivial)) (Wv.refl _)
def nfigure_pairs (k : Nat) (a0 : Int) : Option Int :=
 some a0
theorem nfigure_pairs_ok (k : Nat) (a0 : Int) (r : Int) (h : nfigure_pairs k a0 = some r) : VC Try.prog 68 [vi a0] (VV.fn 93 [VV.tp [vi r] 0]) := by
 unfold nfigure_pairs at h
 injection h with h; subst h
 exact fun_ok pm pn Try.func68 (r0 := VV.fn 93 [VV.tp [vi a0] 0]) (ans := [.reg (.n :: .n :: []), .frz 0, .reg (.n :: .n :: [])]) (fr := false) (by kernel_rfl) (an (an (ti (ti trivial)) (an (ti (ti trivial)) trivial)) (ti trivial)) (Wv.refl _)
def nfigure_divisor_l0_0_h  (x0 : Int) (x1 : Int) : VS := ⟨mkA [(0, vi x0), (1, vi x1)], [], .nil⟩
def nfigure_divisor_l0_0_e0  (r : Int) : VS := ⟨mkA [(0, vi r)], [], .nil⟩
def nfigure_divisor_l0_0 (k : Nat)  : Nat -> Int -> Int -> Option (Int)
 | 0, _, _ => none
 | fuel + 1, x0, x1 => if x1 = 0 then (some x0) else (if x1 ≠ 0 then (nfigure_divisor_l0_0 k  fuel x1 (x0.tmod x1)) else none)
theorem nfigure_divisor_l0_0_ok (k : Nat)  : ∀ (fuel : Nat) (x0 : Int) (x1 : Int) (r : Int), nfigure_divisor_l0_0 k  fuel x0 x1 = some r -> (VLoop none Try.prog (szF Try.f72) (bodyOf Try.f72 0) (nfigure_divisor_l0_0_h  x0 x1) (.exit 0) (nfigure_divisor_l0_0_e0  r)) := by
 intro fuel
 induction fuel with
 | zero => intro x0 x1 r h; rw [nfigure_divisor_l0_0.eq_1] at h; cases h
 | succ fuel ih =>
  intro x0 x1 r h
  rw [nfigure_divisor_l0_0.eq_2] at h
  rcases ifs h with ⟨h1004, h⟩ | ⟨h1004, h⟩
  ·injection h with h; subst h
   exact round_stop (c := ⟨[(0, none)], [], []⟩) (s1 := (nfigure_divisor_l0_0_e0  x0)) pm pn (ans := [.reg (.n :: .n :: []), .br false]) (by kernel_rfl) (by intro e; cases e) (an (an (ti (ti trivial)) (an (not_f (decide_eq_true h1004)) trivial)) (ti trivial))
  ·obtain ⟨h1005, h⟩ := ifn h
   have h2 := ih _ _ _ h
   obtain ⟨q, hv, hq⟩ := pkR (rd := none) (P := Try.prog) (fn := Try.f72) (k := 0) (s := (nfigure_divisor_l0_0_h  x0 x1)) (ans := [.reg (.n :: .n :: []), .br true, .reg (nN 6 [])]) (c := ⟨[(0, none), (1, none)], [], []⟩) (e := .normal) (s1 := (nfigure_divisor_l0_0_h  x1 (x0.tmod x1))) (an (an (an (ti (ti trivial)) (an (not_t (decide_eq_false h1004)) trivial)) (ti (ti (ti (an h1005 (ti (ti trivial))))))) (ti trivial)) (by kernel_rfl)
   exact round_next pm pn hv hq h2
def nfigure_divisor (k : Nat) (a0 : Int) (a1 : Int) : Option Int :=
 (nfigure_divisor_l0_0 k k a0 a1).bind fun r1007 => (some (maxI r1007 (w64 (0 - r1007))))
theorem nfigure_divisor_ok (k : Nat) (a0 : Int) (a1 : Int) (r : Int) (h : nfigure_divisor k a0 a1 = some r) : VC Try.prog 72 [vi a0, vi a1] (vi r) := by
 unfold nfigure_divisor at h
 obtain ⟨r1007, h1006, h⟩ := bs h
 have hph1006 := nfigure_divisor_l0_0_ok k  _ _ _ _ h1006
 have e1008 := (an (ti trivial) (VRun.loop hph1006))
 injection h with h; subst h
 exact fun_ok pm pn Try.func72 (r0 := vi (maxI r1007 (w64 (0 - r1007)))) (ans := [.reg (.n :: []), .sub ⟨[(0, none), (1, none)], [], []⟩ (.exit 0) (nfigure_divisor_l0_0_e0  r1007), .reg (nN 5 [])]) (fr := true) (by kernel_rfl) (an (an (ti trivial) (an e1008 (an (ti (ti (ti (ti (ti trivial))))) trivial))) (ti trivial)) (Wv.refl _)
theorem eqE1_3 (z0 : Int) (z1 : Int) (z2 : Int) : VV.ag [vi (w64 (z0.tdiv z1)), vi (w64 (z2.tdiv z1))] = VV.ag (c_SFrac (⟨w64 (z0.tdiv z1), w64 (z2.tdiv z1)⟩ : SFrac)) := by first | rfl | (simp only [unfr_vi, map_cons, map_nil, un_i, unfr_c_SFrac]; done) | (simp only [unfr_vi, map_cons, map_nil, un_i, unfr_c_SFrac]; rfl) | (simp only [unfr_vi, map_cons, map_nil, un_i, unfr_c_SFrac, c_SFrac, length_cons, length_nil, length_append]; done)
def nfigure_lowest (k : Nat) (a0 : Int) (a1 : Int) : Option SFrac :=
 (nfigure_divisor k a0 a1).bind fun r1014 => (if r1014 ≠ 0 then (some (⟨w64 (a0.tdiv r1014), w64 (a1.tdiv r1014)⟩ : SFrac)) else none)
theorem nfigure_lowest_ok (k : Nat) (a0 : Int) (a1 : Int) (r : SFrac) (h : nfigure_lowest k a0 a1 = some r) : VC Try.prog 40 [vi a0, vi a1] (VV.ag (c_SFrac r)) := by
 unfold nfigure_lowest at h
 obtain ⟨r1014, h1015, h⟩ := bs h
 have e1016 := (ti (ti (an (nfigure_divisor_ok k a0 a1 _ h1015) (ti trivial))))
 obtain ⟨h1017, h⟩ := ifn h
 have e1018 := (ti (ti (an h1017 (ti (ti (an h1017 (ti (ti trivial))))))))
 injection h with h; subst h
 exact fun_ok pm pn Try.func40 (r0 := VV.ag [vi (w64 (a0.tdiv r1014)), vi (w64 (a1.tdiv r1014))]) (ans := [.reg (.n :: []), .reg (.n :: .n :: .call (vi r1014) :: .n :: []), .reg (nN 8 [])]) (fr := true) (by kernel_rfl) (an (an (ti trivial) (an e1016 (an e1018 trivial))) (an (ti (ti (ti trivial))) trivial)) (Wv.of_eq (eqE1_3 a0 r1014 a1))
def nfigure_mean_l0_0_h (a0 : SRemovalMap) (x10 : Int) (x3 : Int) (x4 : Int) : VS := ⟨mkA [(1, VV.pt 0 0), (2, VV.pt 1 0), (3, vi x3), (4, vi x4), (8, VV.tr (List.map vi a0.Weights) a0.Weights.length), (9, vi (a0.Weights.length : Int)), (10, vi x10)], [some ⟨true, 1, c_SRemovalMap a0⟩, some ⟨true, 1, [vi 0, vi 0]⟩], .nil⟩
def nfigure_mean_l0_0_e0 (a0 : SRemovalMap) (r : Int × Int) : VS := ⟨mkA [(2, VV.pt 1 0), (3, vi r.1), (4, vi r.2)], [some ⟨true, 1, c_SRemovalMap a0⟩, some ⟨true, 1, [vi 0, vi 0]⟩], .nil⟩
def nfigure_mean_l0_0 (k : Nat) (a0 : SRemovalMap) : Nat -> Int -> Int -> Int -> Option (Int × Int)
 | 0, _, _, _ => none
 | fuel + 1, x10, x3, x4 => if x10 < (a0.Weights.length : Int) then (if 0 <= x10 /\ x10 < (a0.Weights.length : Int) then (if 0 <= x10 /\ x10 < (a0.Q.length : Int) then (nfigure_mean_l0_0 k a0 fuel (w64 (x10 + 1)) (w64 (x3 + (w64 ((a0.Weights.getD x10.toNat 0) * (a0.Q.getD x10.toNat 0))))) (w64 (x4 + (a0.Weights.getD x10.toNat 0)))) else none) else none) else (some (x3, x4))
theorem nfigure_mean_l0_0_ok (k : Nat) (a0 : SRemovalMap) : ∀ (fuel : Nat) (x10 : Int) (x3 : Int) (x4 : Int) (r : Int × Int), nfigure_mean_l0_0 k a0 fuel x10 x3 x4 = some r -> (VLoop none Try.prog (szF Try.f78) (bodyOf Try.f78 0) (nfigure_mean_l0_0_h a0 x10 x3 x4) (.exit 0) (nfigure_mean_l0_0_e0 a0 r)) := by
 intro fuel
 induction fuel with
 | zero => intro x10 x3 x4 r h; rw [nfigure_mean_l0_0.eq_1] at h; cases h
 | succ fuel ih =>
  intro x10 x3 x4 r h
  rw [nfigure_mean_l0_0.eq_2] at h
  rcases ifs h with ⟨h1034, h⟩ | ⟨h1034, h⟩
  ·obtain ⟨h1035, h⟩ := ifn h
   have e1036 := (show loadL Try.prog 3 (x10.toNat * 1) (List.map vi a0.Weights) = some (vi (a0.Weights.getD x10.toNat 0)) from ld_map ag3 vi a0.Weights 0 h1035 (by omega))
   obtain ⟨h1037, h⟩ := ifn h
   have e1038 := (show loadL Try.prog 3 (x10.toNat * 1) (List.map vi a0.Q) = some (vi (a0.Q.getD x10.toNat 0)) from ld_map ag3 vi a0.Q 0 h1037 (by omega))
   have e1039 := (ti (ti (ti (ti (ti (an h1037 (an e1038 (ti (ti (ti trivial))))))))))
   have h2 := ih _ _ _ _ h
   obtain ⟨q, hv, hq⟩ := pkR (rd := none) (P := Try.prog) (fn := Try.f78) (k := 0) (s := (nfigure_mean_l0_0_h a0 x10 x3 x4)) (ans := [.reg (.n :: []), .br true, .reg (.n :: .n :: .v (vi (a0.Weights.getD x10.toNat 0)) :: .n :: .n :: []), .reg (nN 6 (.v (vi (a0.Q.getD x10.toNat 0)) :: nN 3 [])), .reg (nN 4 []), .reg (.n :: .n :: [])]) (c := ⟨[(1, none), (2, none), (3, none), (4, none), (8, none), (9, none), (10, none)], [none, none], []⟩) (e := .normal) (s1 := (nfigure_mean_l0_0_h a0 (w64 (x10 + 1)) (w64 (x3 + (w64 ((a0.Weights.getD x10.toNat 0) * (a0.Q.getD x10.toNat 0))))) (w64 (x4 + (a0.Weights.getD x10.toNat 0))))) (an (an (ti trivial) (an (an (decide_eq_true h1034) trivial) (an (an (ti (an h1035 (an e1036 (ti (ti trivial))))) (an e1039 (ti (ti (ti (ti trivial)))))) (ti (ti trivial))))) (ti trivial)) (by kernel_rfl)
   exact round_next pm pn hv hq h2
  ·injection h with h; subst h
   exact round_stop (c := ⟨[(2, none), (3, none), (4, none)], [none, none], []⟩) (s1 := (nfigure_mean_l0_0_e0 a0 (x3, x4))) pm pn (ans := [.reg (.n :: []), .br false]) (by kernel_rfl) (by intro e; cases e) (an (an (ti trivial) (an (decide_eq_false h1034) trivial)) (ti trivial))
def nfigure_mean (k : Nat) (a0 : SRemovalMap) : Option SFrac :=
 (nfigure_mean_l0_0 k a0 k 0 0 0).bind fun r1041 => ((nfigure_lowest k r1041.1 r1041.2).bind fun r1043 => (some r1043))
theorem nfigure_mean_ok (k : Nat) (a0 : SRemovalMap) (r : SFrac) (h : nfigure_mean k a0 = some r) : VC Try.prog 78 [VV.ag (c_SRemovalMap a0)] (VV.ag (c_SFrac r)) := by
 unfold nfigure_mean at h
 obtain ⟨r1041, h1040, h⟩ := bs h
 have hph1040 := nfigure_mean_l0_0_ok k a0 _ _ _ _ _ h1040
 have e1042 := (an (ti trivial) (VRun.loop hph1040))
 obtain ⟨r1043, h1044, h⟩ := bs h
 have e1045 := (nfigure_lowest_ok k r1041.1 r1041.2 _ h1044)
 injection h with h; subst h
 exact fun_ok pm pn Try.func78 (r0 := VV.ag (c_SFrac r1043)) (ans := [.reg (.n :: .n :: []), .reg (.n :: .n :: []), .reg (nN 4 []), .sub ⟨[(1, none), (2, none), (3, none), (4, none), (8, none), (9, none), (10, none)], [none, none], []⟩ (.exit 0) (nfigure_mean_l0_0_e0 a0 r1041), .reg (.n :: .n :: .call (VV.ag (c_SFrac r1043)) :: .n :: [])]) (fr := true) (by kernel_rfl) (an (an (ti (ti trivial)) (an (ti (ti trivial)) (an (an (ti (ti (ti (ti trivial)))) e1042) (an (ti (ti (an e1045 (ti trivial)))) trivial)))) (an (ti (ti (ti trivial))) trivial)) (Wv.refl _)
def arE1_7 (z0 : SRemovalMap) (z1 : Int) (z2 : Int) : List Ans := (nN 4 (.v (vi (z0.Q.getD z1.toNat 0)) :: nN 13 (.v (vi (z0.Q.getD z2.toNat 0)) :: nN 4 (.b true :: .n :: []))))
def nfigure_areAround (k : Nat) (a0 : SRemovalMap) (a1 : Int) (a2 : Int) : Option Bool :=
 (nfigure_mean k a0).bind fun r1056 => (if 0 <= a1 /\ a1 < (a0.Q.length : Int) then (if (w64 ((a0.Q.getD a1.toNat 0) * r1056.Den)) <= r1056.Num then (if 0 <= a2 /\ a2 < (a0.Q.length : Int) then (some (decide (r1056.Num <= (w64 ((a0.Q.getD a2.toNat 0) * r1056.Den))))) else none) else (some false)) else none)
theorem nfigure_areAround_ok (k : Nat) (a0 : SRemovalMap) (a1 : Int) (a2 : Int) (r : Bool) (h : nfigure_areAround k a0 a1 a2 = some r) : VC Try.prog 49 [VV.ag (c_SRemovalMap a0), vi a1, vi a2] (vb r) := by
 unfold nfigure_areAround at h
 obtain ⟨r1056, h1057, h⟩ := bs h
 have e1058 := (ti (an (nfigure_mean_ok k a0 _ h1057) (ti (ti trivial))))
 obtain ⟨h1059, h⟩ := ifn h
 have e1060 := (show loadL Try.prog 3 (a1.toNat * 1) (List.map vi a0.Q) = some (vi (a0.Q.getD a1.toNat 0)) from ld_map ag3 vi a0.Q 0 h1059 (by omega))
 rcases ifs h with ⟨h1061, h⟩ | ⟨h1061, h⟩
 ·obtain ⟨h1062, h⟩ := ifn h
  have e1063 := (an (decide_eq_true h1061) (show loadL Try.prog 3 (a2.toNat * 1) (List.map vi a0.Q) = some (vi (a0.Q.getD a2.toNat 0)) from ld_map ag3 vi a0.Q 0 h1062 (by omega)))
  have e1064 := (ti (ti (ti (an h1059 (an e1060 (ti (ti (ti (ti (ti (ti (ti (an (an (decide_eq_true h1061) trivial) (an (an (decide_eq_true h1061) trivial) (an (an (decide_eq_true h1061) trivial) (an (an (decide_eq_true h1061) trivial) (an (an (decide_eq_true h1061) trivial) (an (an (decide_eq_true h1061) h1062) (an e1063 (an (an (decide_eq_true h1061) trivial) (an (an (decide_eq_true h1061) trivial) (an (an (decide_eq_true h1061) trivial) (an (an (decide_eq_true h1061) trivial) (an (decide_eq_true h1061) (ti trivial)))))))))))))))))))))))))
  injection h with h; subst h
  exact fun_ok pm pn Try.func49 (r0 := vb (decide (r1056.Num <= (w64 ((a0.Q.getD a2.toNat 0) * r1056.Den))))) (ans := [.reg (.n :: .n :: []), .reg (.n :: .call (VV.ag (c_SFrac r1056)) :: .n :: .n :: []), .reg (arE1_7 a0 a1 a2)]) (fr := true) (by kernel_rfl) (an (an (ti (ti trivial)) (an e1058 (an e1064 trivial))) (ti trivial)) (Wv.refl _)
 ·have e1065 := (ti (ti (ti (an h1059 (an e1060 (ti (ti (ti (ti (ti (ti (ti (an (decide_eq_false h1061) (an (decide_eq_false h1061) (an (decide_eq_false h1061) (an (decide_eq_false h1061) (an (decide_eq_false h1061) (an (decide_eq_false h1061) (an (decide_eq_false h1061) (an (decide_eq_false h1061) (an (decide_eq_false h1061) (an (decide_eq_false h1061) (an (decide_eq_false h1061) (an (decide_eq_false h1061) (ti trivial)))))))))))))))))))))))))
  injection h with h; subst h
  exact fun_ok pm pn Try.func49 (r0 := vb false) (ans := [.reg (.n :: .n :: []), .reg (.n :: .call (VV.ag (c_SFrac r1056)) :: .n :: .n :: []), .reg (nN 4 (.v (vi (a0.Q.getD a1.toNat 0)) :: nN 7 (nS 11 (.b false :: .n :: []))))]) (fr := true) (by kernel_rfl) (an (an (ti (ti trivial)) (an e1058 (an e1065 trivial))) (ti trivial)) (Wv.refl _)
def arE1_8 (z0 : SRemovalMap) (z1 : Int) (z2 : Int) : List Ans := (nN 4 (.v (vi (z0.Heights.getD z1.toNat 0)) :: nN 4 (.v (vi (z0.Heights.getD z2.toNat 0)) :: nN 5 (.v (vi (z0.Q.getD z1.toNat 0)) :: nN 4 (.v (vi (z0.Q.getD z2.toNat 0)) :: nN 3 [])))))
def arE1_9 (z0 : SRemovalMap) (z1 : Int) (z2 : SFrac) (z3 : SFrac) : List Ans := (nN 4 (.v (vi (z0.Heights.getD z1.toNat 0)) :: nN 7 (.v (vi (z0.Q.getD z1.toNat 0)) :: nN 3 (.call (VV.ag (c_SFrac z2)) :: .n :: .n :: .call (VV.ag (c_SFrac z3)) :: nN 5 []))))
theorem eqE1_4 (z0 : SFrac) (z1 : SFrac) (z2 : Int) (z3 : Int) : VV.ag [vi z0.Num, vi z0.Den, vi z1.Num, vi z1.Den, vi z2, vi z3] = VV.ag [vi (((⟨z0, z1, (⟨z2, z3⟩ : A27)⟩ : SLowerLine).Start).Num), vi (((⟨z0, z1, (⟨z2, z3⟩ : A27)⟩ : SLowerLine).Start).Den), vi (((⟨z0, z1, (⟨z2, z3⟩ : A27)⟩ : SLowerLine).Slope).Num), vi (((⟨z0, z1, (⟨z2, z3⟩ : A27)⟩ : SLowerLine).Slope).Den), vi (((⟨z0, z1, (⟨z2, z3⟩ : A27)⟩ : SLowerLine).Touch).e0), vi (((⟨z0, z1, (⟨z2, z3⟩ : A27)⟩ : SLowerLine).Touch).e1)] := by first | rfl | (simp only [unfr_vi, map_cons, map_nil, un_i]; done) | (simp only [unfr_vi, map_cons, map_nil, un_i]; rfl) | (simp only [unfr_vi, map_cons, map_nil, un_i, length_cons, length_nil, length_append]; done)
def nfigure_through (k : Nat) (a0 : SRemovalMap) (a1 : Int) (a2 : Int) : Option SLowerLine :=
 if 0 <= a2 /\ a2 < (a0.Heights.length : Int) then (if 0 <= a1 /\ a1 < (a0.Heights.length : Int) then (if 0 <= a2 /\ a2 < (a0.Q.length : Int) then (if 0 <= a1 /\ a1 < (a0.Q.length : Int) then ((nfigure_lowest k (w64 ((w64 ((a0.Heights.getD a1.toNat 0) * (w64 ((a0.Q.getD a2.toNat 0) - (a0.Q.getD a1.toNat 0))))) - (w64 ((w64 ((a0.Heights.getD a2.toNat 0) - (a0.Heights.getD a1.toNat 0))) * (a0.Q.getD a1.toNat 0))))) (w64 ((a0.Q.getD a2.toNat 0) - (a0.Q.getD a1.toNat 0)))).bind fun r1100 => ((nfigure_lowest k (w64 ((a0.Heights.getD a2.toNat 0) - (a0.Heights.getD a1.toNat 0))) (w64 ((a0.Q.getD a2.toNat 0) - (a0.Q.getD a1.toNat 0)))).bind fun r1103 => (some (⟨r1100, r1103, (⟨a1, a2⟩ : A27)⟩ : SLowerLine)))) else none) else none) else none) else none
theorem nfigure_through_ok (k : Nat) (a0 : SRemovalMap) (a1 : Int) (a2 : Int) (r : SLowerLine) (h : nfigure_through k a0 a1 a2 = some r) : VC Try.prog 75 [VV.ag (c_SRemovalMap a0), vi a1, vi a2] (VV.ag (c_SLowerLine r)) := by
 unfold nfigure_through at h
 obtain ⟨h1089, h⟩ := ifn h
 have e1090 := (show loadL Try.prog 3 (a2.toNat * 1) (List.map vi a0.Heights) = some (vi (a0.Heights.getD a2.toNat 0)) from ld_map ag3 vi a0.Heights 0 h1089 (by omega))
 obtain ⟨h1091, h⟩ := ifn h
 have e1092 := (show loadL Try.prog 3 (a1.toNat * 1) (List.map vi a0.Heights) = some (vi (a0.Heights.getD a1.toNat 0)) from ld_map ag3 vi a0.Heights 0 h1091 (by omega))
 obtain ⟨h1093, h⟩ := ifn h
 have e1094 := (show loadL Try.prog 3 (a2.toNat * 1) (List.map vi a0.Q) = some (vi (a0.Q.getD a2.toNat 0)) from ld_map ag3 vi a0.Q 0 h1093 (by omega))
 obtain ⟨h1095, h⟩ := ifn h
 have e1096 := (show loadL Try.prog 3 (a1.toNat * 1) (List.map vi a0.Q) = some (vi (a0.Q.getD a1.toNat 0)) from ld_map ag3 vi a0.Q 0 h1095 (by omega))
 have e1097 := (ti (ti (ti (an h1089 (an e1090 (ti (ti (ti (an h1091 (an e1092 (ti (ti (ti (ti (an h1093 (an e1094 (ti (ti (ti (an h1095 (an e1096 (ti (ti (ti trivial))))))))))))))))))))))))
 have e1098 := (show loadL Try.prog 3 (a1.toNat * 1) (List.map vi a0.Heights) = some (vi (a0.Heights.getD a1.toNat 0)) from ld_map ag3 vi a0.Heights 0 h1091 (by omega))
 have e1099 := (show loadL Try.prog 3 (a1.toNat * 1) (List.map vi a0.Q) = some (vi (a0.Q.getD a1.toNat 0)) from ld_map ag3 vi a0.Q 0 h1095 (by omega))
 obtain ⟨r1100, h1101, h⟩ := bs h
 have e1102 := (nfigure_lowest_ok k (w64 ((w64 ((a0.Heights.getD a1.toNat 0) * (w64 ((a0.Q.getD a2.toNat 0) - (a0.Q.getD a1.toNat 0))))) - (w64 ((w64 ((a0.Heights.getD a2.toNat 0) - (a0.Heights.getD a1.toNat 0))) * (a0.Q.getD a1.toNat 0))))) (w64 ((a0.Q.getD a2.toNat 0) - (a0.Q.getD a1.toNat 0))) _ h1101)
 obtain ⟨r1103, h1104, h⟩ := bs h
 have e1105 := (nfigure_lowest_ok k (w64 ((a0.Heights.getD a2.toNat 0) - (a0.Heights.getD a1.toNat 0))) (w64 ((a0.Q.getD a2.toNat 0) - (a0.Q.getD a1.toNat 0))) _ h1104)
 have e1106 := (ti (ti (ti (an h1091 (an e1098 (ti (ti (ti (ti (ti (ti (an h1095 (an e1099 (ti (ti (ti (an e1102 (ti (ti (an e1105 (ti (ti (ti (ti (ti trivial)))))))))))))))))))))))))
 injection h with h; subst h
 exact fun_ok pm pn Try.func75 (r0 := VV.ag [vi r1100.Num, vi r1100.Den, vi r1103.Num, vi r1103.Den, vi a1, vi a2]) (ans := [.reg (.n :: .n :: []), .reg (arE1_8 a0 a2 a1), .reg (arE1_9 a0 a1 r1100 r1103)]) (fr := true) (by kernel_rfl) (an (an (ti (ti trivial)) (an e1097 (an e1106 trivial))) (an (ti (ti (ti (ti (ti (ti (ti trivial))))))) trivial)) (Wv.of_eq (eqE1_4 r1100 r1103 a1 a2))
def nfigure_denOf (k : Nat) (a0 : SLowerLine) : Option Int :=
 some (w64 (a0.Start.Den * a0.Slope.Den))
theorem nfigure_denOf_ok (k : Nat) (a0 : SLowerLine) (r : Int) (h : nfigure_denOf k a0 = some r) : VC Try.prog 42 [VV.ag (c_SLowerLine a0)] (vi r) := by
 unfold nfigure_denOf at h
 injection h with h; subst h
 exact fun_ok pm pn Try.func42 (r0 := vi (w64 (a0.Start.Den * a0.Slope.Den))) (ans := [.reg (.n :: .n :: []), .reg (nN 8 [])]) (fr := true) (by kernel_rfl) (an (an (ti (ti trivial)) (an (ti (ti (ti (ti (ti (ti (ti (ti trivial)))))))) trivial)) (ti trivial)) (Wv.refl _)
def arE1_10 (z0 : SRemovalMap) (z1 : Int) (z2 : Int) : List Ans := (nN 4 (.v (vi (z0.Heights.getD z1.toNat 0)) :: .n :: .call (vi z2) :: nN 16 (.v (vi (z0.Q.getD z1.toNat 0)) :: nN 7 [])))
def nfigure_removalTimesDen (k : Nat) (a0 : SRemovalMap) (a1 : SLowerLine) (a2 : Int) : Option Int :=
 if 0 <= a2 /\ a2 < (a0.Heights.length : Int) then ((nfigure_denOf k a1).bind fun r1120 => (if 0 <= a2 /\ a2 < (a0.Q.length : Int) then (some (w64 ((w64 ((w64 ((a0.Heights.getD a2.toNat 0) * r1120)) - (w64 (a1.Start.Num * a1.Slope.Den)))) - (w64 ((w64 (a1.Slope.Num * (a0.Q.getD a2.toNat 0))) * a1.Start.Den))))) else none)) else none
theorem nfigure_removalTimesDen_ok (k : Nat) (a0 : SRemovalMap) (a1 : SLowerLine) (a2 : Int) (r : Int) (h : nfigure_removalTimesDen k a0 a1 a2 = some r) : VC Try.prog 41 [VV.ag (c_SRemovalMap a0), VV.ag (c_SLowerLine a1), vi a2] (vi r) := by
 unfold nfigure_removalTimesDen at h
 obtain ⟨h1118, h⟩ := ifn h
 have e1119 := (show loadL Try.prog 3 (a2.toNat * 1) (List.map vi a0.Heights) = some (vi (a0.Heights.getD a2.toNat 0)) from ld_map ag3 vi a0.Heights 0 h1118 (by omega))
 obtain ⟨r1120, h1121, h⟩ := bs h
 obtain ⟨h1122, h⟩ := ifn h
 have e1123 := (show loadL Try.prog 3 (a2.toNat * 1) (List.map vi a0.Q) = some (vi (a0.Q.getD a2.toNat 0)) from ld_map ag3 vi a0.Q 0 h1122 (by omega))
 have e1124 := (ti (ti (ti (an h1118 (an e1119 (ti (an (nfigure_denOf_ok k a1 _ h1121) (ti (ti (ti (ti (ti (ti (ti (ti (ti (ti (ti (ti (ti (ti (ti (an h1122 (an e1123 (ti (ti (ti (ti (ti (ti (ti trivial)))))))))))))))))))))))))))))))
 injection h with h; subst h
 exact fun_ok pm pn Try.func41 (r0 := vi (w64 ((w64 ((w64 ((a0.Heights.getD a2.toNat 0) * r1120)) - (w64 (a1.Start.Num * a1.Slope.Den)))) - (w64 ((w64 (a1.Slope.Num * (a0.Q.getD a2.toNat 0))) * a1.Start.Den))))) (ans := [.reg (nN 3 []), .reg (arE1_10 a0 a2 r1120)]) (fr := true) (by kernel_rfl) (an (an (ti (ti (ti trivial))) (an e1124 trivial)) (ti trivial)) (Wv.refl _)
def nfigure_firstDug_l0_0_h (a0 : SRemovalMap) (a1 : SLowerLine) (x10 : Int) : VS := ⟨mkA [(2, VV.pt 0 0), (3, VV.pt 1 0), (9, vi (a0.Heights.length : Int)), (10, vi x10)], [some ⟨true, 1, c_SRemovalMap a0⟩, some ⟨true, 1, c_SLowerLine a1⟩], .nil⟩
def nfigure_firstDug_l0_0_e0 (a0 : SRemovalMap) (a1 : SLowerLine) (r : Int) : VS := ⟨mkA [(4, vi r), (5, vb true)], [], .nil⟩
def nfigure_firstDug_l0_0_e1 (a0 : SRemovalMap) (a1 : SLowerLine) (r : Unit) : VS := ⟨mkA [], [], .nil⟩
def nfigure_firstDug_l0_0 (k : Nat) (a0 : SRemovalMap) (a1 : SLowerLine) : Nat -> Int -> Option (Sum Int Unit)
 | 0, _ => none
 | fuel + 1, x10 => if x10 < (a0.Heights.length : Int) then ((nfigure_removalTimesDen k a0 a1 x10).bind fun r1156 => (if r1156 < 0 then (some (.inl x10)) else (nfigure_firstDug_l0_0 k a0 a1 fuel (w64 (x10 + 1))))) else (some (.inr ()))
theorem nfigure_firstDug_l0_0_ok (k : Nat) (a0 : SRemovalMap) (a1 : SLowerLine) : ∀ (fuel : Nat) (x10 : Int) (r : Sum Int Unit), nfigure_firstDug_l0_0 k a0 a1 fuel x10 = some r -> (match r with | .inl r => VLoop none Try.prog (szF Try.f47) (bodyOf Try.f47 0) (nfigure_firstDug_l0_0_h a0 a1 x10) .ret (nfigure_firstDug_l0_0_e0 a0 a1 r) | .inr r => VLoop none Try.prog (szF Try.f47) (bodyOf Try.f47 0) (nfigure_firstDug_l0_0_h a0 a1 x10) (.exit 0) (nfigure_firstDug_l0_0_e1 a0 a1 r)) := by
 intro fuel
 induction fuel with
 | zero => intro x10 r h; rw [nfigure_firstDug_l0_0.eq_1] at h; cases h
 | succ fuel ih =>
  intro x10 r h
  rw [nfigure_firstDug_l0_0.eq_2] at h
  rcases ifs h with ⟨h1155, h⟩ | ⟨h1155, h⟩
  ·obtain ⟨r1156, h1157, h⟩ := bs h
   have e1158 := (nfigure_removalTimesDen_ok k a0 a1 x10 _ h1157)
   rcases ifs h with ⟨h1159, h⟩ | ⟨h1159, h⟩
   ·injection h with h; subst h
    exact round_stop (c := ⟨[(4, none), (5, none)], [], []⟩) (s1 := (nfigure_firstDug_l0_0_e0 a0 a1 x10)) pm pn (ans := [.reg (.n :: []), .br true, .reg (.n :: .n :: []), .reg (nN 3 (.call (vi r1156) :: .n :: [])), .br true, .reg (nN 3 [])]) (by kernel_rfl) (by intro e; cases e) (an (an (ti trivial) (an (an (decide_eq_true h1155) trivial) (an (ti (ti trivial)) (an (ti (ti (ti (an e1158 (ti trivial))))) (an (decide_eq_true h1159) (an (ti (ti (ti trivial))) trivial)))))) (ti trivial))
   ·have h2 := ih _ _ h
    obtain ⟨q, hv, hq⟩ := pkR (rd := none) (P := Try.prog) (fn := Try.f47) (k := 0) (s := (nfigure_firstDug_l0_0_h a0 a1 x10)) (ans := [.reg (.n :: []), .br true, .reg (.n :: .n :: []), .reg (nN 3 (.call (vi r1156) :: .n :: [])), .br false, .reg (.n :: .n :: [])]) (c := ⟨[(2, none), (3, none), (9, none), (10, none)], [none, none], []⟩) (e := .normal) (s1 := (nfigure_firstDug_l0_0_h a0 a1 (w64 (x10 + 1)))) (an (an (ti trivial) (an (an (decide_eq_true h1155) trivial) (an (an (ti (ti trivial)) (an (ti (ti (ti (an e1158 (ti trivial))))) (an (decide_eq_false h1159) trivial))) (ti (ti trivial))))) (ti trivial)) (by kernel_rfl)
    cases r with
    | inl r => exact round_next pm pn hv hq h2
    | inr r =>
     exact round_next pm pn hv hq h2
  ·injection h with h; subst h
   exact round_stop (c := ⟨[], [], []⟩) (s1 := (nfigure_firstDug_l0_0_e1 a0 a1 ())) pm pn (ans := [.reg (.n :: []), .br false]) (by kernel_rfl) (by intro e; cases e) (an (an (ti trivial) (an (decide_eq_false h1155) trivial)) (ti trivial))
def nfigure_firstDug (k : Nat) (a0 : SRemovalMap) (a1 : SLowerLine) : Option (Int × Bool) :=
 (nfigure_firstDug_l0_0 k a0 a1 k 0).bind fun r1161 => (match r1161 with | .inl r1162 => (some (r1162, true)) | .inr r1163 => (some (0, false)))
theorem nfigure_firstDug_ok (k : Nat) (a0 : SRemovalMap) (a1 : SLowerLine) (r : (Int × Bool)) (h : nfigure_firstDug k a0 a1 = some r) : VC Try.prog 47 [VV.ag (c_SRemovalMap a0), VV.ag (c_SLowerLine a1)] (VV.tu [vi r.1, vb r.2]) := by
 unfold nfigure_firstDug at h
 obtain ⟨r1161, h1160, h⟩ := bs h
 have hph1160 := nfigure_firstDug_l0_0_ok k a0 a1 _ _ _ h1160
 cases r1161 with
 | inl r1162 =>
  dsimp only at h
  have e1164 := (an (ti trivial) (VRun.loop hph1160))
  injection h with h; subst h
  exact fun_ok pm pn Try.func47 (r0 := VV.tu [vi r1162, vb true]) (ans := [.reg (nN 4 []), .reg (nN 4 []), .sub ⟨[(2, none), (3, none), (9, none), (10, none)], [none, none], []⟩ .ret (nfigure_firstDug_l0_0_e0 a0 a1 r1162)]) (fr := true) (by kernel_rfl) (an (an (ti (ti (ti (ti trivial)))) (an (ti (ti (ti (ti trivial)))) e1164)) (ti (ti trivial))) (Wv.refl _)
 | inr r1163 =>
  dsimp only at h
  have e1165 := (an (ti trivial) (VRun.loop hph1160))
  injection h with h; subst h
  exact fun_ok pm pn Try.func47 (r0 := VV.tu [vi 0, vb false]) (ans := [.reg (nN 4 []), .reg (nN 4 []), .sub ⟨[(2, none), (3, none), (9, none), (10, none)], [none, none], []⟩ (.exit 0) (nfigure_firstDug_l0_0_e1 a0 a1 r1163), .reg (.n :: .n :: [])]) (fr := true) (by kernel_rfl) (an (an (ti (ti (ti (ti trivial)))) (an (an (ti (ti (ti (ti trivial)))) e1165) (an (ti (ti trivial)) trivial))) (ti (ti trivial))) (Wv.refl _)
def arE1_11 (z0 : SRemovalMap) (z1 : Int × Int) : List Ans := (nN 4 (.v (vi (z0.Q.getD z1.1.toNat 0)) :: nN 4 (.v (vi (z0.Q.getD z1.2.toNat 0)) :: .n :: .n :: nS 5 (.b true :: []))))
def arE1_12 (z0 : SRemovalMap) (z1 : Int × Int) (z2 : Bool) : List Ans := (nN 4 (.v (vi (z0.Q.getD z1.1.toNat 0)) :: nN 4 (.v (vi (z0.Q.getD z1.2.toNat 0)) :: nN 5 (.call (vb z2) :: .n :: .b false :: []))))
def nslices_Min_int_int__l0_0_h (a0 : (List Int)) (x3 : Int) (x4 : Int) : VS := ⟨mkA [(0, VV.tr (List.map vi a0) a0.length), (3, vi x3), (4, vi x4)], [], .nil⟩
def nslices_Min_int_int__l0_0_e0 (a0 : (List Int)) (r : Int) : VS := ⟨mkA [(3, vi r)], [], .nil⟩
def nslices_Min_int_int__l0_0 (k : Nat) (a0 : (List Int)) : Nat -> Int -> Int -> Option (Int)
 | 0, _, _ => none
 | fuel + 1, x3, x4 => if x4 < (a0.length : Int) then (if 0 <= x4 /\ x4 < (a0.length : Int) then (nslices_Min_int_int__l0_0 k a0 fuel (minI x3 (a0.getD x4.toNat 0)) (w64 (x4 + 1))) else none) else (some x3)
theorem nslices_Min_int_int__l0_0_ok (k : Nat) (a0 : (List Int)) : ∀ (fuel : Nat) (x3 : Int) (x4 : Int) (r : Int), nslices_Min_int_int__l0_0 k a0 fuel x3 x4 = some r -> (VLoop none Try.prog (szF Try.f77) (bodyOf Try.f77 0) (nslices_Min_int_int__l0_0_h a0 x3 x4) (.exit 0) (nslices_Min_int_int__l0_0_e0 a0 r)) := by
 intro fuel
 induction fuel with
 | zero => intro x3 x4 r h; rw [nslices_Min_int_int__l0_0.eq_1] at h; cases h
 | succ fuel ih =>
  intro x3 x4 r h
  rw [nslices_Min_int_int__l0_0.eq_2] at h
  rcases ifs h with ⟨h1244, h⟩ | ⟨h1244, h⟩
  ·obtain ⟨h1245, h⟩ := ifn h
   have e1246 := (show loadL Try.prog 3 (x4.toNat * 1) (List.map vi a0) = some (vi (a0.getD x4.toNat 0)) from ld_map ag3 vi a0 0 h1245 (by omega))
   have e1247 := (ti (ti (ti (an h1245 (an e1246 (ti (ti trivial)))))))
   have h2 := ih _ _ _ h
   obtain ⟨q, hv, hq⟩ := pkR (rd := none) (P := Try.prog) (fn := Try.f77) (k := 0) (s := (nslices_Min_int_int__l0_0_h a0 x3 x4)) (ans := [.reg (nN 4 []), .br true, .reg (nN 4 (.v (vi (a0.getD x4.toNat 0)) :: .n :: .n :: [])), .reg (nN 3 [])]) (c := ⟨[(0, none), (3, none), (4, none)], [], []⟩) (e := .normal) (s1 := (nslices_Min_int_int__l0_0_h a0 (minI x3 (a0.getD x4.toNat 0)) (w64 (x4 + 1)))) (an (an (an (ti (ti (ti (ti trivial)))) (an (decide_eq_true h1244) trivial)) (an e1247 (ti (ti (ti trivial))))) (ti trivial)) (by kernel_rfl)
   exact round_next pm pn hv hq h2
  ·injection h with h; subst h
   exact round_stop (c := ⟨[(3, none)], [], []⟩) (s1 := (nslices_Min_int_int__l0_0_e0 a0 x3)) pm pn (ans := [.reg (nN 4 []), .br false]) (by kernel_rfl) (by intro e; cases e) (an (an (ti (ti (ti (ti trivial)))) (an (decide_eq_false h1244) trivial)) (ti trivial))
def nslices_Min_int_int_ (k : Nat) (a0 : (List Int)) : Option Int :=
 if (a0.length : Int) < 1 then none else (if (0 : Int) <= 0 /\ 0 < (a0.length : Int) then ((nslices_Min_int_int__l0_0 k a0 k (a0.getD ((0 : Int)).toNat 0) 1).bind fun r1249 => (some r1249)) else none)
theorem nslices_Min_int_int__ok (k : Nat) (a0 : (List Int)) (r : Int) (h : nslices_Min_int_int_ k a0 = some r) : VC Try.prog 77 [VV.tr (List.map vi a0) a0.length] (vi r) := by
 unfold nslices_Min_int_int_ at h
 rcases ifs h with ⟨h1233, h⟩ | ⟨h1233, h⟩
 ·cases h
 ·obtain ⟨h1234, h⟩ := ifn h
  have e1235 := (show loadL Try.prog 3 (((0 : Int)).toNat * 1) (List.map vi a0) = some (vi (a0.getD ((0 : Int)).toNat 0)) from ld_map ag3 vi a0 0 h1234 (by omega))
  obtain ⟨r1249, h1248, h⟩ := bs h
  have hph1248 := nslices_Min_int_int__l0_0_ok k a0 _ _ _ _ h1248
  have e1250 := (an (ti trivial) (VRun.loop hph1248))
  injection h with h; subst h
  exact fun_ok pm pn Try.func77 (r0 := vi r1249) (ans := [.reg (.n :: []), .reg (nN 3 []), .br false, .reg (.n :: .n :: .v (vi (a0.getD ((0 : Int)).toNat 0)) :: .n :: []), .reg (.n :: []), .sub ⟨[(0, none), (3, none), (4, none)], [], []⟩ (.exit 0) (nslices_Min_int_int__l0_0_e0 a0 r1249), .reg (.n :: .n :: [])]) (fr := true) (by kernel_rfl) (an (an (ti trivial) (an (an (ti (ti (ti trivial))) (an (decide_eq_false h1233) trivial)) (an (ti (an h1234 (an e1235 (ti trivial)))) (an (an (ti trivial) e1250) (an (ti (ti trivial)) trivial))))) (ti trivial)) (Wv.refl _)
def nslices_Index_int_int__l0_0_h (a0 : (List Int)) (a1 : Int) (x8 : Int) : VS := ⟨mkA [(0, VV.tr (List.map vi a0) a0.length), (1, vi a1), (7, vi (a0.length : Int)), (8, vi x8)], [], .nil⟩
def nslices_Index_int_int__l0_0_e0 (a0 : (List Int)) (a1 : Int) (r : Int) : VS := ⟨mkA [(4, vi r)], [], .nil⟩
def nslices_Index_int_int__l0_0_e1 (a0 : (List Int)) (a1 : Int) (r : Unit) : VS := ⟨mkA [], [], .nil⟩
def nslices_Index_int_int__l0_0 (k : Nat) (a0 : (List Int)) (a1 : Int) : Nat -> Int -> Option (Sum Int Unit)
 | 0, _ => none
 | fuel + 1, x8 => if x8 < (a0.length : Int) then (if 0 <= x8 /\ x8 < (a0.length : Int) then (if a1 = (a0.getD x8.toNat 0) then (some (.inl x8)) else (nslices_Index_int_int__l0_0 k a0 a1 fuel (w64 (x8 + 1)))) else none) else (some (.inr ()))
theorem nslices_Index_int_int__l0_0_ok (k : Nat) (a0 : (List Int)) (a1 : Int) : ∀ (fuel : Nat) (x8 : Int) (r : Sum Int Unit), nslices_Index_int_int__l0_0 k a0 a1 fuel x8 = some r -> (match r with | .inl r => VLoop none Try.prog (szF Try.f76) (bodyOf Try.f76 0) (nslices_Index_int_int__l0_0_h a0 a1 x8) .ret (nslices_Index_int_int__l0_0_e0 a0 a1 r) | .inr r => VLoop none Try.prog (szF Try.f76) (bodyOf Try.f76 0) (nslices_Index_int_int__l0_0_h a0 a1 x8) (.exit 0) (nslices_Index_int_int__l0_0_e1 a0 a1 r)) := by
 intro fuel
 induction fuel with
 | zero => intro x8 r h; rw [nslices_Index_int_int__l0_0.eq_1] at h; cases h
 | succ fuel ih =>
  intro x8 r h
  rw [nslices_Index_int_int__l0_0.eq_2] at h
  rcases ifs h with ⟨h1280, h⟩ | ⟨h1280, h⟩
  ·obtain ⟨h1281, h⟩ := ifn h
   have e1282 := (show loadL Try.prog 3 (x8.toNat * 1) (List.map vi a0) = some (vi (a0.getD x8.toNat 0)) from ld_map ag3 vi a0 0 h1281 (by omega))
   rcases ifs h with ⟨h1283, h⟩ | ⟨h1283, h⟩
   ·injection h with h; subst h
    exact round_stop (c := ⟨[(4, none)], [], []⟩) (s1 := (nslices_Index_int_int__l0_0_e0 a0 a1 x8)) pm pn (ans := [.reg (.n :: []), .br true, .reg (.n :: .n :: []), .reg (nN 4 (.v (vi (a0.getD x8.toNat 0)) :: .n :: [])), .br true, .reg (.n :: .n :: [])]) (by kernel_rfl) (by intro e; cases e) (an (an (ti trivial) (an (an (decide_eq_true h1280) trivial) (an (ti (ti trivial)) (an (ti (ti (ti (an h1281 (an e1282 (ti trivial)))))) (an (decide_eq_true h1283) (an (ti (ti trivial)) trivial)))))) (ti trivial))
   ·have h2 := ih _ _ h
    obtain ⟨q, hv, hq⟩ := pkR (rd := none) (P := Try.prog) (fn := Try.f76) (k := 0) (s := (nslices_Index_int_int__l0_0_h a0 a1 x8)) (ans := [.reg (.n :: []), .br true, .reg (.n :: .n :: []), .reg (nN 4 (.v (vi (a0.getD x8.toNat 0)) :: .n :: [])), .br false, .reg (.n :: .n :: [])]) (c := ⟨[(0, none), (1, none), (7, none), (8, none)], [], []⟩) (e := .normal) (s1 := (nslices_Index_int_int__l0_0_h a0 a1 (w64 (x8 + 1)))) (an (an (ti trivial) (an (an (decide_eq_true h1280) trivial) (an (an (ti (ti trivial)) (an (ti (ti (ti (an h1281 (an e1282 (ti trivial)))))) (an (decide_eq_false h1283) trivial))) (ti (ti trivial))))) (ti trivial)) (by kernel_rfl)
    cases r with
    | inl r => exact round_next pm pn hv hq h2
    | inr r =>
     exact round_next pm pn hv hq h2
  ·injection h with h; subst h
   exact round_stop (c := ⟨[], [], []⟩) (s1 := (nslices_Index_int_int__l0_0_e1 a0 a1 ())) pm pn (ans := [.reg (.n :: []), .br false]) (by kernel_rfl) (by intro e; cases e) (an (an (ti trivial) (an (decide_eq_false h1280) trivial)) (ti trivial))
def nslices_Index_int_int_ (k : Nat) (a0 : (List Int)) (a1 : Int) : Option Int :=
 (nslices_Index_int_int__l0_0 k a0 a1 k 0).bind fun r1285 => (match r1285 with | .inl r1286 => (some r1286) | .inr r1287 => (some (-1)))
theorem nslices_Index_int_int__ok (k : Nat) (a0 : (List Int)) (a1 : Int) (r : Int) (h : nslices_Index_int_int_ k a0 a1 = some r) : VC Try.prog 76 [VV.tr (List.map vi a0) a0.length, vi a1] (vi r) := by
 unfold nslices_Index_int_int_ at h
 obtain ⟨r1285, h1284, h⟩ := bs h
 have hph1284 := nslices_Index_int_int__l0_0_ok k a0 a1 _ _ _ h1284
 cases r1285 with
 | inl r1286 =>
  dsimp only at h
  have e1288 := (an (ti trivial) (VRun.loop hph1284))
  injection h with h; subst h
  exact fun_ok pm pn Try.func76 (r0 := vi r1286) (ans := [.reg (.n :: []), .reg (nN 3 []), .sub ⟨[(0, none), (1, none), (7, none), (8, none)], [], []⟩ .ret (nslices_Index_int_int__l0_0_e0 a0 a1 r1286)]) (fr := true) (by kernel_rfl) (an (an (ti trivial) (an (ti (ti (ti trivial))) e1288)) (ti trivial)) (Wv.refl _)
 | inr r1287 =>
  dsimp only at h
  have e1289 := (an (ti trivial) (VRun.loop hph1284))
  injection h with h; subst h
  exact fun_ok pm pn Try.func76 (r0 := vi (-1)) (ans := [.reg (.n :: []), .reg (nN 3 []), .sub ⟨[(0, none), (1, none), (7, none), (8, none)], [], []⟩ (.exit 0) (nslices_Index_int_int__l0_0_e1 a0 a1 r1287), .reg (.n :: [])]) (fr := true) (by kernel_rfl) (an (an (ti trivial) (an (an (ti (ti (ti trivial))) e1289) (an (ti trivial) trivial))) (ti trivial)) (Wv.refl _)
def nfigure_reference_r0 (k : Nat) (a0 : SRemovalMap) (r1303 : Int) : List (Int × Int) -> Int -> Int -> Int -> Int -> Int -> Int -> Option (Sum (Int × Int × Int × Int × Int × Int) (Int × Int × Int × Int × Int × Int))
 | [], b1_0, b1_1, b1_2, b1_3, b1_4, b1_5 => some (.inl (b1_0, b1_1, b1_2, b1_3, b1_4, b1_5))
 | x :: xs, b1_0, b1_1, b1_2, b1_3, b1_4, b1_5 => if 0 <= x.1 /\ x.1 < (a0.Q.length : Int) then (if 0 <= x.2 /\ x.2 < (a0.Q.length : Int) then (if (a0.Q.getD x.1.toNat 0) = (a0.Q.getD x.2.toNat 0) then (nfigure_reference_r0 k a0 r1303 xs b1_0 b1_1 b1_2 b1_3 b1_4 b1_5) else ((nfigure_areAround k a0 x.1 x.2).bind fun r1350 => (if r1350 = true then ((nfigure_through k a0 x.1 x.2).bind fun r1355 => ((nfigure_firstDug k a0 r1355).bind fun r1358 => (if r1358.2 = true then (nfigure_reference_r0 k a0 r1303 xs b1_0 b1_1 b1_2 b1_3 b1_4 b1_5) else (some (.inr (r1355.Start.Num, r1355.Start.Den, r1355.Slope.Num, r1355.Slope.Den, r1355.Touch.e0, r1355.Touch.e1)))))) else (nfigure_reference_r0 k a0 r1303 xs b1_0 b1_1 b1_2 b1_3 b1_4 b1_5)))) else none) else none
theorem nfigure_reference_r0_ok (k : Nat) (a0 : SRemovalMap) (r1303 : Int) : ∀ (xs : List (Int × Int)) (b1_0 : Int) (b1_1 : Int) (b1_2 : Int) (b1_3 : Int) (b1_4 : Int) (b1_5 : Int) (r : Sum (Int × Int × Int × Int × Int × Int) (Int × Int × Int × Int × Int × Int)), nfigure_reference_r0 k a0 r1303 xs b1_0 b1_1 b1_2 b1_3 b1_4 b1_5 = some r -> (match r with | .inl r => VRange Try.prog (szF Try.f44) (.tmp 12) [13, 14] (rAssign Try.f44 0) (rBody Try.f44 0) (xs.map encP) ⟨mkA [(1, VV.pt 0 0), (2, VV.pt 1 0), (12, VV.fn 93 [VV.tp [vi r1303] 0])], [some ⟨true, 1, c_SRemovalMap a0⟩, some ⟨true, 1, [vi b1_0, vi b1_1, vi b1_2, vi b1_3, vi b1_4, vi b1_5]⟩], .nil⟩ .normal ⟨mkA [(1, VV.pt 0 0), (2, VV.pt 1 0), (12, VV.fn 93 [VV.tp [vi r1303] 0])], [some ⟨true, 1, c_SRemovalMap a0⟩, some ⟨true, 1, [vi r.1, vi r.2.1, vi r.2.2.1, vi r.2.2.2.1, vi r.2.2.2.2.1, vi r.2.2.2.2.2]⟩], .nil⟩ | .inr r => VRange Try.prog (szF Try.f44) (.tmp 12) [13, 14] (rAssign Try.f44 0) (rBody Try.f44 0) (xs.map encP) ⟨mkA [(1, VV.pt 0 0), (2, VV.pt 1 0), (12, VV.fn 93 [VV.tp [vi r1303] 0])], [some ⟨true, 1, c_SRemovalMap a0⟩, some ⟨true, 1, [vi b1_0, vi b1_1, vi b1_2, vi b1_3, vi b1_4, vi b1_5]⟩], .nil⟩ .ret ⟨mkA [(1, VV.pt 0 0), (2, VV.pt 1 0), (12, VV.fn 93 [VV.tp [vi r1303] 0])], [some ⟨true, 1, c_SRemovalMap a0⟩, some ⟨true, 1, [vi r.1, vi r.2.1, vi r.2.2.1, vi r.2.2.2.1, vi r.2.2.2.2.1, vi r.2.2.2.2.2]⟩], .nil⟩) := by
 intro xs
 induction xs with
 | nil => intro b1_0 b1_1 b1_2 b1_3 b1_4 b1_5 r h; rw [nfigure_reference_r0.eq_1] at h; injection h with h; subst h; exact .nil
 | cons x xs ih =>
  intro b1_0 b1_1 b1_2 b1_3 b1_4 b1_5 r h
  rw [nfigure_reference_r0.eq_2] at h
  obtain ⟨h1344, h⟩ := ifn h
  have e1345 := (show loadL Try.prog 3 (x.1.toNat * 1) (List.map vi a0.Q) = some (vi (a0.Q.getD x.1.toNat 0)) from ld_map ag3 vi a0.Q 0 h1344 (by omega))
  obtain ⟨h1346, h⟩ := ifn h
  have e1347 := (show loadL Try.prog 3 (x.2.toNat * 1) (List.map vi a0.Q) = some (vi (a0.Q.getD x.2.toNat 0)) from ld_map ag3 vi a0.Q 0 h1346 (by omega))
  rcases ifs h with ⟨h1348, h⟩ | ⟨h1348, h⟩
  ·have e1349 := (ti (ti (ti (an h1344 (an e1345 (ti (ti (ti (an h1346 (an e1347 (ti (ti (an (decide_eq_true h1348) (an (decide_eq_true h1348) (an (decide_eq_true h1348) (an (decide_eq_true h1348) (an (decide_eq_true h1348) (an (decide_eq_true h1348) trivial))))))))))))))))))
   have h2 := ih _ _ _ _ _ _ _ h
   have hr := rd_all (P := Try.prog) (sz := szF Try.f44) (assign := rAssign Try.f44 0) (body := rBody Try.f44 0) (s := (⟨mkA [(1, VV.pt 0 0), (2, VV.pt 1 0), (12, VV.fn 93 [VV.tp [vi r1303] 0])], [some ⟨true, 1, c_SRemovalMap a0⟩, some ⟨true, 1, [vi b1_0, vi b1_1, vi b1_2, vi b1_3, vi b1_4, vi b1_5]⟩], .nil⟩ : VS)) (ps := [13, 14]) (x := (encP x)) (sa := (stOf Try.prog (szF Try.f44) (rAssign Try.f44 0) [.reg (.n :: []), .reg (.n :: [])] (VS.enter (⟨mkA [(1, VV.pt 0 0), (2, VV.pt 1 0), (12, VV.fn 93 [VV.tp [vi r1303] 0])], [some ⟨true, 1, c_SRemovalMap a0⟩, some ⟨true, 1, [vi b1_0, vi b1_1, vi b1_2, vi b1_3, vi b1_4, vi b1_5]⟩], .nil⟩ : VS) [13, 14] (encP x)))) (s1 := stOf Try.prog (szF Try.f44) (rBody Try.f44 0) [.reg (arE1_11 a0 x), .br true] (stOf Try.prog (szF Try.f44) (rAssign Try.f44 0) [.reg (.n :: []), .reg (.n :: [])] (VS.enter (⟨mkA [(1, VV.pt 0 0), (2, VV.pt 1 0), (12, VV.fn 93 [VV.tp [vi r1303] 0])], [some ⟨true, 1, c_SRemovalMap a0⟩, some ⟨true, 1, [vi b1_0, vi b1_1, vi b1_2, vi b1_3, vi b1_4, vi b1_5]⟩], .nil⟩ : VS) [13, 14] (encP x)))) (s2 := ⟨.nil, [some ⟨true, 1, c_SRemovalMap a0⟩, some ⟨true, 1, [vi b1_0, vi b1_1, vi b1_2, vi b1_3, vi b1_4, vi b1_5]⟩], (mkA [(1, VV.pt 0 0), (2, VV.pt 1 0), (12, VV.fn 93 [VV.tp [vi r1303] 0])])⟩) (a1 := [.reg (.n :: []), .reg (.n :: [])]) (a2 := [.reg (arE1_11 a0 x), .br true]) (c := ⟨[], [none, none], []⟩) (e := .normal) (q1 := (((True) /\ True) /\ ((True) /\ True))) (q2 := fun l => (((True) /\ (True) /\ (True) /\ (0 <= x.1 /\ x.1 < ((a0.Q.length : Nat) : Int)) /\ (loadL Try.prog 3 (x.1.toNat * 1) (List.map vi a0.Q) = some (vi (a0.Q.getD x.1.toNat 0))) /\ (True) /\ (True) /\ (True) /\ (0 <= x.2 /\ x.2 < ((a0.Q.length : Nat) : Int)) /\ (loadL Try.prog 3 (x.2.toNat * 1) (List.map vi a0.Q) = some (vi (a0.Q.getD x.2.toNat 0))) /\ (True) /\ (True) /\ ((decide ((a0.Q.getD x.1.toNat 0) = (a0.Q.getD x.2.toNat 0))) = !false) /\ ((decide ((a0.Q.getD x.1.toNat 0) = (a0.Q.getD x.2.toNat 0))) = !false) /\ ((decide ((a0.Q.getD x.1.toNat 0) = (a0.Q.getD x.2.toNat 0))) = !false) /\ ((decide ((a0.Q.getD x.1.toNat 0) = (a0.Q.getD x.2.toNat 0))) = !false) /\ ((decide ((a0.Q.getD x.1.toNat 0) = (a0.Q.getD x.2.toNat 0))) = !false) /\ ((decide ((a0.Q.getD x.1.toNat 0) = (a0.Q.getD x.2.toNat 0))) = true) /\ True) /\ ((true = true) /\ (True)))) (p := ((True) /\ ((True)))) pm pn (fun l => by kernel_rfl) (an (ti trivial) (ti trivial)) (fun l => by kernel_rfl) (fun l => (an e1349 (an rt trivial))) (by kernel_rfl) ⟨trivial, trivial⟩
   cases r with
   | inl r =>
    exact VRange.next (by kernel_rfl) rfl hr.1 hr.2 (by kernel_rfl) h2
   | inr r =>
    exact VRange.next (by kernel_rfl) rfl hr.1 hr.2 (by kernel_rfl) h2
  ·obtain ⟨r1350, h1351, h⟩ := bs h
   have e1352 := (an (decide_eq_false h1348) (nfigure_areAround_ok k a0 x.1 x.2 _ h1351))
   have e1353 := (ti (ti (ti (an h1344 (an e1345 (ti (ti (ti (an h1346 (an e1347 (ti (ti (an (an (decide_eq_false h1348) trivial) (an (an (decide_eq_false h1348) trivial) (an (an (decide_eq_false h1348) trivial) (an e1352 (an (an (decide_eq_false h1348) trivial) (an (decide_eq_false h1348) trivial))))))))))))))))))
   rcases ifs h with ⟨h1354, h⟩ | ⟨h1354, h⟩
   ·obtain ⟨r1355, h1356, h⟩ := bs h
    have e1357 := (nfigure_through_ok k a0 x.1 x.2 _ h1356)
    obtain ⟨r1358, h1359, h⟩ := bs h
    have e1360 := (nfigure_firstDug_ok k a0 r1355 _ h1359)
    have e1361 := (ti (ti (an e1360 (ti (ti (ti (ti (ti trivial))))))))
    rcases ifs h with ⟨h1362, h⟩ | ⟨h1362, h⟩
    ·have h2 := ih _ _ _ _ _ _ _ h
     have hr := rd_all (P := Try.prog) (sz := szF Try.f44) (assign := rAssign Try.f44 0) (body := rBody Try.f44 0) (s := (⟨mkA [(1, VV.pt 0 0), (2, VV.pt 1 0), (12, VV.fn 93 [VV.tp [vi r1303] 0])], [some ⟨true, 1, c_SRemovalMap a0⟩, some ⟨true, 1, [vi b1_0, vi b1_1, vi b1_2, vi b1_3, vi b1_4, vi b1_5]⟩], .nil⟩ : VS)) (ps := [13, 14]) (x := (encP x)) (sa := (stOf Try.prog (szF Try.f44) (rAssign Try.f44 0) [.reg (.n :: []), .reg (.n :: [])] (VS.enter (⟨mkA [(1, VV.pt 0 0), (2, VV.pt 1 0), (12, VV.fn 93 [VV.tp [vi r1303] 0])], [some ⟨true, 1, c_SRemovalMap a0⟩, some ⟨true, 1, [vi b1_0, vi b1_1, vi b1_2, vi b1_3, vi b1_4, vi b1_5]⟩], .nil⟩ : VS) [13, 14] (encP x)))) (s1 := stOf Try.prog (szF Try.f44) (rBody Try.f44 0) [.reg (arE1_12 a0 x r1350), .br false, .reg (nN 3 (.call (VV.ag (c_SLowerLine r1355)) :: .n :: .n :: [])), .reg (.n :: .n :: .call (VV.tu [vi r1358.1, vb r1358.2]) :: nN 5 []), .reg (.n :: .n :: []), .br false] (stOf Try.prog (szF Try.f44) (rAssign Try.f44 0) [.reg (.n :: []), .reg (.n :: [])] (VS.enter (⟨mkA [(1, VV.pt 0 0), (2, VV.pt 1 0), (12, VV.fn 93 [VV.tp [vi r1303] 0])], [some ⟨true, 1, c_SRemovalMap a0⟩, some ⟨true, 1, [vi b1_0, vi b1_1, vi b1_2, vi b1_3, vi b1_4, vi b1_5]⟩], .nil⟩ : VS) [13, 14] (encP x)))) (s2 := ⟨.nil, [some ⟨true, 1, c_SRemovalMap a0⟩, some ⟨true, 1, [vi b1_0, vi b1_1, vi b1_2, vi b1_3, vi b1_4, vi b1_5]⟩], (mkA [(1, VV.pt 0 0), (2, VV.pt 1 0), (12, VV.fn 93 [VV.tp [vi r1303] 0])])⟩) (a1 := [.reg (.n :: []), .reg (.n :: [])]) (a2 := [.reg (arE1_12 a0 x r1350), .br false, .reg (nN 3 (.call (VV.ag (c_SLowerLine r1355)) :: .n :: .n :: [])), .reg (.n :: .n :: .call (VV.tu [vi r1358.1, vb r1358.2]) :: nN 5 []), .reg (.n :: .n :: []), .br false]) (c := ⟨[], [none, none], []⟩) (e := .normal) (q1 := (((True) /\ True) /\ ((True) /\ True))) (q2 := fun l => ((((True) /\ (True) /\ (True) /\ (0 <= x.1 /\ x.1 < ((a0.Q.length : Nat) : Int)) /\ (loadL Try.prog 3 (x.1.toNat * 1) (List.map vi a0.Q) = some (vi (a0.Q.getD x.1.toNat 0))) /\ (True) /\ (True) /\ (True) /\ (0 <= x.2 /\ x.2 < ((a0.Q.length : Nat) : Int)) /\ (loadL Try.prog 3 (x.2.toNat * 1) (List.map vi a0.Q) = some (vi (a0.Q.getD x.2.toNat 0))) /\ (True) /\ (True) /\ (((decide ((a0.Q.getD x.1.toNat 0) = (a0.Q.getD x.2.toNat 0))) = false /\ True)) /\ (((decide ((a0.Q.getD x.1.toNat 0) = (a0.Q.getD x.2.toNat 0))) = false /\ True)) /\ (((decide ((a0.Q.getD x.1.toNat 0) = (a0.Q.getD x.2.toNat 0))) = false /\ True)) /\ (((decide ((a0.Q.getD x.1.toNat 0) = (a0.Q.getD x.2.toNat 0))) = false /\ VC Try.prog 49 [VV.ag (c_SRemovalMap a0), vi x.1, vi x.2] (vb r1350))) /\ (((decide ((a0.Q.getD x.1.toNat 0) = (a0.Q.getD x.2.toNat 0))) = false /\ True)) /\ ((decide ((a0.Q.getD x.1.toNat 0) = (a0.Q.getD x.2.toNat 0))) = false) /\ True) /\ (((!r1350) = false) /\ (True))) /\ (((True) /\ (True) /\ (True) /\ (VC Try.prog 75 [VV.ag (c_SRemovalMap a0), vi x.1, vi x.2] (VV.ag (c_SLowerLine r1355))) /\ (True) /\ (True) /\ True) /\ (((True) /\ (True) /\ (VC Try.prog 47 [VV.ag (c_SRemovalMap a0), VV.ag (c_SLowerLine r1355)] (VV.tu [vi r1358.1, vb r1358.2])) /\ (True) /\ (True) /\ (True) /\ (True) /\ (True) /\ True) /\ (((True) /\ (True) /\ True) /\ (((!r1358.2) = false) /\ (True))))))) (p := ((True) /\ ((True)))) pm pn (fun l => by kernel_rfl) (an (ti trivial) (ti trivial)) (fun l => by kernel_rfl) (fun l => (an (an e1353 (an (not_f h1354) trivial)) (an (ti (ti (ti (an e1357 (ti (ti trivial)))))) (an e1361 (an (ti (ti trivial)) (an (not_f h1362) trivial)))))) (by kernel_rfl) ⟨trivial, trivial⟩
     cases r with
     | inl r =>
      exact VRange.next (by kernel_rfl) rfl hr.1 hr.2 (by kernel_rfl) h2
     | inr r =>
      exact VRange.next (by kernel_rfl) rfl hr.1 hr.2 (by kernel_rfl) h2
    ·injection h with h; subst h
     have hr := rd_all (P := Try.prog) (sz := szF Try.f44) (assign := rAssign Try.f44 0) (body := rBody Try.f44 0) (s := (⟨mkA [(1, VV.pt 0 0), (2, VV.pt 1 0), (12, VV.fn 93 [VV.tp [vi r1303] 0])], [some ⟨true, 1, c_SRemovalMap a0⟩, some ⟨true, 1, [vi b1_0, vi b1_1, vi b1_2, vi b1_3, vi b1_4, vi b1_5]⟩], .nil⟩ : VS)) (ps := [13, 14]) (x := (encP x)) (sa := (stOf Try.prog (szF Try.f44) (rAssign Try.f44 0) [.reg (.n :: []), .reg (.n :: [])] (VS.enter (⟨mkA [(1, VV.pt 0 0), (2, VV.pt 1 0), (12, VV.fn 93 [VV.tp [vi r1303] 0])], [some ⟨true, 1, c_SRemovalMap a0⟩, some ⟨true, 1, [vi b1_0, vi b1_1, vi b1_2, vi b1_3, vi b1_4, vi b1_5]⟩], .nil⟩ : VS) [13, 14] (encP x)))) (s1 := stOf Try.prog (szF Try.f44) (rBody Try.f44 0) [.reg (arE1_12 a0 x r1350), .br false, .reg (nN 3 (.call (VV.ag (c_SLowerLine r1355)) :: .n :: .n :: [])), .reg (.n :: .n :: .call (VV.tu [vi r1358.1, vb r1358.2]) :: nN 5 []), .reg (.n :: .n :: []), .br true, .reg (.n :: .n :: [])] (stOf Try.prog (szF Try.f44) (rAssign Try.f44 0) [.reg (.n :: []), .reg (.n :: [])] (VS.enter (⟨mkA [(1, VV.pt 0 0), (2, VV.pt 1 0), (12, VV.fn 93 [VV.tp [vi r1303] 0])], [some ⟨true, 1, c_SRemovalMap a0⟩, some ⟨true, 1, [vi b1_0, vi b1_1, vi b1_2, vi b1_3, vi b1_4, vi b1_5]⟩], .nil⟩ : VS) [13, 14] (encP x)))) (s2 := ⟨.nil, [some ⟨true, 1, c_SRemovalMap a0⟩, some ⟨true, 1, c_SLowerLine r1355⟩], (mkA [(1, VV.pt 0 0), (2, VV.pt 1 0), (12, VV.fn 93 [VV.tp [vi r1303] 0])])⟩) (a1 := [.reg (.n :: []), .reg (.n :: [])]) (a2 := [.reg (arE1_12 a0 x r1350), .br false, .reg (nN 3 (.call (VV.ag (c_SLowerLine r1355)) :: .n :: .n :: [])), .reg (.n :: .n :: .call (VV.tu [vi r1358.1, vb r1358.2]) :: nN 5 []), .reg (.n :: .n :: []), .br true, .reg (.n :: .n :: [])]) (c := ⟨[], [none, none], []⟩) (e := .ret) (q1 := (((True) /\ True) /\ ((True) /\ True))) (q2 := fun l => ((((True) /\ (True) /\ (True) /\ (0 <= x.1 /\ x.1 < ((a0.Q.length : Nat) : Int)) /\ (loadL Try.prog 3 (x.1.toNat * 1) (List.map vi a0.Q) = some (vi (a0.Q.getD x.1.toNat 0))) /\ (True) /\ (True) /\ (True) /\ (0 <= x.2 /\ x.2 < ((a0.Q.length : Nat) : Int)) /\ (loadL Try.prog 3 (x.2.toNat * 1) (List.map vi a0.Q) = some (vi (a0.Q.getD x.2.toNat 0))) /\ (True) /\ (True) /\ (((decide ((a0.Q.getD x.1.toNat 0) = (a0.Q.getD x.2.toNat 0))) = false /\ True)) /\ (((decide ((a0.Q.getD x.1.toNat 0) = (a0.Q.getD x.2.toNat 0))) = false /\ True)) /\ (((decide ((a0.Q.getD x.1.toNat 0) = (a0.Q.getD x.2.toNat 0))) = false /\ True)) /\ (((decide ((a0.Q.getD x.1.toNat 0) = (a0.Q.getD x.2.toNat 0))) = false /\ VC Try.prog 49 [VV.ag (c_SRemovalMap a0), vi x.1, vi x.2] (vb r1350))) /\ (((decide ((a0.Q.getD x.1.toNat 0) = (a0.Q.getD x.2.toNat 0))) = false /\ True)) /\ ((decide ((a0.Q.getD x.1.toNat 0) = (a0.Q.getD x.2.toNat 0))) = false) /\ True) /\ (((!r1350) = false) /\ (True))) /\ (((True) /\ (True) /\ (True) /\ (VC Try.prog 75 [VV.ag (c_SRemovalMap a0), vi x.1, vi x.2] (VV.ag (c_SLowerLine r1355))) /\ (True) /\ (True) /\ True) /\ (((True) /\ (True) /\ (VC Try.prog 47 [VV.ag (c_SRemovalMap a0), VV.ag (c_SLowerLine r1355)] (VV.tu [vi r1358.1, vb r1358.2])) /\ (True) /\ (True) /\ (True) /\ (True) /\ (True) /\ True) /\ (((True) /\ (True) /\ True) /\ (((!r1358.2) = true) /\ (((True) /\ (True) /\ True) /\ (True)))))))) (p := ((True) /\ ((True)))) pm pn (fun l => by kernel_rfl) (an (ti trivial) (ti trivial)) (fun l => by kernel_rfl) (fun l => (an (an e1353 (an (not_f h1354) trivial)) (an (ti (ti (ti (an e1357 (ti (ti trivial)))))) (an e1361 (an (ti (ti trivial)) (an (not_t (bool_f h1362)) (an (ti (ti trivial)) trivial))))))) (by kernel_rfl) ⟨trivial, trivial⟩
     exact VRange.ret (by kernel_rfl) rfl hr.1 hr.2
   ·have h2 := ih _ _ _ _ _ _ _ h
    have hr := rd_all (P := Try.prog) (sz := szF Try.f44) (assign := rAssign Try.f44 0) (body := rBody Try.f44 0) (s := (⟨mkA [(1, VV.pt 0 0), (2, VV.pt 1 0), (12, VV.fn 93 [VV.tp [vi r1303] 0])], [some ⟨true, 1, c_SRemovalMap a0⟩, some ⟨true, 1, [vi b1_0, vi b1_1, vi b1_2, vi b1_3, vi b1_4, vi b1_5]⟩], .nil⟩ : VS)) (ps := [13, 14]) (x := (encP x)) (sa := (stOf Try.prog (szF Try.f44) (rAssign Try.f44 0) [.reg (.n :: []), .reg (.n :: [])] (VS.enter (⟨mkA [(1, VV.pt 0 0), (2, VV.pt 1 0), (12, VV.fn 93 [VV.tp [vi r1303] 0])], [some ⟨true, 1, c_SRemovalMap a0⟩, some ⟨true, 1, [vi b1_0, vi b1_1, vi b1_2, vi b1_3, vi b1_4, vi b1_5]⟩], .nil⟩ : VS) [13, 14] (encP x)))) (s1 := stOf Try.prog (szF Try.f44) (rBody Try.f44 0) [.reg (arE1_12 a0 x r1350), .br true] (stOf Try.prog (szF Try.f44) (rAssign Try.f44 0) [.reg (.n :: []), .reg (.n :: [])] (VS.enter (⟨mkA [(1, VV.pt 0 0), (2, VV.pt 1 0), (12, VV.fn 93 [VV.tp [vi r1303] 0])], [some ⟨true, 1, c_SRemovalMap a0⟩, some ⟨true, 1, [vi b1_0, vi b1_1, vi b1_2, vi b1_3, vi b1_4, vi b1_5]⟩], .nil⟩ : VS) [13, 14] (encP x)))) (s2 := ⟨.nil, [some ⟨true, 1, c_SRemovalMap a0⟩, some ⟨true, 1, [vi b1_0, vi b1_1, vi b1_2, vi b1_3, vi b1_4, vi b1_5]⟩], (mkA [(1, VV.pt 0 0), (2, VV.pt 1 0), (12, VV.fn 93 [VV.tp [vi r1303] 0])])⟩) (a1 := [.reg (.n :: []), .reg (.n :: [])]) (a2 := [.reg (arE1_12 a0 x r1350), .br true]) (c := ⟨[], [none, none], []⟩) (e := .normal) (q1 := (((True) /\ True) /\ ((True) /\ True))) (q2 := fun l => (((True) /\ (True) /\ (True) /\ (0 <= x.1 /\ x.1 < ((a0.Q.length : Nat) : Int)) /\ (loadL Try.prog 3 (x.1.toNat * 1) (List.map vi a0.Q) = some (vi (a0.Q.getD x.1.toNat 0))) /\ (True) /\ (True) /\ (True) /\ (0 <= x.2 /\ x.2 < ((a0.Q.length : Nat) : Int)) /\ (loadL Try.prog 3 (x.2.toNat * 1) (List.map vi a0.Q) = some (vi (a0.Q.getD x.2.toNat 0))) /\ (True) /\ (True) /\ (((decide ((a0.Q.getD x.1.toNat 0) = (a0.Q.getD x.2.toNat 0))) = false /\ True)) /\ (((decide ((a0.Q.getD x.1.toNat 0) = (a0.Q.getD x.2.toNat 0))) = false /\ True)) /\ (((decide ((a0.Q.getD x.1.toNat 0) = (a0.Q.getD x.2.toNat 0))) = false /\ True)) /\ (((decide ((a0.Q.getD x.1.toNat 0) = (a0.Q.getD x.2.toNat 0))) = false /\ VC Try.prog 49 [VV.ag (c_SRemovalMap a0), vi x.1, vi x.2] (vb r1350))) /\ (((decide ((a0.Q.getD x.1.toNat 0) = (a0.Q.getD x.2.toNat 0))) = false /\ True)) /\ ((decide ((a0.Q.getD x.1.toNat 0) = (a0.Q.getD x.2.toNat 0))) = false) /\ True) /\ (((!r1350) = true) /\ (True)))) (p := ((True) /\ ((True)))) pm pn (fun l => by kernel_rfl) (an (ti trivial) (ti trivial)) (fun l => by kernel_rfl) (fun l => (an e1353 (an (not_t (bool_f h1354)) trivial))) (by kernel_rfl) ⟨trivial, trivial⟩
    cases r with
    | inl r =>
     exact VRange.next (by kernel_rfl) rfl hr.1 hr.2 (by kernel_rfl) h2
    | inr r =>
     exact VRange.next (by kernel_rfl) rfl hr.1 hr.2 (by kernel_rfl) h2
def arE1_13 (z0 : SRemovalMap) (z1 : Int) (z2 : SFrac) (z3 : SFrac) : List Ans := (nN 4 (.v (vi (z0.Heights.getD z1.toNat 0)) :: .call (VV.ag (c_SFrac z2)) :: .call (VV.ag (c_SFrac z3)) :: nN 5 []))
theorem eqE1_5 (z0 : SFrac) (z1 : SFrac) (z2 : Int) : VV.ag [vi z0.Num, vi z0.Den, vi z1.Num, vi z1.Den, vi z2, vi z2] = VV.ag [vi (((⟨z0, z1, (⟨z2, z2⟩ : A27)⟩ : SLowerLine).Start).Num), vi (((⟨z0, z1, (⟨z2, z2⟩ : A27)⟩ : SLowerLine).Start).Den), vi (((⟨z0, z1, (⟨z2, z2⟩ : A27)⟩ : SLowerLine).Slope).Num), vi (((⟨z0, z1, (⟨z2, z2⟩ : A27)⟩ : SLowerLine).Slope).Den), vi (((⟨z0, z1, (⟨z2, z2⟩ : A27)⟩ : SLowerLine).Touch).e0), vi (((⟨z0, z1, (⟨z2, z2⟩ : A27)⟩ : SLowerLine).Touch).e1)] := by first | rfl | (simp only [unfr_vi, map_cons, map_nil, un_i]; done) | (simp only [unfr_vi, map_cons, map_nil, un_i]; rfl) | (simp only [unfr_vi, map_cons, map_nil, un_i, length_cons, length_nil, length_append]; done)
theorem eqE1_6 (z0 : Int × Int × Int × Int × Int × Int) : VV.ag [vi z0.1, vi z0.2.1, vi z0.2.2.1, vi z0.2.2.2.1, vi z0.2.2.2.2.1, vi z0.2.2.2.2.2] = VV.ag [vi (((⟨(⟨z0.1, z0.2.1⟩ : SFrac), (⟨z0.2.2.1, z0.2.2.2.1⟩ : SFrac), (⟨z0.2.2.2.2.1, z0.2.2.2.2.2⟩ : A27)⟩ : SLowerLine).Start).Num), vi (((⟨(⟨z0.1, z0.2.1⟩ : SFrac), (⟨z0.2.2.1, z0.2.2.2.1⟩ : SFrac), (⟨z0.2.2.2.2.1, z0.2.2.2.2.2⟩ : A27)⟩ : SLowerLine).Start).Den), vi (((⟨(⟨z0.1, z0.2.1⟩ : SFrac), (⟨z0.2.2.1, z0.2.2.2.1⟩ : SFrac), (⟨z0.2.2.2.2.1, z0.2.2.2.2.2⟩ : A27)⟩ : SLowerLine).Slope).Num), vi (((⟨(⟨z0.1, z0.2.1⟩ : SFrac), (⟨z0.2.2.1, z0.2.2.2.1⟩ : SFrac), (⟨z0.2.2.2.2.1, z0.2.2.2.2.2⟩ : A27)⟩ : SLowerLine).Slope).Den), vi (((⟨(⟨z0.1, z0.2.1⟩ : SFrac), (⟨z0.2.2.1, z0.2.2.2.1⟩ : SFrac), (⟨z0.2.2.2.2.1, z0.2.2.2.2.2⟩ : A27)⟩ : SLowerLine).Touch).e0), vi (((⟨(⟨z0.1, z0.2.1⟩ : SFrac), (⟨z0.2.2.1, z0.2.2.2.1⟩ : SFrac), (⟨z0.2.2.2.2.1, z0.2.2.2.2.2⟩ : A27)⟩ : SLowerLine).Touch).e1)] := by first | rfl | (simp only [unfr_vi, map_cons, map_nil, un_i]; done) | (simp only [unfr_vi, map_cons, map_nil, un_i]; rfl) | (simp only [unfr_vi, map_cons, map_nil, un_i, length_cons, length_nil, length_append]; done)
def nfigure_reference (k : Nat) (a0 : SRemovalMap) : Option SLowerLine :=
 (nfigure_pairs k (a0.Heights.length : Int)).bind fun r1303 => (if r1303 <= 1000000000 then ((nfigure_reference_r0 k a0 r1303 (pairsL r1303) 0 0 0 0 0 0).bind fun r1365 => (match r1365 with | .inl r1366 => ((nslices_Min_int_int_ k a0.Heights).bind fun r1369 => ((nslices_Index_int_int_ k a0.Heights r1369).bind fun r1372 => (if 0 <= r1372 /\ r1372 < (a0.Heights.length : Int) then ((nfigure_lowest k (a0.Heights.getD r1372.toNat 0) 1).bind fun r1378 => ((nfigure_lowest k 0 1).bind fun r1381 => (some (⟨r1378, r1381, (⟨r1372, r1372⟩ : A27)⟩ : SLowerLine)))) else none))) | .inr r1367 => (some (⟨(⟨r1367.1, r1367.2.1⟩ : SFrac), (⟨r1367.2.2.1, r1367.2.2.2.1⟩ : SFrac), (⟨r1367.2.2.2.2.1, r1367.2.2.2.2.2⟩ : A27)⟩ : SLowerLine)))) else none)
theorem nfigure_reference_ok (k : Nat) (a0 : SRemovalMap) (r : SLowerLine) (h : nfigure_reference k a0 = some r) : VC Try.prog 44 [VV.ag (c_SRemovalMap a0)] (VV.ag (c_SLowerLine r)) := by
 unfold nfigure_reference at h
 obtain ⟨r1303, h1304, h⟩ := bs h
 have e1305 := (nfigure_pairs_ok k (a0.Heights.length : Int) _ h1304)
 obtain ⟨h1363, h⟩ := ifn h
 obtain ⟨r1365, h1364, h⟩ := bs h
 have hph1364 := nfigure_reference_r0_ok k a0 r1303 _ _ _ _ _ _ _ _ h1364
 cases r1365 with
 | inl r1366 =>
  dsimp only at h
  have e1368 : ((((True)) /\ ((True))) /\ VRun none Try.prog (szF Try.f44) (.rangeFunc (.tmp 12) #[13, 14] (rAssign Try.f44 0) (rBody Try.f44 0)) ⟨mkA [(1, VV.pt 0 0), (2, VV.pt 1 0), (12, VV.fn 93 [VV.tp [vi r1303] 0])], [some ⟨true, 1, c_SRemovalMap a0⟩, some ⟨true, 1, [vi 0, vi 0, vi 0, vi 0, vi 0, vi 0]⟩], .nil⟩ .normal ⟨mkA [(1, VV.pt 0 0), (2, VV.pt 1 0), (12, VV.fn 93 [VV.tp [vi r1303] 0])], [some ⟨true, 1, c_SRemovalMap a0⟩, some ⟨true, 1, [vi r1366.1, vi r1366.2.1, vi r1366.2.2.1, vi r1366.2.2.2.1, vi r1366.2.2.2.2.1, vi r1366.2.2.2.2.2]⟩], .nil⟩) := ⟨⟨trivial, trivial⟩, VRun.range pn rfl (by kernel_rfl) (it_pairs h1363) (by kernel_rfl) (of_decide_eq_true (by kernel_rfl)) (by decide) hph1364⟩
  obtain ⟨r1369, h1370, h⟩ := bs h
  have e1371 := (nslices_Min_int_int__ok k a0.Heights _ h1370)
  obtain ⟨r1372, h1373, h⟩ := bs h
  have e1374 := (nslices_Index_int_int__ok k a0.Heights r1369 _ h1373)
  have e1375 := (ti (ti (ti (ti (an e1371 (an e1374 (ti trivial)))))))
  obtain ⟨h1376, h⟩ := ifn h
  have e1377 := (show loadL Try.prog 3 (r1372.toNat * 1) (List.map vi a0.Heights) = some (vi (a0.Heights.getD r1372.toNat 0)) from ld_map ag3 vi a0.Heights 0 h1376 (by omega))
  obtain ⟨r1378, h1379, h⟩ := bs h
  have e1380 := (nfigure_lowest_ok k (a0.Heights.getD r1372.toNat 0) 1 _ h1379)
  obtain ⟨r1381, h1382, h⟩ := bs h
  have e1383 := (ti (ti (ti (an h1376 (an e1377 (an e1380 (an (nfigure_lowest_ok k 0 1 _ h1382) (ti (ti (ti (ti (ti trivial))))))))))))
  injection h with h; subst h
  exact fun_ok pm pn Try.func44 (r0 := VV.ag [vi r1378.Num, vi r1378.Den, vi r1381.Num, vi r1381.Den, vi r1372, vi r1372]) (ans := [.reg (.n :: .n :: []), .reg (nN 3 (.call (VV.fn 93 [VV.tp [vi r1303] 0]) :: [])), .sub ⟨[(1, none), (2, none), (12, none)], [none, none], []⟩ .normal ⟨mkA [(1, VV.pt 0 0), (2, VV.pt 1 0), (12, VV.fn 93 [VV.tp [vi r1303] 0])], [some ⟨true, 1, c_SRemovalMap a0⟩, some ⟨true, 1, [vi r1366.1, vi r1366.2.1, vi r1366.2.2.1, vi r1366.2.2.2.1, vi r1366.2.2.2.2.1, vi r1366.2.2.2.2.2]⟩], .nil⟩, .reg (nN 4 (.call (vi r1369) :: .call (vi r1372) :: .n :: [])), .reg (arE1_13 a0 r1372 r1378 r1381)]) (fr := true) (by kernel_rfl) (an (an (ti (ti trivial)) (an (an (ti (ti (ti (an e1305 trivial)))) e1368) (an e1375 (an e1383 trivial)))) (an (ti (ti (ti (ti (ti (ti (ti trivial))))))) trivial)) (Wv.of_eq (eqE1_5 r1378 r1381 r1372))
 | inr r1367 =>
  dsimp only at h
  have e1384 : ((((True)) /\ ((True))) /\ VRun none Try.prog (szF Try.f44) (.rangeFunc (.tmp 12) #[13, 14] (rAssign Try.f44 0) (rBody Try.f44 0)) ⟨mkA [(1, VV.pt 0 0), (2, VV.pt 1 0), (12, VV.fn 93 [VV.tp [vi r1303] 0])], [some ⟨true, 1, c_SRemovalMap a0⟩, some ⟨true, 1, [vi 0, vi 0, vi 0, vi 0, vi 0, vi 0]⟩], .nil⟩ .ret ⟨mkA [(1, VV.pt 0 0), (2, VV.pt 1 0), (12, VV.fn 93 [VV.tp [vi r1303] 0])], [some ⟨true, 1, c_SRemovalMap a0⟩, some ⟨true, 1, [vi r1367.1, vi r1367.2.1, vi r1367.2.2.1, vi r1367.2.2.2.1, vi r1367.2.2.2.2.1, vi r1367.2.2.2.2.2]⟩], .nil⟩) := ⟨⟨trivial, trivial⟩, VRun.range pn rfl (by kernel_rfl) (it_pairs h1363) (by kernel_rfl) (of_decide_eq_true (by kernel_rfl)) (by decide) hph1364⟩
  injection h with h; subst h
  exact fun_ok pm pn Try.func44 (r0 := VV.ag [vi r1367.1, vi r1367.2.1, vi r1367.2.2.1, vi r1367.2.2.2.1, vi r1367.2.2.2.2.1, vi r1367.2.2.2.2.2]) (ans := [.reg (.n :: .n :: []), .reg (nN 3 (.call (VV.fn 93 [VV.tp [vi r1303] 0]) :: [])), .sub ⟨[(1, none), (2, none), (12, none)], [none, none], []⟩ .ret ⟨mkA [(1, VV.pt 0 0), (2, VV.pt 1 0), (12, VV.fn 93 [VV.tp [vi r1303] 0])], [some ⟨true, 1, c_SRemovalMap a0⟩, some ⟨true, 1, [vi r1367.1, vi r1367.2.1, vi r1367.2.2.1, vi r1367.2.2.2.1, vi r1367.2.2.2.2.1, vi r1367.2.2.2.2.2]⟩], .nil⟩]) (fr := true) (by kernel_rfl) (an (an (ti (ti trivial)) (an (ti (ti (ti (an e1305 trivial)))) e1384)) (an (ti (ti (ti (ti (ti (ti (ti trivial))))))) trivial)) (Wv.of_eq (eqE1_6 r1367))
theorem eqE1_7 (z0 : Int) : VV.tu [VV.ag [vi 0, vi 0, vi 0, vi 0, vi 0, vi 0], vi z0] = VV.tu [VV.ag [vi (((⟨(⟨0, 0⟩ : SFrac), (⟨0, 0⟩ : SFrac), (⟨0, 0⟩ : A27)⟩ : SLowerLine).Start).Num), vi (((⟨(⟨0, 0⟩ : SFrac), (⟨0, 0⟩ : SFrac), (⟨0, 0⟩ : A27)⟩ : SLowerLine).Start).Den), vi (((⟨(⟨0, 0⟩ : SFrac), (⟨0, 0⟩ : SFrac), (⟨0, 0⟩ : A27)⟩ : SLowerLine).Slope).Num), vi (((⟨(⟨0, 0⟩ : SFrac), (⟨0, 0⟩ : SFrac), (⟨0, 0⟩ : A27)⟩ : SLowerLine).Slope).Den), vi (((⟨(⟨0, 0⟩ : SFrac), (⟨0, 0⟩ : SFrac), (⟨0, 0⟩ : A27)⟩ : SLowerLine).Touch).e0), vi (((⟨(⟨0, 0⟩ : SFrac), (⟨0, 0⟩ : SFrac), (⟨0, 0⟩ : A27)⟩ : SLowerLine).Touch).e1)], vi z0] := by first | rfl | (simp only [unfr_vi, map_cons, map_nil, un_i]; done) | (simp only [unfr_vi, map_cons, map_nil, un_i]; rfl) | (simp only [unfr_vi, map_cons, map_nil, un_i, length_cons, length_nil, length_append]; done)
def nfigure_Reference (k : Nat) (a0 : SRemovalMap) : Option (SLowerLine × Int) :=
 (nfigure_CheckMap k a0).bind fun r1388 => (if r1388 = 0 then ((nfigure_reference k a0).bind fun r1392 => (some (r1392, 0))) else (some ((⟨(⟨0, 0⟩ : SFrac), (⟨0, 0⟩ : SFrac), (⟨0, 0⟩ : A27)⟩ : SLowerLine), r1388)))
theorem nfigure_Reference_ok (k : Nat) (a0 : SRemovalMap) (r : (SLowerLine × Int)) (h : nfigure_Reference k a0 = some r) : VC Try.prog 17 [VV.ag (c_SRemovalMap a0)] (VV.tu [VV.ag (c_SLowerLine r.1), vi r.2]) := by
 unfold nfigure_Reference at h
 obtain ⟨r1388, h1389, h⟩ := bs h
 have e1390 := (ti (an (nfigure_CheckMap_ok k a0 _ h1389) (ti trivial)))
 rcases ifs h with ⟨h1391, h⟩ | ⟨h1391, h⟩
 ·obtain ⟨r1392, h1393, h⟩ := bs h
  have e1394 := (ti (an (nfigure_reference_ok k a0 _ h1393) (ti (ti trivial))))
  injection h with h; subst h
  exact fun_ok pm pn Try.func17 (r0 := VV.tu [VV.ag (c_SLowerLine r1392), vi 0]) (ans := [.reg (nN 3 []), .reg (.n :: .call (vi r1388) :: .n :: []), .reg (.n :: .n :: []), .br false, .reg (.n :: .call (VV.ag (c_SLowerLine r1392)) :: .n :: .n :: [])]) (fr := true) (by kernel_rfl) (an (an (ti (ti (ti trivial))) (an (an e1390 (an (ti (ti trivial)) (an (not_f (decide_eq_true h1391)) trivial))) (an e1394 trivial))) (an (ti (ti (ti (ti (ti (ti (ti trivial))))))) (ti trivial))) (Wv.refl _)
 ·injection h with h; subst h
  exact fun_ok pm pn Try.func17 (r0 := VV.tu [VV.ag [vi 0, vi 0, vi 0, vi 0, vi 0, vi 0], vi r1388]) (ans := [.reg (nN 3 []), .reg (.n :: .call (vi r1388) :: .n :: []), .reg (.n :: .n :: []), .br true, .reg (nN 4 [])]) (fr := true) (by kernel_rfl) (an (an (ti (ti (ti trivial))) (an e1390 (an (ti (ti trivial)) (an (not_t (decide_eq_false h1391)) (an (ti (ti (ti (ti trivial)))) trivial))))) (an (ti (ti (ti (ti (ti (ti (ti trivial))))))) (ti trivial))) (Wv.of_eq (eqE1_7 r1388))
def nfigure_Least_l0_0_h (a0 : SRemovalMap) (r1429 : (SLowerLine × Int)) (x21 : Int) (x6 : Int) : VS := ⟨mkA [(1, VV.pt 0 0), (2, VV.pt 1 0), (4, VV.pt 2 0), (6, vi x6), (19, VV.tr (List.map vi a0.Weights) a0.Weights.length), (20, vi (a0.Weights.length : Int)), (21, vi x21)], [some ⟨true, 1, c_SRemovalMap a0⟩, some ⟨true, 1, [vi 0, vi 0]⟩, some ⟨true, 1, c_SLowerLine r1429.1⟩], .nil⟩
def nfigure_Least_l0_0_e0 (a0 : SRemovalMap) (r1429 : (SLowerLine × Int)) (r : Int) : VS := ⟨mkA [(2, VV.pt 1 0), (4, VV.pt 2 0), (6, vi r)], [some ⟨true, 1, c_SRemovalMap a0⟩, some ⟨true, 1, [vi 0, vi 0]⟩, some ⟨true, 1, c_SLowerLine r1429.1⟩], .nil⟩
def nfigure_Least_l0_0 (k : Nat) (a0 : SRemovalMap) (r1429 : (SLowerLine × Int)) : Nat -> Int -> Int -> Option (Int)
 | 0, _, _ => none
 | fuel + 1, x21, x6 => if x21 < (a0.Weights.length : Int) then (if 0 <= x21 /\ x21 < (a0.Weights.length : Int) then ((nfigure_removalTimesDen k a0 r1429.1 x21).bind fun r1450 => (nfigure_Least_l0_0 k a0 r1429 fuel (w64 (x21 + 1)) (w64 (x6 + (w64 ((a0.Weights.getD x21.toNat 0) * r1450)))))) else none) else (some x6)
theorem nfigure_Least_l0_0_ok (k : Nat) (a0 : SRemovalMap) (r1429 : (SLowerLine × Int)) : ∀ (fuel : Nat) (x21 : Int) (x6 : Int) (r : Int), nfigure_Least_l0_0 k a0 r1429 fuel x21 x6 = some r -> (VLoop none Try.prog (szF Try.f14) (bodyOf Try.f14 0) (nfigure_Least_l0_0_h a0 r1429 x21 x6) (.exit 0) (nfigure_Least_l0_0_e0 a0 r1429 r)) := by
 intro fuel
 induction fuel with
 | zero => intro x21 x6 r h; rw [nfigure_Least_l0_0.eq_1] at h; cases h
 | succ fuel ih =>
  intro x21 x6 r h
  rw [nfigure_Least_l0_0.eq_2] at h
  rcases ifs h with ⟨h1447, h⟩ | ⟨h1447, h⟩
  ·obtain ⟨h1448, h⟩ := ifn h
   have e1449 := (show loadL Try.prog 3 (x21.toNat * 1) (List.map vi a0.Weights) = some (vi (a0.Weights.getD x21.toNat 0)) from ld_map ag3 vi a0.Weights 0 h1448 (by omega))
   obtain ⟨r1450, h1451, h⟩ := bs h
   have e1452 := (nfigure_removalTimesDen_ok k a0 r1429.1 x21 _ h1451)
   have e1453 := (ti (ti (ti (ti (ti (an e1452 (ti (ti (ti trivial)))))))))
   have h2 := ih _ _ _ h
   obtain ⟨q, hv, hq⟩ := pkR (rd := none) (P := Try.prog) (fn := Try.f14) (k := 0) (s := (nfigure_Least_l0_0_h a0 r1429 x21 x6)) (ans := [.reg (.n :: []), .br true, .reg (.n :: .n :: .v (vi (a0.Weights.getD x21.toNat 0)) :: .n :: .n :: []), .reg (nN 5 (.call (vi r1450) :: nN 3 [])), .reg (.n :: .n :: [])]) (c := ⟨[(1, none), (2, none), (4, none), (6, none), (19, none), (20, none), (21, none)], [none, none, none], []⟩) (e := .normal) (s1 := (nfigure_Least_l0_0_h a0 r1429 (w64 (x21 + 1)) (w64 (x6 + (w64 ((a0.Weights.getD x21.toNat 0) * r1450)))))) (an (an (ti trivial) (an (an (decide_eq_true h1447) trivial) (an (an (ti (an h1448 (an e1449 (ti (ti trivial))))) e1453) (ti (ti trivial))))) (ti trivial)) (by kernel_rfl)
   exact round_next pm pn hv hq h2
  ·injection h with h; subst h
   exact round_stop (c := ⟨[(2, none), (4, none), (6, none)], [none, none, none], []⟩) (s1 := (nfigure_Least_l0_0_e0 a0 r1429 x6)) pm pn (ans := [.reg (.n :: []), .br false]) (by kernel_rfl) (by intro e; cases e) (an (an (ti trivial) (an (decide_eq_false h1447) trivial)) (ti trivial))
theorem eqE1_8 (z0 : (SLowerLine × Int)) : VV.tu [VV.ag [vi 0, vi 0], vi z0.2] = VV.tu [VV.ag (c_SFrac (⟨0, 0⟩ : SFrac)), vi z0.2] := by first | rfl | (simp only [unfr_vi, map_cons, map_nil, un_i, unfr_c_SFrac]; done) | (simp only [unfr_vi, map_cons, map_nil, un_i, unfr_c_SFrac]; rfl) | (simp only [unfr_vi, map_cons, map_nil, un_i, unfr_c_SFrac, c_SFrac, length_cons, length_nil, length_append]; done)
def nfigure_Least (k : Nat) (a0 : SRemovalMap) : Option (SFrac × Int) :=
 (nfigure_Reference k a0).bind fun r1429 => (if r1429.2 = 0 then ((nfigure_Least_l0_0 k a0 r1429 k 0 0).bind fun r1455 => ((nfigure_denOf k r1429.1).bind fun r1457 => ((nfigure_lowest k r1455 r1457).bind fun r1459 => (some (r1459, 0))))) else (some ((⟨0, 0⟩ : SFrac), r1429.2)))
theorem nfigure_Least_ok (k : Nat) (a0 : SRemovalMap) (r : (SFrac × Int)) (h : nfigure_Least k a0 = some r) : VC Try.prog 14 [VV.ag (c_SRemovalMap a0)] (VV.tu [VV.ag (c_SFrac r.1), vi r.2]) := by
 unfold nfigure_Least at h
 obtain ⟨r1429, h1430, h⟩ := bs h
 have e1431 := (ti (an (nfigure_Reference_ok k a0 _ h1430) (ti (ti (ti (ti (ti (ti trivial))))))))
 rcases ifs h with ⟨h1432, h⟩ | ⟨h1432, h⟩
 ·obtain ⟨r1455, h1454, h⟩ := bs h
  have hph1454 := nfigure_Least_l0_0_ok k a0 r1429 _ _ _ _ h1454
  have e1456 := (an (ti trivial) (VRun.loop hph1454))
  obtain ⟨r1457, h1458, h⟩ := bs h
  obtain ⟨r1459, h1460, h⟩ := bs h
  have e1461 := (nfigure_lowest_ok k r1455 r1457 _ h1460)
  have e1462 := (ti (ti (an (nfigure_denOf_ok k r1429.1 _ h1458) (an e1461 (ti (ti trivial))))))
  injection h with h; subst h
  exact fun_ok pm pn Try.func14 (r0 := VV.tu [VV.ag (c_SFrac r1459), vi 0]) (ans := [.reg (nN 3 []), .reg (.n :: .call (VV.tu [VV.ag (c_SLowerLine r1429.1), vi r1429.2]) :: nN 6 []), .reg (.n :: .n :: []), .br false, .reg (.n :: []), .reg (nN 4 []), .sub ⟨[(1, none), (2, none), (4, none), (6, none), (19, none), (20, none), (21, none)], [none, none, none], []⟩ (.exit 0) (nfigure_Least_l0_0_e0 a0 r1429 r1455), .reg (.n :: .n :: .call (vi r1457) :: .call (VV.ag (c_SFrac r1459)) :: .n :: .n :: [])]) (fr := true) (by kernel_rfl) (an (an (ti (ti (ti trivial))) (an e1431 (an (an (ti (ti trivial)) (an (not_f (decide_eq_true h1432)) trivial)) (an (ti trivial) (an (an (ti (ti (ti (ti trivial)))) e1456) (an e1462 trivial)))))) (an (ti (ti (ti trivial))) (ti trivial))) (Wv.refl _)
 ·injection h with h; subst h
  exact fun_ok pm pn Try.func14 (r0 := VV.tu [VV.ag [vi 0, vi 0], vi r1429.2]) (ans := [.reg (nN 3 []), .reg (.n :: .call (VV.tu [VV.ag (c_SLowerLine r1429.1), vi r1429.2]) :: nN 6 []), .reg (.n :: .n :: []), .br true, .reg (nN 4 [])]) (fr := true) (by kernel_rfl) (an (an (ti (ti (ti trivial))) (an e1431 (an (ti (ti trivial)) (an (not_t (decide_eq_false h1432)) (an (ti (ti (ti (ti trivial)))) trivial))))) (an (ti (ti (ti trivial))) (ti trivial))) (Wv.of_eq (eqE1_8 r1429))
def nfigure_isLowest (k : Nat) (a0 : SFrac) : Option Bool :=
 if 0 < a0.Den then ((nfigure_divisor k a0.Num a0.Den).bind fun r1474 => (some (decide (r1474 = 1)))) else (some false)
theorem nfigure_isLowest_ok (k : Nat) (a0 : SFrac) (r : Bool) (h : nfigure_isLowest k a0 = some r) : VC Try.prog 70 [VV.ag (c_SFrac a0)] (vb r) := by
 unfold nfigure_isLowest at h
 rcases ifs h with ⟨h1473, h⟩ | ⟨h1473, h⟩
 ·obtain ⟨r1474, h1475, h⟩ := bs h
  have e1476 := (an (decide_eq_true h1473) (nfigure_divisor_ok k a0.Num a0.Den _ h1475))
  have e1477 := (ti (ti (ti (ti (an (an (decide_eq_true h1473) trivial) (an (an (decide_eq_true h1473) trivial) (an (an (decide_eq_true h1473) trivial) (an (an (decide_eq_true h1473) trivial) (an e1476 (an (an (decide_eq_true h1473) trivial) (an (decide_eq_true h1473) (ti trivial))))))))))))
  injection h with h; subst h
  exact fun_ok pm pn Try.func70 (r0 := vb (decide (r1474 = 1))) (ans := [.reg (.n :: .n :: []), .reg (nN 8 (.call (vi r1474) :: .n :: .b true :: .n :: []))]) (fr := true) (by kernel_rfl) (an (an (ti (ti trivial)) (an e1477 trivial)) (ti trivial)) (Wv.refl _)
 ·have e1478 := (ti (ti (ti (ti (an (decide_eq_false h1473) (an (decide_eq_false h1473) (an (decide_eq_false h1473) (an (decide_eq_false h1473) (an (decide_eq_false h1473) (an (decide_eq_false h1473) (an (decide_eq_false h1473) (ti trivial))))))))))))
  injection h with h; subst h
  exact fun_ok pm pn Try.func70 (r0 := vb false) (ans := [.reg (.n :: .n :: []), .reg (nN 4 (nS 6 (.b false :: .n :: [])))]) (fr := true) (by kernel_rfl) (an (an (ti (ti trivial)) (an e1478 trivial)) (ti trivial)) (Wv.refl _)
def nfigure_isOfLine (k : Nat) (a0 : SFrac) : Option Bool :=
 (nfigure_isWithin k a0.Den 1 1000).bind fun r1497 => (if r1497 = true then ((nfigure_isWithin k a0.Num (-1000000000) 1000000000).bind fun r1501 => (some r1501)) else (some false))
theorem nfigure_isOfLine_ok (k : Nat) (a0 : SFrac) (r : Bool) (h : nfigure_isOfLine k a0 = some r) : VC Try.prog 71 [VV.ag (c_SFrac a0)] (vb r) := by
 unfold nfigure_isOfLine at h
 obtain ⟨r1497, h1498, h⟩ := bs h
 have e1499 := (nfigure_isWithin_ok k a0.Den 1 1000 _ h1498)
 rcases ifs h with ⟨h1500, h⟩ | ⟨h1500, h⟩
 ·obtain ⟨r1501, h1502, h⟩ := bs h
  have e1503 := (an h1500 (nfigure_isWithin_ok k a0.Num (-1000000000) 1000000000 _ h1502))
  have e1504 := (ti (ti (an e1499 (ti (an (an h1500 trivial) (an (an h1500 trivial) (an e1503 (an h1500 (ti trivial)))))))))
  injection h with h; subst h
  exact fun_ok pm pn Try.func71 (r0 := vb r1501) (ans := [.reg (.n :: .n :: []), .reg (.n :: .n :: .call (vb r1497) :: nN 3 (.call (vb r1501) :: .b true :: .n :: []))]) (fr := true) (by kernel_rfl) (an (an (ti (ti trivial)) (an e1504 trivial)) (ti trivial)) (Wv.refl _)
 ·have e1505 := (ti (ti (an e1499 (ti (an (bool_f h1500) (an (bool_f h1500) (an (bool_f h1500) (an (bool_f h1500) (ti trivial)))))))))
  injection h with h; subst h
  exact fun_ok pm pn Try.func71 (r0 := vb false) (ans := [.reg (.n :: .n :: []), .reg (.n :: .n :: .call (vb r1497) :: .n :: nS 3 (.b false :: .n :: []))]) (fr := true) (by kernel_rfl) (an (an (ti (ti trivial)) (an e1505 trivial)) (ti trivial)) (Wv.refl _)
def nfigure_checkLine (k : Nat) (a0 : SRemovalMap) (a1 : SLowerLine) : Option Int :=
 (nfigure_CheckMap k a0).bind fun r1517 => (if r1517 = 0 then ((nfigure_isLowest k a1.Start).bind fun r1521 => (if r1521 = true then ((nfigure_isLowest k a1.Slope).bind fun r1525 => (if r1525 = true then ((nfigure_isOfLine k a1.Start).bind fun r1530 => (if r1530 = true then ((nfigure_isOfLine k a1.Slope).bind fun r1534 => (if r1534 = true then (some 0) else (some 2))) else (some 2))) else (some 3))) else (some 3))) else (some r1517))
theorem nfigure_checkLine_ok (k : Nat) (a0 : SRemovalMap) (a1 : SLowerLine) (r : Int) (h : nfigure_checkLine k a0 a1 = some r) : VC Try.prog 39 [VV.ag (c_SRemovalMap a0), VV.ag (c_SLowerLine a1)] (vi r) := by
 unfold nfigure_checkLine at h
 obtain ⟨r1517, h1518, h⟩ := bs h
 have e1519 := (ti (an (nfigure_CheckMap_ok k a0 _ h1518) (ti trivial)))
 rcases ifs h with ⟨h1520, h⟩ | ⟨h1520, h⟩
 ·obtain ⟨r1521, h1522, h⟩ := bs h
  have e1523 := (nfigure_isLowest_ok k a1.Start _ h1522)
  rcases ifs h with ⟨h1524, h⟩ | ⟨h1524, h⟩
  ·obtain ⟨r1525, h1526, h⟩ := bs h
   have e1527 := (an (not_f h1524) (nfigure_isLowest_ok k a1.Slope _ h1526))
   have e1528 := (ti (ti (an e1523 (ti (ti (an (an (not_f h1524) trivial) (an (an (not_f h1524) trivial) (an e1527 (an (an (not_f h1524) trivial) (an (not_f h1524) trivial))))))))))
   rcases ifs h with ⟨h1529, h⟩ | ⟨h1529, h⟩
   ·obtain ⟨r1530, h1531, h⟩ := bs h
    have e1532 := (nfigure_isOfLine_ok k a1.Start _ h1531)
    rcases ifs h with ⟨h1533, h⟩ | ⟨h1533, h⟩
    ·obtain ⟨r1534, h1535, h⟩ := bs h
     have e1536 := (an (not_f h1533) (nfigure_isOfLine_ok k a1.Slope _ h1535))
     have e1537 := (ti (ti (an e1532 (ti (ti (an (an (not_f h1533) trivial) (an (an (not_f h1533) trivial) (an e1536 (an (an (not_f h1533) trivial) (an (not_f h1533) trivial))))))))))
     rcases ifs h with ⟨h1538, h⟩ | ⟨h1538, h⟩
     ·injection h with h; subst h
      exact fun_ok pm pn Try.func39 (r0 := vi 0) (ans := [.reg (nN 3 []), .reg (.n :: .call (vi r1517) :: .n :: []), .reg (.n :: .n :: []), .br false, .reg (.n :: .n :: .call (vb r1521) :: nN 4 (.call (vb r1525) :: .n :: .b false :: [])), .br false, .reg (.n :: .n :: .call (vb r1530) :: nN 4 (.call (vb r1534) :: .n :: .b false :: [])), .br false, .reg (.n :: [])]) (fr := true) (by kernel_rfl) (an (an (ti (ti (ti trivial))) (an (an e1519 (an (ti (ti trivial)) (an (not_f (decide_eq_true h1520)) trivial))) (an (an e1528 (an (not_f h1529) trivial)) (an (an e1537 (an (not_f h1538) trivial)) (an (ti trivial) trivial))))) (ti trivial)) (Wv.refl _)
     ·injection h with h; subst h
      exact fun_ok pm pn Try.func39 (r0 := vi 2) (ans := [.reg (nN 3 []), .reg (.n :: .call (vi r1517) :: .n :: []), .reg (.n :: .n :: []), .br false, .reg (.n :: .n :: .call (vb r1521) :: nN 4 (.call (vb r1525) :: .n :: .b false :: [])), .br false, .reg (.n :: .n :: .call (vb r1530) :: nN 4 (.call (vb r1534) :: .n :: .b false :: [])), .br true, .reg (.n :: [])]) (fr := true) (by kernel_rfl) (an (an (ti (ti (ti trivial))) (an (an e1519 (an (ti (ti trivial)) (an (not_f (decide_eq_true h1520)) trivial))) (an (an e1528 (an (not_f h1529) trivial)) (an e1537 (an (not_t (bool_f h1538)) (an (ti trivial) trivial)))))) (ti trivial)) (Wv.refl _)
    ·have e1539 := (ti (ti (an e1532 (ti (ti (an (not_t (bool_f h1533)) (an (not_t (bool_f h1533)) (an (not_t (bool_f h1533)) (an (not_t (bool_f h1533)) (an (not_t (bool_f h1533)) trivial))))))))))
     injection h with h; subst h
     exact fun_ok pm pn Try.func39 (r0 := vi 2) (ans := [.reg (nN 3 []), .reg (.n :: .call (vi r1517) :: .n :: []), .reg (.n :: .n :: []), .br false, .reg (.n :: .n :: .call (vb r1521) :: nN 4 (.call (vb r1525) :: .n :: .b false :: [])), .br false, .reg (.n :: .n :: .call (vb r1530) :: .n :: .n :: nS 4 (.b true :: [])), .br true, .reg (.n :: [])]) (fr := true) (by kernel_rfl) (an (an (ti (ti (ti trivial))) (an (an e1519 (an (ti (ti trivial)) (an (not_f (decide_eq_true h1520)) trivial))) (an (an e1528 (an (not_f h1529) trivial)) (an e1539 (an rt (an (ti trivial) trivial)))))) (ti trivial)) (Wv.refl _)
   ·injection h with h; subst h
    exact fun_ok pm pn Try.func39 (r0 := vi 3) (ans := [.reg (nN 3 []), .reg (.n :: .call (vi r1517) :: .n :: []), .reg (.n :: .n :: []), .br false, .reg (.n :: .n :: .call (vb r1521) :: nN 4 (.call (vb r1525) :: .n :: .b false :: [])), .br true, .reg (.n :: [])]) (fr := true) (by kernel_rfl) (an (an (ti (ti (ti trivial))) (an (an e1519 (an (ti (ti trivial)) (an (not_f (decide_eq_true h1520)) trivial))) (an e1528 (an (not_t (bool_f h1529)) (an (ti trivial) trivial))))) (ti trivial)) (Wv.refl _)
  ·have e1540 := (ti (ti (an e1523 (ti (ti (an (not_t (bool_f h1524)) (an (not_t (bool_f h1524)) (an (not_t (bool_f h1524)) (an (not_t (bool_f h1524)) (an (not_t (bool_f h1524)) trivial))))))))))
   injection h with h; subst h
   exact fun_ok pm pn Try.func39 (r0 := vi 3) (ans := [.reg (nN 3 []), .reg (.n :: .call (vi r1517) :: .n :: []), .reg (.n :: .n :: []), .br false, .reg (.n :: .n :: .call (vb r1521) :: .n :: .n :: nS 4 (.b true :: [])), .br true, .reg (.n :: [])]) (fr := true) (by kernel_rfl) (an (an (ti (ti (ti trivial))) (an (an e1519 (an (ti (ti trivial)) (an (not_f (decide_eq_true h1520)) trivial))) (an e1540 (an rt (an (ti trivial) trivial))))) (ti trivial)) (Wv.refl _)
 ·injection h with h; subst h
  exact fun_ok pm pn Try.func39 (r0 := vi r1517) (ans := [.reg (nN 3 []), .reg (.n :: .call (vi r1517) :: .n :: []), .reg (.n :: .n :: []), .br true, .reg (.n :: .n :: [])]) (fr := true) (by kernel_rfl) (an (an (ti (ti (ti trivial))) (an e1519 (an (ti (ti trivial)) (an (not_t (decide_eq_false h1520)) (an (ti (ti trivial)) trivial))))) (ti trivial)) (Wv.refl _)
theorem eqE1_10 (z0 : Int) (z1 : Int) (z2 : Int) : VV.ag [vi (w64 (z0.tdiv (w64 (0 - z1)))), vi (w64 (z2.tdiv (w64 (0 - z1))))] = VV.ag (c_SFrac (⟨w64 (z0.tdiv (w64 (0 - z1))), w64 (z2.tdiv (w64 (0 - z1)))⟩ : SFrac)) := by first | rfl | (simp only [unfr_vi, map_cons, map_nil, un_i, unfr_c_SFrac]; done) | (simp only [unfr_vi, map_cons, map_nil, un_i, unfr_c_SFrac]; rfl) | (simp only [unfr_vi, map_cons, map_nil, un_i, unfr_c_SFrac, c_SFrac, length_cons, length_nil, length_append]; done)
def nspeculumbase_Lowest (k : Nat) (a0 : Int) (a1 : Int) : Option SFrac :=
 (nspeculumbase_Gcd k a0 a1).bind fun r1659 => (if a1 < 0 then (if (w64 (0 - r1659)) ≠ 0 then (some (⟨w64 (a0.tdiv (w64 (0 - r1659))), w64 (a1.tdiv (w64 (0 - r1659)))⟩ : SFrac)) else none) else (if r1659 ≠ 0 then (some (⟨w64 (a0.tdiv r1659), w64 (a1.tdiv r1659)⟩ : SFrac)) else none))
theorem nspeculumbase_Lowest_ok (k : Nat) (a0 : Int) (a1 : Int) (r : SFrac) (h : nspeculumbase_Lowest k a0 a1 = some r) : VC Try.prog 22 [vi a0, vi a1] (VV.ag (c_SFrac r)) := by
 unfold nspeculumbase_Lowest at h
 obtain ⟨r1659, h1660, h⟩ := bs h
 have e1661 := (ti (ti (an (nspeculumbase_Gcd_ok k a0 a1 _ h1660) (ti trivial))))
 rcases ifs h with ⟨h1662, h⟩ | ⟨h1662, h⟩
 ·obtain ⟨h1663, h⟩ := ifn h
  have e1664 := (ti (ti (an h1663 (ti (ti (an h1663 (ti (ti trivial))))))))
  injection h with h; subst h
  exact fun_ok pm pn Try.func22 (r0 := VV.ag [vi (w64 (a0.tdiv (w64 (0 - r1659)))), vi (w64 (a1.tdiv (w64 (0 - r1659))))]) (ans := [.reg (.n :: []), .reg (.n :: .n :: .call (vi r1659) :: .n :: []), .reg (.n :: .n :: []), .br true, .reg (nN 3 []), .reg (nN 8 [])]) (fr := true) (by kernel_rfl) (an (an (ti trivial) (an e1661 (an (an (ti (ti trivial)) (an (decide_eq_true h1662) (ti (ti (ti trivial))))) (an e1664 trivial)))) (an (ti (ti (ti trivial))) trivial)) (Wv.of_eq (eqE1_10 a0 r1659 a1))
 ·obtain ⟨h1665, h⟩ := ifn h
  have e1666 := (ti (ti (an h1665 (ti (ti (an h1665 (ti (ti trivial))))))))
  injection h with h; subst h
  exact fun_ok pm pn Try.func22 (r0 := VV.ag [vi (w64 (a0.tdiv r1659)), vi (w64 (a1.tdiv r1659))]) (ans := [.reg (.n :: []), .reg (.n :: .n :: .call (vi r1659) :: .n :: []), .reg (.n :: .n :: []), .br false, .reg (nN 8 [])]) (fr := true) (by kernel_rfl) (an (an (ti trivial) (an e1661 (an (an (ti (ti trivial)) (an (decide_eq_false h1662) trivial)) (an e1666 trivial)))) (an (ti (ti (ti trivial))) trivial)) (Wv.of_eq (eqE1_3 a0 r1659 a1))
def nspeculumbase_Floor (k : Nat) (a0 : Int) (a1 : Int) : Option Int :=
 if a1 ≠ 0 then (if (a0.tmod a1) < 0 then (some (w64 ((w64 (a0.tdiv a1)) - 1))) else (some (w64 (a0.tdiv a1)))) else none
theorem nspeculumbase_Floor_ok (k : Nat) (a0 : Int) (a1 : Int) (r : Int) (h : nspeculumbase_Floor k a0 a1 = some r) : VC Try.prog 16 [vi a0, vi a1] (vi r) := by
 unfold nspeculumbase_Floor at h
 obtain ⟨h1669, h⟩ := ifn h
 rcases ifs h with ⟨h1670, h⟩ | ⟨h1670, h⟩
 ·injection h with h; subst h
  exact fun_ok pm pn Try.func16 (r0 := vi (w64 ((w64 (a0.tdiv a1)) - 1))) (ans := [.reg (.n :: []), .reg (nN 4 []), .reg (nN 4 []), .br true, .reg (nN 3 []), .reg (.n :: .n :: [])]) (fr := true) (by kernel_rfl) (an (an (ti trivial) (an (ti (ti (an h1669 (ti trivial)))) (an (an (ti (ti (an h1669 (ti trivial)))) (an (decide_eq_true h1670) (ti (ti (ti trivial))))) (an (ti (ti trivial)) trivial)))) (ti trivial)) (Wv.refl _)
 ·injection h with h; subst h
  exact fun_ok pm pn Try.func16 (r0 := vi (w64 (a0.tdiv a1))) (ans := [.reg (.n :: []), .reg (nN 4 []), .reg (nN 4 []), .br false, .reg (.n :: .n :: [])]) (fr := true) (by kernel_rfl) (an (an (ti trivial) (an (ti (ti (an h1669 (ti trivial)))) (an (an (ti (ti (an h1669 (ti trivial)))) (an (decide_eq_false h1670) trivial)) (an (ti (ti trivial)) trivial)))) (ti trivial)) (Wv.refl _)
def arE1_15 (z0 : SRemovalMap) (z1 : Int) : List Ans := (nN 5 (.v (vi (z0.Weights.getD z1.toNat 0)) :: nN 4 (.v (vi (z0.Q.getD z1.toNat 0)) :: nN 7 (.v (vi (z0.Weights.getD z1.toNat 0)) :: nN 3 []))))
def nspeculumref06_Mean_l0_0_h (a0 : SRemovalMap) (x3 : Int) (x4 : Int) (x5 : Int) : VS := ⟨mkA [(1, VV.pt 0 0), (2, VV.pt 1 0), (3, vi x3), (4, vi x4), (5, vi x5)], [some ⟨true, 1, c_SRemovalMap a0⟩, some ⟨true, 1, [vi 0, vi 0]⟩], .nil⟩
def nspeculumref06_Mean_l0_0_e0 (a0 : SRemovalMap) (r : Int × Int) : VS := ⟨mkA [(2, VV.pt 1 0), (3, vi r.1), (4, vi r.2)], [some ⟨true, 1, c_SRemovalMap a0⟩, some ⟨true, 1, [vi 0, vi 0]⟩], .nil⟩
def nspeculumref06_Mean_l0_0 (k : Nat) (a0 : SRemovalMap) : Nat -> Int -> Int -> Int -> Option (Int × Int)
 | 0, _, _, _ => none
 | fuel + 1, x3, x4, x5 => if x5 < (a0.Q.length : Int) then (if 0 <= x5 /\ x5 < (a0.Weights.length : Int) then (if 0 <= x5 /\ x5 < (a0.Q.length : Int) then (nspeculumref06_Mean_l0_0 k a0 fuel (w64 (x3 + (w64 ((a0.Weights.getD x5.toNat 0) * (a0.Q.getD x5.toNat 0))))) (w64 (x4 + (a0.Weights.getD x5.toNat 0))) (w64 (x5 + 1))) else none) else none) else (some (x3, x4))
theorem nspeculumref06_Mean_l0_0_ok (k : Nat) (a0 : SRemovalMap) : ∀ (fuel : Nat) (x3 : Int) (x4 : Int) (x5 : Int) (r : Int × Int), nspeculumref06_Mean_l0_0 k a0 fuel x3 x4 x5 = some r -> (VLoop none Try.prog (szF Try.f45) (bodyOf Try.f45 0) (nspeculumref06_Mean_l0_0_h a0 x3 x4 x5) (.exit 0) (nspeculumref06_Mean_l0_0_e0 a0 r)) := by
 intro fuel
 induction fuel with
 | zero => intro x3 x4 x5 r h; rw [nspeculumref06_Mean_l0_0.eq_1] at h; cases h
 | succ fuel ih =>
  intro x3 x4 x5 r h
  rw [nspeculumref06_Mean_l0_0.eq_2] at h
  rcases ifs h with ⟨h1712, h⟩ | ⟨h1712, h⟩
  ·obtain ⟨h1713, h⟩ := ifn h
   have e1714 := (show loadL Try.prog 3 (x5.toNat * 1) (List.map vi a0.Weights) = some (vi (a0.Weights.getD x5.toNat 0)) from ld_map ag3 vi a0.Weights 0 h1713 (by omega))
   obtain ⟨h1715, h⟩ := ifn h
   have e1716 := (show loadL Try.prog 3 (x5.toNat * 1) (List.map vi a0.Q) = some (vi (a0.Q.getD x5.toNat 0)) from ld_map ag3 vi a0.Q 0 h1715 (by omega))
   have e1717 := (show loadL Try.prog 3 (x5.toNat * 1) (List.map vi a0.Weights) = some (vi (a0.Weights.getD x5.toNat 0)) from ld_map ag3 vi a0.Weights 0 h1713 (by omega))
   have e1718 := (ti (ti (ti (ti (an h1713 (an e1714 (ti (ti (ti (an h1715 (an e1716 (ti (ti (ti (ti (ti (ti (an h1713 (an e1717 (ti (ti (ti trivial))))))))))))))))))))))
   have h2 := ih _ _ _ _ h
   obtain ⟨q, hv, hq⟩ := pkR (rd := none) (P := Try.prog) (fn := Try.f45) (k := 0) (s := (nspeculumref06_Mean_l0_0_h a0 x3 x4 x5)) (ans := [.reg (nN 5 []), .br true, .reg (arE1_15 a0 x5), .reg (nN 3 [])]) (c := ⟨[(1, none), (2, none), (3, none), (4, none), (5, none)], [none, none], []⟩) (e := .normal) (s1 := (nspeculumref06_Mean_l0_0_h a0 (w64 (x3 + (w64 ((a0.Weights.getD x5.toNat 0) * (a0.Q.getD x5.toNat 0))))) (w64 (x4 + (a0.Weights.getD x5.toNat 0))) (w64 (x5 + 1)))) (an (an (an (ti (ti (ti (ti (ti trivial))))) (an (decide_eq_true h1712) trivial)) (an e1718 (ti (ti (ti trivial))))) (ti trivial)) (by kernel_rfl)
   exact round_next pm pn hv hq h2
  ·injection h with h; subst h
   exact round_stop (c := ⟨[(2, none), (3, none), (4, none)], [none, none], []⟩) (s1 := (nspeculumref06_Mean_l0_0_e0 a0 (x3, x4))) pm pn (ans := [.reg (nN 5 []), .br false]) (by kernel_rfl) (by intro e; cases e) (an (an (ti (ti (ti (ti (ti trivial))))) (an (decide_eq_false h1712) trivial)) (ti trivial))
def nspeculumref06_Mean (k : Nat) (a0 : SRemovalMap) : Option SFrac :=
 (nspeculumref06_Mean_l0_0 k a0 k 0 0 0).bind fun r1720 => ((nspeculumbase_Lowest k r1720.1 r1720.2).bind fun r1722 => (some r1722))
theorem nspeculumref06_Mean_ok (k : Nat) (a0 : SRemovalMap) (r : SFrac) (h : nspeculumref06_Mean k a0 = some r) : VC Try.prog 45 [VV.ag (c_SRemovalMap a0)] (VV.ag (c_SFrac r)) := by
 unfold nspeculumref06_Mean at h
 obtain ⟨r1720, h1719, h⟩ := bs h
 have hph1719 := nspeculumref06_Mean_l0_0_ok k a0 _ _ _ _ _ h1719
 have e1721 := (an (ti trivial) (VRun.loop hph1719))
 obtain ⟨r1722, h1723, h⟩ := bs h
 have e1724 := (nspeculumbase_Lowest_ok k r1720.1 r1720.2 _ h1723)
 injection h with h; subst h
 exact fun_ok pm pn Try.func45 (r0 := VV.ag (c_SFrac r1722)) (ans := [.reg (.n :: .n :: []), .reg (.n :: .n :: []), .reg (.n :: []), .sub ⟨[(1, none), (2, none), (3, none), (4, none), (5, none)], [none, none], []⟩ (.exit 0) (nspeculumref06_Mean_l0_0_e0 a0 r1720), .reg (.n :: .n :: .call (VV.ag (c_SFrac r1722)) :: .n :: [])]) (fr := true) (by kernel_rfl) (an (an (ti (ti trivial)) (an (ti (ti trivial)) (an (an (ti trivial) e1721) (an (ti (ti (an e1724 (ti trivial)))) trivial)))) (an (ti (ti (ti trivial))) trivial)) (Wv.refl _)
def arE1_16 (z0 : SRemovalMap) (z1 : Int) (z2 : SFrac) : List Ans := (nN 4 (.v (vi (z0.Heights.getD z1.toNat 0)) :: nN 17 (.v (vi (z0.Q.getD z1.toNat 0)) :: nN 7 (.call (VV.ag (c_SFrac z2)) :: .n :: []))))
def nspeculumref06_Removal (k : Nat) (a0 : SRemovalMap) (a1 : SLowerLine) (a2 : Int) : Option SFrac :=
 if 0 <= a2 /\ a2 < (a0.Heights.length : Int) then (if 0 <= a2 /\ a2 < (a0.Q.length : Int) then ((nspeculumbase_Lowest k (w64 ((w64 ((w64 ((a0.Heights.getD a2.toNat 0) * (w64 (a1.Start.Den * a1.Slope.Den)))) - (w64 (a1.Start.Num * a1.Slope.Den)))) - (w64 ((w64 (a1.Slope.Num * (a0.Q.getD a2.toNat 0))) * a1.Start.Den)))) (w64 (a1.Start.Den * a1.Slope.Den))).bind fun r1737 => (some r1737)) else none) else none
theorem nspeculumref06_Removal_ok (k : Nat) (a0 : SRemovalMap) (a1 : SLowerLine) (a2 : Int) (r : SFrac) (h : nspeculumref06_Removal k a0 a1 a2 = some r) : VC Try.prog 15 [VV.ag (c_SRemovalMap a0), VV.ag (c_SLowerLine a1), vi a2] (VV.ag (c_SFrac r)) := by
 unfold nspeculumref06_Removal at h
 obtain ⟨h1733, h⟩ := ifn h
 have e1734 := (show loadL Try.prog 3 (a2.toNat * 1) (List.map vi a0.Heights) = some (vi (a0.Heights.getD a2.toNat 0)) from ld_map ag3 vi a0.Heights 0 h1733 (by omega))
 obtain ⟨h1735, h⟩ := ifn h
 have e1736 := (show loadL Try.prog 3 (a2.toNat * 1) (List.map vi a0.Q) = some (vi (a0.Q.getD a2.toNat 0)) from ld_map ag3 vi a0.Q 0 h1735 (by omega))
 obtain ⟨r1737, h1738, h⟩ := bs h
 have e1739 := (nspeculumbase_Lowest_ok k (w64 ((w64 ((w64 ((a0.Heights.getD a2.toNat 0) * (w64 (a1.Start.Den * a1.Slope.Den)))) - (w64 (a1.Start.Num * a1.Slope.Den)))) - (w64 ((w64 (a1.Slope.Num * (a0.Q.getD a2.toNat 0))) * a1.Start.Den)))) (w64 (a1.Start.Den * a1.Slope.Den)) _ h1738)
 have e1740 := (ti (ti (ti (an h1733 (an e1734 (ti (ti (ti (ti (ti (ti (ti (ti (ti (ti (ti (ti (ti (ti (ti (ti (an h1735 (an e1736 (ti (ti (ti (ti (ti (ti (ti (an e1739 (ti trivial))))))))))))))))))))))))))))))))
 injection h with h; subst h
 exact fun_ok pm pn Try.func15 (r0 := VV.ag (c_SFrac r1737)) (ans := [.reg (nN 3 []), .reg (nN 8 []), .reg (arE1_16 a0 a2 r1737)]) (fr := true) (by kernel_rfl) (an (an (ti (ti (ti trivial))) (an (ti (ti (ti (ti (ti (ti (ti (ti trivial)))))))) (an e1740 trivial))) (an (ti (ti (ti trivial))) trivial)) (Wv.refl _)
end Go.Proofs.Ytmjepoalhmdfjaa.Vg

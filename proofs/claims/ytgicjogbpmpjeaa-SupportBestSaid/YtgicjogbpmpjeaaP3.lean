/- Written by a program out of the program: what Go functions do, as plain functions, and their contracts. -/
import Derived.Test.YtgicjogbpmpjeaaP1
namespace Go.Proofs.Ytgicjogbpmpjeaa.Vg
set_option maxRecDepth 100000
set_option maxHeartbeats 4000000
set_option linter.unusedVariables false
set_option linter.unusedSimpArgs false
open Go Go.Proofs.Ytgicjogbpmpjeaa.Ev Go.Proofs.Ytgicjogbpmpjeaa.Vv
structure A24 where
  e0 : Int
  e1 : Int
  deriving Inhabited
def c_A24 (x : A24) : List VV := [vi x.e0, vi x.e1]
theorem len_c_A24 (x : A24) : (c_A24 x).length = 2 := rfl
theorem still_c_A24 (xs : List A24) : (xs.flatMap c_A24).all VV.still = true := all_flat (fun _ => rfl) xs
theorem isC_c_A24 (xs : List A24) : (xs.flatMap c_A24).all VV.isC = true := all_flat (fun _ => rfl) xs
theorem new0_c_A24 (xs : List A24) : (xs.flatMap c_A24).all new0 = true := all_flat (fun _ => rfl) xs
theorem unfr_c_A24 (xs : List A24) : (xs.flatMap c_A24).map unfr = xs.flatMap c_A24 := unfr_flat (fun _ => rfl) xs
theorem eqok23 : EqOK Go.Proofs.Try.prog 23 [some (.i .i64), some (.i .i64)] := eqOK_of (by kernel_rfl) (by kernel_rfl) (eqT_struct Go.Proofs.Try.underlying23 (by kernel_rfl) (by kernel_rfl) (by kernel_rfl) (.cons (by decide +kernel) rfl (eqT_int Go.Proofs.Try.underlying3 (by kernel_rfl) (by kernel_rfl)) (.cons (by decide +kernel) rfl (eqT_int Go.Proofs.Try.underlying3 (by kernel_rfl) (by kernel_rfl)) .nil)))
def nawake (k : Nat) : Option Bool := some true
theorem nawake_ok (k : Nat) (r : Bool) (h : nawake k = some r) : VC Go.Proofs.Try.prog 5 [] (vb r) := by
  injection h with h; subst h
  exact vc_awake
def nspeculumlaw07_SupportBest (k : Nat) (a0 : SFrac) (a1 : A24) (a2 : SGearPair) : Option Bool :=
  (nawake k).bind fun r976 => (if r976 = true then ((nspeculumbase_Within k a1.e1 61 500).bind fun r980 => (if r980 = true then (some true) else ((nsupport_CheckBest k a0 a1.e0 a1.e1 a2).bind fun r986 => ((nspeculumref07_CheckSearch k a0 a1.e0 a1.e1).bind fun r992 => (if r992 = 0 then ((nspeculumref07_CheckBest k a0 a1.e0 a1.e1 a2).bind fun r999 => (if r986.2 = r999.2 then (some ((r986.1.Num : Int) == r999.1.Num && ((r986.1.Den : Int) == r999.1.Den && true))) else (some false))) else (if r986.2 = r992 then (some ((r986.1.Num : Int) == 0 && ((r986.1.Den : Int) == 0 && true))) else (some false))))))) else (some false))
theorem nspeculumlaw07_SupportBest_ok (k : Nat) (a0 : SFrac) (a1 : A24) (a2 : SGearPair) (r : Bool) (h : nspeculumlaw07_SupportBest k a0 a1 a2 = some r) : VC Go.Proofs.Try.prog 4 [VV.ag (c_SFrac a0), VV.ag (c_A24 a1), VV.ag (c_SGearPair a2)] (vb r) := by
 unfold nspeculumlaw07_SupportBest at h
 obtain ⟨r976, h977, h⟩ := bs h
 rcases ifs h with ⟨h978, h⟩ | ⟨h978, h⟩
 ·have e979 := (show (0:Int) ≤ 1 ∧ (1:Int) < ((2 : Nat) : Int) from ⟨by decide, by decide⟩)
  obtain ⟨r980, h981, h⟩ := bs h
  have e982 := (nspeculumbase_Within_ok k a1.e1 61 500 _ h981)
  rcases ifs h with ⟨h983, h⟩ | ⟨h983, h⟩
  ·injection h with h; subst h
   exact fun_ok pm pn Go.Proofs.Try.func4 (r0 := vb true) (ans := [.reg (nN 4 []), .reg (.call (vb r976) :: .n :: []), .br false, .reg (.n :: .n :: .call (vb r980) :: []), .br true, .reg (.n :: [])]) (fr := true) (by kernel_rfl) (an (an (ti (ti (ti (ti trivial)))) (an (an (an (nawake_ok k _ h977) (ti trivial)) (an (not_f h978) trivial)) (an (an e979 (ti (an e982 trivial))) (an h983 (an (ti trivial) trivial))))) (ti trivial)) (Wv.refl _)
  ·have e984 := (show (0:Int) ≤ 0 ∧ (0:Int) < ((2 : Nat) : Int) from ⟨by decide, by decide⟩)
   have e985 := (show (0:Int) ≤ 1 ∧ (1:Int) < ((2 : Nat) : Int) from ⟨by decide, by decide⟩)
   obtain ⟨r986, h987, h⟩ := bs h
   have e988 := (nsupport_CheckBest_ok k a0 a1.e0 a1.e1 a2 _ h987)
   have e989 := (ti (an e984 (ti (an e985 (ti (ti (an e988 (ti (ti (ti (ti (ti (ti trivial)))))))))))))
   have e990 := (show (0:Int) ≤ 0 ∧ (0:Int) < ((2 : Nat) : Int) from ⟨by decide, by decide⟩)
   have e991 := (show (0:Int) ≤ 1 ∧ (1:Int) < ((2 : Nat) : Int) from ⟨by decide, by decide⟩)
   obtain ⟨r992, h993, h⟩ := bs h
   have e994 := (nspeculumref07_CheckSearch_ok k a0 a1.e0 a1.e1 _ h993)
   have e995 := (ti (an e990 (ti (an e991 (ti (an e994 (ti trivial)))))))
   rcases ifs h with ⟨h996, h⟩ | ⟨h996, h⟩
   ·have e997 := (show (0:Int) ≤ 0 ∧ (0:Int) < ((2 : Nat) : Int) from ⟨by decide, by decide⟩)
    have e998 := (show (0:Int) ≤ 1 ∧ (1:Int) < ((2 : Nat) : Int) from ⟨by decide, by decide⟩)
    obtain ⟨r999, h1000, h⟩ := bs h
    have e1001 := (nspeculumref07_CheckBest_ok k a0 a1.e0 a1.e1 a2 _ h1000)
    have e1002 := (ti (an e997 (ti (an e998 (ti (ti (an e1001 (ti (ti (ti (ti (ti (ti trivial)))))))))))))
    rcases ifs h with ⟨h1003, h⟩ | ⟨h1003, h⟩
    ·have e1004 := (an (decide_eq_true h1003) (show List.map kdV [Value.int .i64 r986.1.Num, Value.int .i64 r986.1.Den] = List.map kdV [Value.int .i64 r999.1.Num, Value.int .i64 r999.1.Den] ∧ EqOK Go.Proofs.Try.prog 23 (List.map kdV [Value.int .i64 r999.1.Num, Value.int .i64 r999.1.Den]) from ⟨rfl, eqok23⟩))
     have e1005 := (ti (ti (ti (ti (an (an (decide_eq_true h1003) trivial) (an (an (decide_eq_true h1003) trivial) (an e1004 (an (decide_eq_true h1003) (ti trivial)))))))))
     injection h with h; subst h
     exact fun_ok pm pn Go.Proofs.Try.func4 (r0 := vb ((r986.1.Num : Int) == r999.1.Num && ((r986.1.Den : Int) == r999.1.Den && true))) (ans := [.reg (nN 4 []), .reg (.call (vb r976) :: .n :: []), .br false, .reg (.n :: .n :: .call (vb r980) :: []), .br false, .reg (nN 6 (.call (VV.tu [VV.ag (c_SFrac r986.1), vi r986.2]) :: nN 6 [])), .reg (nN 5 (.call (vi r992) :: .n :: [])), .reg (.n :: .n :: []), .br false, .reg (nN 6 (.call (VV.tu [VV.ag (c_SFrac r999.1), vi r999.2]) :: nN 6 [])), .reg (nN 7 (.b true :: .n :: []))]) (fr := true) (by kernel_rfl) (an (an (ti (ti (ti (ti trivial)))) (an (an (an (nawake_ok k _ h977) (ti trivial)) (an (not_f h978) trivial)) (an (an (an e979 (ti (an e982 trivial))) (an (bool_f h983) trivial)) (an e989 (an (an e995 (an (ti (ti trivial)) (an (not_f (decide_eq_true h996)) trivial))) (an e1002 (an e1005 trivial))))))) (ti trivial)) (Wv.refl _)
    ·have e1006 := (ti (ti (ti (ti (an (decide_eq_false h1003) (an (decide_eq_false h1003) (an (decide_eq_false h1003) (an (decide_eq_false h1003) (ti trivial)))))))))
     injection h with h; subst h
     exact fun_ok pm pn Go.Proofs.Try.func4 (r0 := vb false) (ans := [.reg (nN 4 []), .reg (.call (vb r976) :: .n :: []), .br false, .reg (.n :: .n :: .call (vb r980) :: []), .br false, .reg (nN 6 (.call (VV.tu [VV.ag (c_SFrac r986.1), vi r986.2]) :: nN 6 [])), .reg (nN 5 (.call (vi r992) :: .n :: [])), .reg (.n :: .n :: []), .br false, .reg (nN 6 (.call (VV.tu [VV.ag (c_SFrac r999.1), vi r999.2]) :: nN 6 [])), .reg (nN 4 (nS 3 (.b false :: .n :: [])))]) (fr := true) (by kernel_rfl) (an (an (ti (ti (ti (ti trivial)))) (an (an (an (nawake_ok k _ h977) (ti trivial)) (an (not_f h978) trivial)) (an (an (an e979 (ti (an e982 trivial))) (an (bool_f h983) trivial)) (an e989 (an (an e995 (an (ti (ti trivial)) (an (not_f (decide_eq_true h996)) trivial))) (an e1002 (an e1006 trivial))))))) (ti trivial)) (Wv.refl _)
   ·rcases ifs h with ⟨h1007, h⟩ | ⟨h1007, h⟩
    ·have e1008 := (an (decide_eq_true h1007) (show List.map kdV [Value.int .i64 r986.1.Num, Value.int .i64 r986.1.Den] = List.map kdV [Value.int .i64 0, Value.int .i64 0] ∧ EqOK Go.Proofs.Try.prog 23 (List.map kdV [Value.int .i64 0, Value.int .i64 0]) from ⟨rfl, eqok23⟩))
     have e1009 := (ti (ti (ti (ti (an (an (decide_eq_true h1007) trivial) (an (an (decide_eq_true h1007) trivial) (an e1008 (an (decide_eq_true h1007) (ti trivial)))))))))
     injection h with h; subst h
     exact fun_ok pm pn Go.Proofs.Try.func4 (r0 := vb ((r986.1.Num : Int) == 0 && ((r986.1.Den : Int) == 0 && true))) (ans := [.reg (nN 4 []), .reg (.call (vb r976) :: .n :: []), .br false, .reg (.n :: .n :: .call (vb r980) :: []), .br false, .reg (nN 6 (.call (VV.tu [VV.ag (c_SFrac r986.1), vi r986.2]) :: nN 6 [])), .reg (nN 5 (.call (vi r992) :: .n :: [])), .reg (.n :: .n :: []), .br true, .reg (nN 7 (.b true :: .n :: []))]) (fr := true) (by kernel_rfl) (an (an (ti (ti (ti (ti trivial)))) (an (an (an (nawake_ok k _ h977) (ti trivial)) (an (not_f h978) trivial)) (an (an (an e979 (ti (an e982 trivial))) (an (bool_f h983) trivial)) (an e989 (an e995 (an (ti (ti trivial)) (an (not_t (decide_eq_false h996)) (an e1009 trivial)))))))) (ti trivial)) (Wv.refl _)
    ·have e1010 := (ti (ti (ti (ti (an (decide_eq_false h1007) (an (decide_eq_false h1007) (an (decide_eq_false h1007) (an (decide_eq_false h1007) (ti trivial)))))))))
     injection h with h; subst h
     exact fun_ok pm pn Go.Proofs.Try.func4 (r0 := vb false) (ans := [.reg (nN 4 []), .reg (.call (vb r976) :: .n :: []), .br false, .reg (.n :: .n :: .call (vb r980) :: []), .br false, .reg (nN 6 (.call (VV.tu [VV.ag (c_SFrac r986.1), vi r986.2]) :: nN 6 [])), .reg (nN 5 (.call (vi r992) :: .n :: [])), .reg (.n :: .n :: []), .br true, .reg (nN 4 (nS 3 (.b false :: .n :: [])))]) (fr := true) (by kernel_rfl) (an (an (ti (ti (ti (ti trivial)))) (an (an (an (nawake_ok k _ h977) (ti trivial)) (an (not_f h978) trivial)) (an (an (an e979 (ti (an e982 trivial))) (an (bool_f h983) trivial)) (an e989 (an e995 (an (ti (ti trivial)) (an (not_t (decide_eq_false h996)) (an e1010 trivial)))))))) (ti trivial)) (Wv.refl _)
 ·injection h with h; subst h
  exact fun_ok pm pn Go.Proofs.Try.func4 (r0 := vb false) (ans := [.reg (nN 4 []), .reg (.call (vb r976) :: .n :: []), .br true, .reg (.n :: [])]) (fr := true) (by kernel_rfl) (an (an (ti (ti (ti (ti trivial)))) (an (an (nawake_ok k _ h977) (ti trivial)) (an (not_t (bool_f h978)) (an (ti trivial) trivial)))) (ti trivial)) (Wv.refl _)
end Go.Proofs.Ytgicjogbpmpjeaa.Vg

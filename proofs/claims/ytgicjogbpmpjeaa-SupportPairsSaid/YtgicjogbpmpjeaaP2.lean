/- Written by a program out of the program: what Go functions do, as plain functions, and their contracts. -/
import Derived.Test.YtgicjogbpmpjeaaP1
namespace Go.Proofs.Ytgicjogbpmpjeaa.Vg
set_option maxRecDepth 100000
set_option maxHeartbeats 4000000
set_option linter.unusedVariables false
set_option linter.unusedSimpArgs false
open Go Go.Proofs.Ytgicjogbpmpjeaa.Ev Go.Proofs.Ytgicjogbpmpjeaa.Vv
structure A24 where
  e0 : Int
  e1 : Int
  deriving Inhabited
def c_A24 (x : A24) : List VV := [vi x.e0, vi x.e1]
theorem len_c_A24 (x : A24) : (c_A24 x).length = 2 := rfl
theorem still_c_A24 (xs : List A24) : (xs.flatMap c_A24).all VV.still = true := all_flat (fun _ => rfl) xs
theorem isC_c_A24 (xs : List A24) : (xs.flatMap c_A24).all VV.isC = true := all_flat (fun _ => rfl) xs
theorem new0_c_A24 (xs : List A24) : (xs.flatMap c_A24).all new0 = true := all_flat (fun _ => rfl) xs
theorem unfr_c_A24 (xs : List A24) : (xs.flatMap c_A24).map unfr = xs.flatMap c_A24 := unfr_flat (fun _ => rfl) xs
theorem eqok26 : EqOK Go.Proofs.Try.prog 26 [some (.i .i64), some (.i .i64)] := eqOK_of (by kernel_rfl) (by kernel_rfl) (eqT_struct Go.Proofs.Try.underlying26 (by kernel_rfl) (by kernel_rfl) (by kernel_rfl) (.cons (by decide +kernel) rfl (eqT_int Go.Proofs.Try.underlying3 (by kernel_rfl) (by kernel_rfl)) (.cons (by decide +kernel) rfl (eqT_int Go.Proofs.Try.underlying3 (by kernel_rfl) (by kernel_rfl)) .nil)))
def nawake (k : Nat) : Option Bool := some true
theorem nawake_ok (k : Nat) (r : Bool) (h : nawake k = some r) : VC Go.Proofs.Try.prog 5 [] (vb r) := by
  injection h with h; subst h
  exact vc_awake
def nspeculumlaw07_SupportPairs (k : Nat) (a0 : SFrac) (a1 : A24) (a2 : SGearPair) : Option Bool :=
  (nawake k).bind fun r1026 => (if r1026 = true then ((nspeculumbase_Within k a1.e1 61 500).bind fun r1030 => (if r1030 = true then (some true) else ((nsupport_BestPair k a0 a1.e0 a1.e1).bind fun r1036 => ((nspeculumref07_CheckSearch k a0 a1.e0 a1.e1).bind fun r1042 => (if r1042 = 0 then (if r1036.2 = 0 then ((nspeculumref07_BestPair k a0 a1.e0 a1.e1).bind fun r1054 => (if ((r1036.1.Driver : Int) == r1054.Driver && ((r1036.1.Driven : Int) == r1054.Driven && true)) = true then ((nsupport_CheckBest k a0 a1.e0 a1.e1 r1036.1).bind fun r1062 => (if r1062.2 = 0 then ((nspeculumbase_Within k a2.Driver a1.e0 a1.e1).bind fun r1070 => (if r1070 = true then ((nspeculumbase_Within k a2.Driven a1.e0 a1.e1).bind fun r1076 => (if r1076 = true then ((nspeculumref07_Nearer k a0 a2 r1036.1).bind fun r1081 => (some (!r1081))) else (some true))) else (some true))) else (if r1062.2 = 8 then ((nspeculumbase_Within k a2.Driver a1.e0 a1.e1).bind fun r1091 => (if r1091 = true then ((nspeculumbase_Within k a2.Driven a1.e0 a1.e1).bind fun r1097 => (if r1097 = true then ((nspeculumref07_Nearer k a0 a2 r1036.1).bind fun r1102 => (some (!r1102))) else (some true))) else (some true))) else (some false)))) else (some false))) else (some false)) else (if r1036.2 = r1042 then (some ((r1036.1.Driver : Int) == 0 && ((r1036.1.Driven : Int) == 0 && true))) else (some false))))))) else (some false))
theorem nspeculumlaw07_SupportPairs_ok (k : Nat) (a0 : SFrac) (a1 : A24) (a2 : SGearPair) (r : Bool) (h : nspeculumlaw07_SupportPairs k a0 a1 a2 = some r) : VC Go.Proofs.Try.prog 3 [VV.ag (c_SFrac a0), VV.ag (c_A24 a1), VV.ag (c_SGearPair a2)] (vb r) := by
 unfold nspeculumlaw07_SupportPairs at h
 obtain ⟨r1026, h1027, h⟩ := bs h
 rcases ifs h with ⟨h1028, h⟩ | ⟨h1028, h⟩
 ·have e1029 := (show (0:Int) ≤ 1 ∧ (1:Int) < ((2 : Nat) : Int) from ⟨by decide, by decide⟩)
  obtain ⟨r1030, h1031, h⟩ := bs h
  have e1032 := (nspeculumbase_Within_ok k a1.e1 61 500 _ h1031)
  rcases ifs h with ⟨h1033, h⟩ | ⟨h1033, h⟩
  ·injection h with h; subst h
   exact fun_ok pm pn Go.Proofs.Try.func3 (r0 := vb true) (ans := [.reg (nN 4 []), .reg (.call (vb r1026) :: .n :: []), .br false, .reg (.n :: .n :: .call (vb r1030) :: []), .br true, .reg (.n :: [])]) (fr := true) (by kernel_rfl) (an (an (ti (ti (ti (ti trivial)))) (an (an (an (nawake_ok k _ h1027) (ti trivial)) (an (not_f h1028) trivial)) (an (an e1029 (ti (an e1032 trivial))) (an h1033 (an (ti trivial) trivial))))) (ti trivial)) (Wv.refl _)
  ·have e1034 := (show (0:Int) ≤ 0 ∧ (0:Int) < ((2 : Nat) : Int) from ⟨by decide, by decide⟩)
   have e1035 := (show (0:Int) ≤ 1 ∧ (1:Int) < ((2 : Nat) : Int) from ⟨by decide, by decide⟩)
   obtain ⟨r1036, h1037, h⟩ := bs h
   have e1038 := (nsupport_BestPair_ok k a0 a1.e0 a1.e1 _ h1037)
   have e1039 := (ti (an e1034 (ti (an e1035 (ti (an e1038 (ti (ti (ti (ti (ti (ti trivial))))))))))))
   have e1040 := (show (0:Int) ≤ 0 ∧ (0:Int) < ((2 : Nat) : Int) from ⟨by decide, by decide⟩)
   have e1041 := (show (0:Int) ≤ 1 ∧ (1:Int) < ((2 : Nat) : Int) from ⟨by decide, by decide⟩)
   obtain ⟨r1042, h1043, h⟩ := bs h
   have e1044 := (nspeculumref07_CheckSearch_ok k a0 a1.e0 a1.e1 _ h1043)
   have e1045 := (ti (an e1040 (ti (an e1041 (ti (an e1044 (ti trivial)))))))
   rcases ifs h with ⟨h1046, h⟩ | ⟨h1046, h⟩
   ·rcases ifs h with ⟨h1047, h⟩ | ⟨h1047, h⟩
    ·have e1048 := (an (not_f (decide_eq_true h1047)) trivial)
     have e1049 := (an (not_f (decide_eq_true h1047)) trivial)
     have e1050 := (an (not_f (decide_eq_true h1047)) (show (0:Int) ≤ 0 ∧ (0:Int) < ((2 : Nat) : Int) from ⟨by decide, by decide⟩))
     have e1051 := (an (not_f (decide_eq_true h1047)) trivial)
     have e1052 := (an (not_f (decide_eq_true h1047)) (show (0:Int) ≤ 1 ∧ (1:Int) < ((2 : Nat) : Int) from ⟨by decide, by decide⟩))
     have e1053 := (an (not_f (decide_eq_true h1047)) trivial)
     obtain ⟨r1054, h1055, h⟩ := bs h
     have e1056 := (an (not_f (decide_eq_true h1047)) (nspeculumref07_BestPair_ok k a0 a1.e0 a1.e1 _ h1055))
     have e1057 := (an (not_f (decide_eq_true h1047)) (show List.map kdV [Value.int .i64 r1036.1.Driver, Value.int .i64 r1036.1.Driven] = List.map kdV [Value.int .i64 r1054.Driver, Value.int .i64 r1054.Driven] ∧ EqOK Go.Proofs.Try.prog 26 (List.map kdV [Value.int .i64 r1054.Driver, Value.int .i64 r1054.Driven]) from ⟨rfl, eqok26⟩))
     have e1058 := (ti (ti (ti (an e1048 (an e1049 (an e1050 (an e1051 (an e1052 (an e1053 (an e1056 (an e1057 (an (not_f (decide_eq_true h1047)) trivial))))))))))))
     rcases ifs h with ⟨h1059, h⟩ | ⟨h1059, h⟩
     ·have e1060 := (show (0:Int) ≤ 0 ∧ (0:Int) < ((2 : Nat) : Int) from ⟨by decide, by decide⟩)
      have e1061 := (show (0:Int) ≤ 1 ∧ (1:Int) < ((2 : Nat) : Int) from ⟨by decide, by decide⟩)
      obtain ⟨r1062, h1063, h⟩ := bs h
      have e1064 := (nsupport_CheckBest_ok k a0 a1.e0 a1.e1 r1036.1 _ h1063)
      have e1065 := (ti (an e1060 (ti (an e1061 (ti (ti (an e1064 (ti (ti (ti (ti (ti (ti trivial)))))))))))))
      rcases ifs h with ⟨h1066, h⟩ | ⟨h1066, h⟩
      ·have e1067 := (ti (ti (ti (an (not_f (decide_eq_true h1066)) (an (not_f (decide_eq_true h1066)) (an (not_f (decide_eq_true h1066)) trivial))))))
       have e1068 := (show (0:Int) ≤ 0 ∧ (0:Int) < ((2 : Nat) : Int) from ⟨by decide, by decide⟩)
       have e1069 := (show (0:Int) ≤ 1 ∧ (1:Int) < ((2 : Nat) : Int) from ⟨by decide, by decide⟩)
       obtain ⟨r1070, h1071, h⟩ := bs h
       have e1072 := (nspeculumbase_Within_ok k a2.Driver a1.e0 a1.e1 _ h1071)
       rcases ifs h with ⟨h1073, h⟩ | ⟨h1073, h⟩
       ·have e1074 := (an (not_f h1073) (show (0:Int) ≤ 0 ∧ (0:Int) < ((2 : Nat) : Int) from ⟨by decide, by decide⟩))
        have e1075 := (an (not_f h1073) (show (0:Int) ≤ 1 ∧ (1:Int) < ((2 : Nat) : Int) from ⟨by decide, by decide⟩))
        obtain ⟨r1076, h1077, h⟩ := bs h
        have e1078 := (an (not_f h1073) (nspeculumbase_Within_ok k a2.Driven a1.e0 a1.e1 _ h1077))
        have e1079 := (ti (ti (an e1068 (ti (an e1069 (ti (an e1072 (ti (ti (an (an (not_f h1073) trivial) (an (an (not_f h1073) trivial) (an e1074 (an (an (not_f h1073) trivial) (an e1075 (an (an (not_f h1073) trivial) (an e1078 (an (an (not_f h1073) trivial) (an (not_f h1073) trivial))))))))))))))))))
        rcases ifs h with ⟨h1080, h⟩ | ⟨h1080, h⟩
        ·obtain ⟨r1081, h1082, h⟩ := bs h
         have e1083 := (nspeculumref07_Nearer_ok k a0 a2 r1036.1 _ h1082)
         injection h with h; subst h
         exact fun_ok pm pn Go.Proofs.Try.func3 (r0 := vb (!r1081)) (ans := [.reg (nN 4 []), .reg (.call (vb r1026) :: .n :: []), .br false, .reg (.n :: .n :: .call (vb r1030) :: []), .br false, .reg (nN 5 (.call (VV.tu [VV.ag (c_SGearPair r1036.1), vi r1036.2]) :: nN 6 [])), .reg (nN 5 (.call (vi r1042) :: .n :: [])), .reg (.n :: .n :: []), .br false, .reg (nN 9 (.call (VV.ag (c_SGearPair r1054)) :: .n :: .b false :: [])), .br false, .reg (nN 6 (.call (VV.tu [VV.ag (c_SFrac r1062.1), vi r1062.2]) :: nN 6 [])), .reg (nN 3 (.skip :: .skip :: .b false :: [])), .br false, .reg (nN 6 (.call (vb r1070) :: nN 8 (.call (vb r1076) :: .n :: .b false :: []))), .br false, .reg (nN 3 (.call (vb r1081) :: .n :: .n :: []))]) (fr := true) (by kernel_rfl) (an (an (ti (ti (ti (ti trivial)))) (an (an (an (nawake_ok k _ h1027) (ti trivial)) (an (not_f h1028) trivial)) (an (an (an e1029 (ti (an e1032 trivial))) (an (bool_f h1033) trivial)) (an e1039 (an (an e1045 (an (ti (ti trivial)) (an (not_f (decide_eq_true h1046)) trivial))) (an (an e1058 (an (not_f h1059) trivial)) (an e1065 (an (an e1067 (an rf trivial)) (an (an e1079 (an (not_f h1080) trivial)) (an (ti (ti (ti (an e1083 (ti (ti trivial)))))) trivial)))))))))) (ti trivial)) (Wv.refl _)
        ·injection h with h; subst h
         exact fun_ok pm pn Go.Proofs.Try.func3 (r0 := vb true) (ans := [.reg (nN 4 []), .reg (.call (vb r1026) :: .n :: []), .br false, .reg (.n :: .n :: .call (vb r1030) :: []), .br false, .reg (nN 5 (.call (VV.tu [VV.ag (c_SGearPair r1036.1), vi r1036.2]) :: nN 6 [])), .reg (nN 5 (.call (vi r1042) :: .n :: [])), .reg (.n :: .n :: []), .br false, .reg (nN 9 (.call (VV.ag (c_SGearPair r1054)) :: .n :: .b false :: [])), .br false, .reg (nN 6 (.call (VV.tu [VV.ag (c_SFrac r1062.1), vi r1062.2]) :: nN 6 [])), .reg (nN 3 (.skip :: .skip :: .b false :: [])), .br false, .reg (nN 6 (.call (vb r1070) :: nN 8 (.call (vb r1076) :: .n :: .b false :: []))), .br true, .reg (.n :: [])]) (fr := true) (by kernel_rfl) (an (an (ti (ti (ti (ti trivial)))) (an (an (an (nawake_ok k _ h1027) (ti trivial)) (an (not_f h1028) trivial)) (an (an (an e1029 (ti (an e1032 trivial))) (an (bool_f h1033) trivial)) (an e1039 (an (an e1045 (an (ti (ti trivial)) (an (not_f (decide_eq_true h1046)) trivial))) (an (an e1058 (an (not_f h1059) trivial)) (an e1065 (an (an e1067 (an rf trivial)) (an e1079 (an (not_t (bool_f h1080)) (an (ti trivial) trivial))))))))))) (ti trivial)) (Wv.refl _)
       ·have e1084 := (ti (ti (an e1068 (ti (an e1069 (ti (an e1072 (ti (ti (an (not_t (bool_f h1073)) (an (not_t (bool_f h1073)) (an (not_t (bool_f h1073)) (an (not_t (bool_f h1073)) (an (not_t (bool_f h1073)) (an (not_t (bool_f h1073)) (an (not_t (bool_f h1073)) (an (not_t (bool_f h1073)) (an (not_t (bool_f h1073)) trivial))))))))))))))))))
        injection h with h; subst h
        exact fun_ok pm pn Go.Proofs.Try.func3 (r0 := vb true) (ans := [.reg (nN 4 []), .reg (.call (vb r1026) :: .n :: []), .br false, .reg (.n :: .n :: .call (vb r1030) :: []), .br false, .reg (nN 5 (.call (VV.tu [VV.ag (c_SGearPair r1036.1), vi r1036.2]) :: nN 6 [])), .reg (nN 5 (.call (vi r1042) :: .n :: [])), .reg (.n :: .n :: []), .br false, .reg (nN 9 (.call (VV.ag (c_SGearPair r1054)) :: .n :: .b false :: [])), .br false, .reg (nN 6 (.call (VV.tu [VV.ag (c_SFrac r1062.1), vi r1062.2]) :: nN 6 [])), .reg (nN 3 (.skip :: .skip :: .b false :: [])), .br false, .reg (nN 6 (.call (vb r1070) :: .n :: .n :: nS 8 (.b true :: []))), .br true, .reg (.n :: [])]) (fr := true) (by kernel_rfl) (an (an (ti (ti (ti (ti trivial)))) (an (an (an (nawake_ok k _ h1027) (ti trivial)) (an (not_f h1028) trivial)) (an (an (an e1029 (ti (an e1032 trivial))) (an (bool_f h1033) trivial)) (an e1039 (an (an e1045 (an (ti (ti trivial)) (an (not_f (decide_eq_true h1046)) trivial))) (an (an e1058 (an (not_f h1059) trivial)) (an e1065 (an (an e1067 (an rf trivial)) (an e1084 (an rt (an (ti trivial) trivial))))))))))) (ti trivial)) (Wv.refl _)
      ·have e1085 := (an (not_t (decide_eq_false h1066)) trivial)
       have e1086 := (an (not_t (decide_eq_false h1066)) trivial)
       have e1087 := (ti (ti (ti (an e1085 (an e1086 (an (not_t (decide_eq_false h1066)) trivial))))))
       rcases ifs h with ⟨h1088, h⟩ | ⟨h1088, h⟩
       ·have e1089 := (show (0:Int) ≤ 0 ∧ (0:Int) < ((2 : Nat) : Int) from ⟨by decide, by decide⟩)
        have e1090 := (show (0:Int) ≤ 1 ∧ (1:Int) < ((2 : Nat) : Int) from ⟨by decide, by decide⟩)
        obtain ⟨r1091, h1092, h⟩ := bs h
        have e1093 := (nspeculumbase_Within_ok k a2.Driver a1.e0 a1.e1 _ h1092)
        rcases ifs h with ⟨h1094, h⟩ | ⟨h1094, h⟩
        ·have e1095 := (an (not_f h1094) (show (0:Int) ≤ 0 ∧ (0:Int) < ((2 : Nat) : Int) from ⟨by decide, by decide⟩))
         have e1096 := (an (not_f h1094) (show (0:Int) ≤ 1 ∧ (1:Int) < ((2 : Nat) : Int) from ⟨by decide, by decide⟩))
         obtain ⟨r1097, h1098, h⟩ := bs h
         have e1099 := (an (not_f h1094) (nspeculumbase_Within_ok k a2.Driven a1.e0 a1.e1 _ h1098))
         have e1100 := (ti (ti (an e1089 (ti (an e1090 (ti (an e1093 (ti (ti (an (an (not_f h1094) trivial) (an (an (not_f h1094) trivial) (an e1095 (an (an (not_f h1094) trivial) (an e1096 (an (an (not_f h1094) trivial) (an e1099 (an (an (not_f h1094) trivial) (an (not_f h1094) trivial))))))))))))))))))
         rcases ifs h with ⟨h1101, h⟩ | ⟨h1101, h⟩
         ·obtain ⟨r1102, h1103, h⟩ := bs h
          have e1104 := (nspeculumref07_Nearer_ok k a0 a2 r1036.1 _ h1103)
          injection h with h; subst h
          exact fun_ok pm pn Go.Proofs.Try.func3 (r0 := vb (!r1102)) (ans := [.reg (nN 4 []), .reg (.call (vb r1026) :: .n :: []), .br false, .reg (.n :: .n :: .call (vb r1030) :: []), .br false, .reg (nN 5 (.call (VV.tu [VV.ag (c_SGearPair r1036.1), vi r1036.2]) :: nN 6 [])), .reg (nN 5 (.call (vi r1042) :: .n :: [])), .reg (.n :: .n :: []), .br false, .reg (nN 9 (.call (VV.ag (c_SGearPair r1054)) :: .n :: .b false :: [])), .br false, .reg (nN 6 (.call (VV.tu [VV.ag (c_SFrac r1062.1), vi r1062.2]) :: nN 6 [])), .reg (nN 5 (.b true :: [])), .br false, .reg (nN 6 (.call (vb r1091) :: nN 8 (.call (vb r1097) :: .n :: .b false :: []))), .br false, .reg (nN 3 (.call (vb r1102) :: .n :: .n :: []))]) (fr := true) (by kernel_rfl) (an (an (ti (ti (ti (ti trivial)))) (an (an (an (nawake_ok k _ h1027) (ti trivial)) (an (not_f h1028) trivial)) (an (an (an e1029 (ti (an e1032 trivial))) (an (bool_f h1033) trivial)) (an e1039 (an (an e1045 (an (ti (ti trivial)) (an (not_f (decide_eq_true h1046)) trivial))) (an (an e1058 (an (not_f h1059) trivial)) (an e1065 (an (an e1087 (an (not_f (decide_eq_true h1088)) trivial)) (an (an e1100 (an (not_f h1101) trivial)) (an (ti (ti (ti (an e1104 (ti (ti trivial)))))) trivial)))))))))) (ti trivial)) (Wv.refl _)
         ·injection h with h; subst h
          exact fun_ok pm pn Go.Proofs.Try.func3 (r0 := vb true) (ans := [.reg (nN 4 []), .reg (.call (vb r1026) :: .n :: []), .br false, .reg (.n :: .n :: .call (vb r1030) :: []), .br false, .reg (nN 5 (.call (VV.tu [VV.ag (c_SGearPair r1036.1), vi r1036.2]) :: nN 6 [])), .reg (nN 5 (.call (vi r1042) :: .n :: [])), .reg (.n :: .n :: []), .br false, .reg (nN 9 (.call (VV.ag (c_SGearPair r1054)) :: .n :: .b false :: [])), .br false, .reg (nN 6 (.call (VV.tu [VV.ag (c_SFrac r1062.1), vi r1062.2]) :: nN 6 [])), .reg (nN 5 (.b true :: [])), .br false, .reg (nN 6 (.call (vb r1091) :: nN 8 (.call (vb r1097) :: .n :: .b false :: []))), .br true, .reg (.n :: [])]) (fr := true) (by kernel_rfl) (an (an (ti (ti (ti (ti trivial)))) (an (an (an (nawake_ok k _ h1027) (ti trivial)) (an (not_f h1028) trivial)) (an (an (an e1029 (ti (an e1032 trivial))) (an (bool_f h1033) trivial)) (an e1039 (an (an e1045 (an (ti (ti trivial)) (an (not_f (decide_eq_true h1046)) trivial))) (an (an e1058 (an (not_f h1059) trivial)) (an e1065 (an (an e1087 (an (not_f (decide_eq_true h1088)) trivial)) (an e1100 (an (not_t (bool_f h1101)) (an (ti trivial) trivial))))))))))) (ti trivial)) (Wv.refl _)
        ·have e1105 := (ti (ti (an e1089 (ti (an e1090 (ti (an e1093 (ti (ti (an (not_t (bool_f h1094)) (an (not_t (bool_f h1094)) (an (not_t (bool_f h1094)) (an (not_t (bool_f h1094)) (an (not_t (bool_f h1094)) (an (not_t (bool_f h1094)) (an (not_t (bool_f h1094)) (an (not_t (bool_f h1094)) (an (not_t (bool_f h1094)) trivial))))))))))))))))))
         injection h with h; subst h
         exact fun_ok pm pn Go.Proofs.Try.func3 (r0 := vb true) (ans := [.reg (nN 4 []), .reg (.call (vb r1026) :: .n :: []), .br false, .reg (.n :: .n :: .call (vb r1030) :: []), .br false, .reg (nN 5 (.call (VV.tu [VV.ag (c_SGearPair r1036.1), vi r1036.2]) :: nN 6 [])), .reg (nN 5 (.call (vi r1042) :: .n :: [])), .reg (.n :: .n :: []), .br false, .reg (nN 9 (.call (VV.ag (c_SGearPair r1054)) :: .n :: .b false :: [])), .br false, .reg (nN 6 (.call (VV.tu [VV.ag (c_SFrac r1062.1), vi r1062.2]) :: nN 6 [])), .reg (nN 5 (.b true :: [])), .br false, .reg (nN 6 (.call (vb r1091) :: .n :: .n :: nS 8 (.b true :: []))), .br true, .reg (.n :: [])]) (fr := true) (by kernel_rfl) (an (an (ti (ti (ti (ti trivial)))) (an (an (an (nawake_ok k _ h1027) (ti trivial)) (an (not_f h1028) trivial)) (an (an (an e1029 (ti (an e1032 trivial))) (an (bool_f h1033) trivial)) (an e1039 (an (an e1045 (an (ti (ti trivial)) (an (not_f (decide_eq_true h1046)) trivial))) (an (an e1058 (an (not_f h1059) trivial)) (an e1065 (an (an e1087 (an (not_f (decide_eq_true h1088)) trivial)) (an e1105 (an rt (an (ti trivial) trivial))))))))))) (ti trivial)) (Wv.refl _)
       ·injection h with h; subst h
        exact fun_ok pm pn Go.Proofs.Try.func3 (r0 := vb false) (ans := [.reg (nN 4 []), .reg (.call (vb r1026) :: .n :: []), .br false, .reg (.n :: .n :: .call (vb r1030) :: []), .br false, .reg (nN 5 (.call (VV.tu [VV.ag (c_SGearPair r1036.1), vi r1036.2]) :: nN 6 [])), .reg (nN 5 (.call (vi r1042) :: .n :: [])), .reg (.n :: .n :: []), .br false, .reg (nN 9 (.call (VV.ag (c_SGearPair r1054)) :: .n :: .b false :: [])), .br false, .reg (nN 6 (.call (VV.tu [VV.ag (c_SFrac r1062.1), vi r1062.2]) :: nN 6 [])), .reg (nN 5 (.b true :: [])), .br true, .reg (.n :: [])]) (fr := true) (by kernel_rfl) (an (an (ti (ti (ti (ti trivial)))) (an (an (an (nawake_ok k _ h1027) (ti trivial)) (an (not_f h1028) trivial)) (an (an (an e1029 (ti (an e1032 trivial))) (an (bool_f h1033) trivial)) (an e1039 (an (an e1045 (an (ti (ti trivial)) (an (not_f (decide_eq_true h1046)) trivial))) (an (an e1058 (an (not_f h1059) trivial)) (an e1065 (an e1087 (an (not_t (decide_eq_false h1088)) (an (ti trivial) trivial)))))))))) (ti trivial)) (Wv.refl _)
     ·injection h with h; subst h
      exact fun_ok pm pn Go.Proofs.Try.func3 (r0 := vb false) (ans := [.reg (nN 4 []), .reg (.call (vb r1026) :: .n :: []), .br false, .reg (.n :: .n :: .call (vb r1030) :: []), .br false, .reg (nN 5 (.call (VV.tu [VV.ag (c_SGearPair r1036.1), vi r1036.2]) :: nN 6 [])), .reg (nN 5 (.call (vi r1042) :: .n :: [])), .reg (.n :: .n :: []), .br false, .reg (nN 9 (.call (VV.ag (c_SGearPair r1054)) :: .n :: .b false :: [])), .br true, .reg (.n :: [])]) (fr := true) (by kernel_rfl) (an (an (ti (ti (ti (ti trivial)))) (an (an (an (nawake_ok k _ h1027) (ti trivial)) (an (not_f h1028) trivial)) (an (an (an e1029 (ti (an e1032 trivial))) (an (bool_f h1033) trivial)) (an e1039 (an (an e1045 (an (ti (ti trivial)) (an (not_f (decide_eq_true h1046)) trivial))) (an e1058 (an (not_t (bool_f h1059)) (an (ti trivial) trivial)))))))) (ti trivial)) (Wv.refl _)
    ·have e1106 := (ti (ti (ti (an (not_t (decide_eq_false h1047)) (an (not_t (decide_eq_false h1047)) (an (not_t (decide_eq_false h1047)) (an (not_t (decide_eq_false h1047)) (an (not_t (decide_eq_false h1047)) (an (not_t (decide_eq_false h1047)) (an (not_t (decide_eq_false h1047)) (an (not_t (decide_eq_false h1047)) (an (not_t (decide_eq_false h1047)) trivial))))))))))))
     injection h with h; subst h
     exact fun_ok pm pn Go.Proofs.Try.func3 (r0 := vb false) (ans := [.reg (nN 4 []), .reg (.call (vb r1026) :: .n :: []), .br false, .reg (.n :: .n :: .call (vb r1030) :: []), .br false, .reg (nN 5 (.call (VV.tu [VV.ag (c_SGearPair r1036.1), vi r1036.2]) :: nN 6 [])), .reg (nN 5 (.call (vi r1042) :: .n :: [])), .reg (.n :: .n :: []), .br false, .reg (nN 3 (nS 8 (.b true :: []))), .br true, .reg (.n :: [])]) (fr := true) (by kernel_rfl) (an (an (ti (ti (ti (ti trivial)))) (an (an (an (nawake_ok k _ h1027) (ti trivial)) (an (not_f h1028) trivial)) (an (an (an e1029 (ti (an e1032 trivial))) (an (bool_f h1033) trivial)) (an e1039 (an (an e1045 (an (ti (ti trivial)) (an (not_f (decide_eq_true h1046)) trivial))) (an e1106 (an rt (an (ti trivial) trivial)))))))) (ti trivial)) (Wv.refl _)
   ·rcases ifs h with ⟨h1107, h⟩ | ⟨h1107, h⟩
    ·have e1108 := (an (decide_eq_true h1107) (show List.map kdV [Value.int .i64 r1036.1.Driver, Value.int .i64 r1036.1.Driven] = List.map kdV [Value.int .i64 0, Value.int .i64 0] ∧ EqOK Go.Proofs.Try.prog 26 (List.map kdV [Value.int .i64 0, Value.int .i64 0]) from ⟨rfl, eqok26⟩))
     have e1109 := (ti (ti (ti (ti (an (an (decide_eq_true h1107) trivial) (an (an (decide_eq_true h1107) trivial) (an e1108 (an (decide_eq_true h1107) (ti trivial)))))))))
     injection h with h; subst h
     exact fun_ok pm pn Go.Proofs.Try.func3 (r0 := vb ((r1036.1.Driver : Int) == 0 && ((r1036.1.Driven : Int) == 0 && true))) (ans := [.reg (nN 4 []), .reg (.call (vb r1026) :: .n :: []), .br false, .reg (.n :: .n :: .call (vb r1030) :: []), .br false, .reg (nN 5 (.call (VV.tu [VV.ag (c_SGearPair r1036.1), vi r1036.2]) :: nN 6 [])), .reg (nN 5 (.call (vi r1042) :: .n :: [])), .reg (.n :: .n :: []), .br true, .reg (nN 7 (.b true :: .n :: []))]) (fr := true) (by kernel_rfl) (an (an (ti (ti (ti (ti trivial)))) (an (an (an (nawake_ok k _ h1027) (ti trivial)) (an (not_f h1028) trivial)) (an (an (an e1029 (ti (an e1032 trivial))) (an (bool_f h1033) trivial)) (an e1039 (an e1045 (an (ti (ti trivial)) (an (not_t (decide_eq_false h1046)) (an e1109 trivial)))))))) (ti trivial)) (Wv.refl _)
    ·have e1110 := (ti (ti (ti (ti (an (decide_eq_false h1107) (an (decide_eq_false h1107) (an (decide_eq_false h1107) (an (decide_eq_false h1107) (ti trivial)))))))))
     injection h with h; subst h
     exact fun_ok pm pn Go.Proofs.Try.func3 (r0 := vb false) (ans := [.reg (nN 4 []), .reg (.call (vb r1026) :: .n :: []), .br false, .reg (.n :: .n :: .call (vb r1030) :: []), .br false, .reg (nN 5 (.call (VV.tu [VV.ag (c_SGearPair r1036.1), vi r1036.2]) :: nN 6 [])), .reg (nN 5 (.call (vi r1042) :: .n :: [])), .reg (.n :: .n :: []), .br true, .reg (nN 4 (nS 3 (.b false :: .n :: [])))]) (fr := true) (by kernel_rfl) (an (an (ti (ti (ti (ti trivial)))) (an (an (an (nawake_ok k _ h1027) (ti trivial)) (an (not_f h1028) trivial)) (an (an (an e1029 (ti (an e1032 trivial))) (an (bool_f h1033) trivial)) (an e1039 (an e1045 (an (ti (ti trivial)) (an (not_t (decide_eq_false h1046)) (an e1110 trivial)))))))) (ti trivial)) (Wv.refl _)
 ·injection h with h; subst h
  exact fun_ok pm pn Go.Proofs.Try.func3 (r0 := vb false) (ans := [.reg (nN 4 []), .reg (.call (vb r1026) :: .n :: []), .br true, .reg (.n :: [])]) (fr := true) (by kernel_rfl) (an (an (ti (ti (ti (ti trivial)))) (an (an (nawake_ok k _ h1027) (ti trivial)) (an (not_t (bool_f h1028)) (an (ti trivial) trivial)))) (ti trivial)) (Wv.refl _)
end Go.Proofs.Ytgicjogbpmpjeaa.Vg

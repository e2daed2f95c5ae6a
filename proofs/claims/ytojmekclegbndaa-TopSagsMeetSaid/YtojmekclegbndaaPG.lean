/- Written by a program out of the program: what Go functions do, as plain functions, and their contracts. -/
import Derived.Test.YtojmekclegbndaaO1
namespace Go.Proofs.Ytojmekclegbndaa.Vg
set_option maxRecDepth 100000
set_option maxHeartbeats 4000000
set_option linter.unusedVariables false
set_option linter.unusedSimpArgs false
open Go Go.Proofs.Ytojmekclegbndaa.Ev Go.Proofs.Ytojmekclegbndaa.Vv
def noptics_isBeyond (k : Nat) (a0 : SConic) (a1 : Int) : Option Bool :=
  (noptics_shape k a0).bind fun r1070 => (some (decide ((w64 ((w64 (r1070.2 * a0.Radius)) * a0.Radius)) < (w64 ((w64 (r1070.1 * a1)) * a1)))))
theorem noptics_isBeyond_ok (k : Nat) (a0 : SConic) (a1 : Int) (r : Bool) (h : noptics_isBeyond k a0 a1 = some r) : VC Go.Proofs.Try.prog 66 [VV.ag (c_SConic a0), vi a1] (vb r) := by
 unfold noptics_isBeyond at h
 obtain ⟨r1070, h1071, h⟩ := bs h
 have e1072 := (ti (an (noptics_shape_ok k a0 _ h1071) (ti (ti (ti (ti (ti trivial)))))))
 have e1073 := (ti (ti (ti (ti (ti (ti (ti (ti (ti (ti (ti (ti (ti (ti trivial))))))))))))))
 injection h with h; subst h
 exact fun_ok pm pn Go.Proofs.Try.func66 (r0 := vb (decide ((w64 ((w64 (r1070.2 * a0.Radius)) * a0.Radius)) < (w64 ((w64 (r1070.1 * a1)) * a1))))) (ans := [.reg (.n :: .n :: []), .reg (.n :: .call (VV.tu [vi r1070.1, vi r1070.2]) :: nN 5 []), .reg (nN 14 [])]) (fr := true) (by kernel_rfl) (an (an (ti (ti trivial)) (an e1072 (an e1073 trivial))) (ti trivial)) (Wv.refl _)
def noptics_checkPlace (k : Nat) (a0 : SConic) (a1 : Int) : Option Int :=
  (noptics_CheckConic k a0).bind fun r1078 => (if r1078 = 0 then ((noptics_isWithin k a1 0 1000000).bind fun r1082 => (if r1082 = true then ((noptics_isBeyond k a0 a1).bind fun r1086 => (if r1086 = true then (some 12) else (some 0))) else (some 2))) else (some r1078))
theorem noptics_checkPlace_ok (k : Nat) (a0 : SConic) (a1 : Int) (r : Int) (h : noptics_checkPlace k a0 a1 = some r) : VC Go.Proofs.Try.prog 43 [VV.ag (c_SConic a0), vi a1] (vi r) := by
 unfold noptics_checkPlace at h
 obtain ⟨r1078, h1079, h⟩ := bs h
 have e1080 := (ti (an (noptics_CheckConic_ok k a0 _ h1079) (ti trivial)))
 rcases ifs h with ⟨h1081, h⟩ | ⟨h1081, h⟩
 ·obtain ⟨r1082, h1083, h⟩ := bs h
  have e1084 := (noptics_isWithin_ok k a1 0 1000000 _ h1083)
  rcases ifs h with ⟨h1085, h⟩ | ⟨h1085, h⟩
  ·obtain ⟨r1086, h1087, h⟩ := bs h
   have e1088 := (ti (ti (an (noptics_isBeyond_ok k a0 a1 _ h1087) trivial)))
   rcases ifs h with ⟨h1089, h⟩ | ⟨h1089, h⟩
   ·injection h with h; subst h
    exact fun_ok pm pn Go.Proofs.Try.func43 (r0 := vi 12) (ans := [.reg (.n :: .n :: []), .reg (.n :: .call (vi r1078) :: .n :: []), .reg (.n :: .n :: []), .br false, .reg (.n :: .call (vb r1082) :: .n :: []), .br false, .reg (.n :: .n :: .call (vb r1086) :: []), .br true, .reg (.n :: [])]) (fr := true) (by kernel_rfl) (an (an (ti (ti trivial)) (an (an e1080 (an (ti (ti trivial)) (an (not_f (decide_eq_true h1081)) trivial))) (an (an (ti (an e1084 (ti trivial))) (an (not_f h1085) trivial)) (an e1088 (an h1089 (an (ti trivial) trivial)))))) (ti trivial)) (Wv.refl _)
   ·injection h with h; subst h
    exact fun_ok pm pn Go.Proofs.Try.func43 (r0 := vi 0) (ans := [.reg (.n :: .n :: []), .reg (.n :: .call (vi r1078) :: .n :: []), .reg (.n :: .n :: []), .br false, .reg (.n :: .call (vb r1082) :: .n :: []), .br false, .reg (.n :: .n :: .call (vb r1086) :: []), .br false, .reg (.n :: [])]) (fr := true) (by kernel_rfl) (an (an (ti (ti trivial)) (an (an e1080 (an (ti (ti trivial)) (an (not_f (decide_eq_true h1081)) trivial))) (an (an (ti (an e1084 (ti trivial))) (an (not_f h1085) trivial)) (an (an e1088 (an (bool_f h1089) trivial)) (an (ti trivial) trivial))))) (ti trivial)) (Wv.refl _)
  ·injection h with h; subst h
   exact fun_ok pm pn Go.Proofs.Try.func43 (r0 := vi 2) (ans := [.reg (.n :: .n :: []), .reg (.n :: .call (vi r1078) :: .n :: []), .reg (.n :: .n :: []), .br false, .reg (.n :: .call (vb r1082) :: .n :: []), .br true, .reg (.n :: [])]) (fr := true) (by kernel_rfl) (an (an (ti (ti trivial)) (an (an e1080 (an (ti (ti trivial)) (an (not_f (decide_eq_true h1081)) trivial))) (an (ti (an e1084 (ti trivial))) (an (not_t (bool_f h1085)) (an (ti trivial) trivial))))) (ti trivial)) (Wv.refl _)
 ·injection h with h; subst h
  exact fun_ok pm pn Go.Proofs.Try.func43 (r0 := vi r1078) (ans := [.reg (.n :: .n :: []), .reg (.n :: .call (vi r1078) :: .n :: []), .reg (.n :: .n :: []), .br true, .reg (.n :: .n :: [])]) (fr := true) (by kernel_rfl) (an (an (ti (ti trivial)) (an e1080 (an (ti (ti trivial)) (an (not_t (decide_eq_false h1081)) (an (ti (ti trivial)) trivial))))) (ti trivial)) (Wv.refl _)
def noptics_down (k : Nat) (a0 : Int) (a1 : Int) : Option Int :=
  if a1 ≠ 0 then (if (a0.tmod a1) < 0 then (some (w64 ((w64 (a0.tdiv a1)) - 1))) else (some (w64 (a0.tdiv a1)))) else none
theorem noptics_down_ok (k : Nat) (a0 : Int) (a1 : Int) (r : Int) (h : noptics_down k a0 a1 = some r) : VC Go.Proofs.Try.prog 45 [vi a0, vi a1] (vi r) := by
 unfold noptics_down at h
 obtain ⟨h1100, h⟩ := ifn h
 rcases ifs h with ⟨h1101, h⟩ | ⟨h1101, h⟩
 ·injection h with h; subst h
  exact fun_ok pm pn Go.Proofs.Try.func45 (r0 := vi (w64 ((w64 (a0.tdiv a1)) - 1))) (ans := [.reg (.n :: []), .reg (nN 4 []), .reg (nN 4 []), .br true, .reg (nN 3 []), .reg (.n :: .n :: [])]) (fr := true) (by kernel_rfl) (an (an (ti trivial) (an (ti (ti (an h1100 (ti trivial)))) (an (an (ti (ti (an h1100 (ti trivial)))) (an (decide_eq_true h1101) (ti (ti (ti trivial))))) (an (ti (ti trivial)) trivial)))) (ti trivial)) (Wv.refl _)
 ·injection h with h; subst h
  exact fun_ok pm pn Go.Proofs.Try.func45 (r0 := vi (w64 (a0.tdiv a1))) (ans := [.reg (.n :: []), .reg (nN 4 []), .reg (nN 4 []), .br false, .reg (.n :: .n :: [])]) (fr := true) (by kernel_rfl) (an (an (ti trivial) (an (ti (ti (an h1100 (ti trivial)))) (an (an (ti (ti (an h1100 (ti trivial)))) (an (decide_eq_false h1101) trivial)) (an (ti (ti trivial)) trivial)))) (ti trivial)) (Wv.refl _)
def noptics_up (k : Nat) (a0 : Int) (a1 : Int) : Option Int :=
  (noptics_down k (w64 (0 - a0)) a1).bind fun r1105 => (some (w64 (0 - r1105)))
theorem noptics_up_ok (k : Nat) (a0 : Int) (a1 : Int) (r : Int) (h : noptics_up k a0 a1 = some r) : VC Go.Proofs.Try.prog 46 [vi a0, vi a1] (vi r) := by
 unfold noptics_up at h
 obtain ⟨r1105, h1106, h⟩ := bs h
 have e1107 := (noptics_down_ok k (w64 (0 - a0)) a1 _ h1106)
 injection h with h; subst h
 exact fun_ok pm pn Go.Proofs.Try.func46 (r0 := vi (w64 (0 - r1105))) (ans := [.reg (.n :: []), .reg (nN 3 (.call (vi r1105) :: .n :: .n :: []))]) (fr := true) (by kernel_rfl) (an (an (ti trivial) (an (ti (ti (ti (an e1107 (ti (ti trivial)))))) trivial)) (ti trivial)) (Wv.refl _)
def noptics_rootDown_l0_0_h (a0 : Int) (x3 : Int) (x4 : Int) : VS := ⟨mkA [(0, vi a0), (3, vi x3), (4, vi x4)], [], .nil⟩
def noptics_rootDown_l0_0_e0 (a0 : Int) (r : Int) : VS := ⟨mkA [(3, vi r)], [], .nil⟩
def noptics_rootDown_l0_0 (k : Nat) (a0 : Int) : Nat → Int → Int → Option (Int)
  | 0, _, _ => none
  | fuel + 1, x3, x4 => if x4 < x3 then (if x4 ≠ 0 then (noptics_rootDown_l0_0 k a0 fuel x4 (w64 ((w64 (x4 + (w64 (a0.tdiv x4)))).tdiv 2))) else none) else (some x3)
theorem noptics_rootDown_l0_0_ok (k : Nat) (a0 : Int) : ∀ (fuel : Nat) (x3 : Int) (x4 : Int) (r : Int), noptics_rootDown_l0_0 k a0 fuel x3 x4 = some r → (VLoop none Go.Proofs.Try.prog (szF Go.Proofs.Try.f63) (bodyOf Go.Proofs.Try.f63 0) (noptics_rootDown_l0_0_h a0 x3 x4) (.exit 0) (noptics_rootDown_l0_0_e0 a0 r)) := by
 intro fuel
 induction fuel with
 | zero => intro x3 x4 r h; rw [noptics_rootDown_l0_0.eq_1] at h; cases h
 | succ fuel ih =>
  intro x3 x4 r h
  rw [noptics_rootDown_l0_0.eq_2] at h
  rcases ifs h with ⟨h1131, h⟩ | ⟨h1131, h⟩
  ·obtain ⟨h1132, h⟩ := ifn h
   have e1133 := (ti (ti (ti (an h1132 (ti (an (show (2 : Int) ≠ 0 from (by decide)) (ti trivial)))))))
   have h2 := ih _ _ _ h
   obtain ⟨q, hv, hq⟩ := pkR (rd := none) (P := Go.Proofs.Try.prog) (fn := Go.Proofs.Try.f63) (k := 0) (s := (noptics_rootDown_l0_0_h a0 x3 x4)) (ans := [.reg (nN 3 []), .br true, .reg (.n :: .n :: []), .reg (nN 7 [])]) (c := ⟨[(0, none), (3, none), (4, none)], [], []⟩) (e := .normal) (s1 := (noptics_rootDown_l0_0_h a0 x4 (w64 ((w64 (x4 + (w64 (a0.tdiv x4)))).tdiv 2)))) (an (an (an (ti (ti (ti trivial))) (an (decide_eq_true h1131) trivial)) (an (ti (ti trivial)) e1133)) (ti trivial)) (by kernel_rfl)
   exact round_next pm pn hv hq h2
  ·injection h with h; subst h
   exact round_stop (c := ⟨[(3, none)], [], []⟩) (s1 := (noptics_rootDown_l0_0_e0 a0 x3)) pm pn (ans := [.reg (nN 3 []), .br false]) (by kernel_rfl) (by intro e; cases e) (an (an (ti (ti (ti trivial))) (an (decide_eq_false h1131) trivial)) (ti trivial))
def noptics_rootDown (k : Nat) (a0 : Int) : Option Int :=
  (noptics_rootDown_l0_0 k a0 k a0 (w64 ((w64 (a0 + 1)).tdiv 2))).bind fun r1135 => (some r1135)
theorem noptics_rootDown_ok (k : Nat) (a0 : Int) (r : Int) (h : noptics_rootDown k a0 = some r) : VC Go.Proofs.Try.prog 63 [vi a0] (vi r) := by
 unfold noptics_rootDown at h
 have e1124 := (ti (ti (an (show (2 : Int) ≠ 0 from (by decide)) (ti trivial))))
 obtain ⟨r1135, h1134, h⟩ := bs h
 have hph1134 := noptics_rootDown_l0_0_ok k a0 _ _ _ _ h1134
 have e1136 := (an (ti trivial) (VRun.loop hph1134))
 injection h with h; subst h
 exact fun_ok pm pn Go.Proofs.Try.func63 (r0 := vi r1135) (ans := [.reg (.n :: []), .reg (.n :: .n :: []), .reg (nN 4 []), .sub ⟨[(0, none), (3, none), (4, none)], [], []⟩ (.exit 0) (noptics_rootDown_l0_0_e0 a0 r1135), .reg (.n :: .n :: [])]) (fr := true) (by kernel_rfl) (an (an (ti trivial) (an (ti (ti trivial)) (an (an e1124 e1136) (an (ti (ti trivial)) trivial)))) (ti trivial)) (Wv.refl _)
def noptics_rootUp (k : Nat) (a0 : Int) : Option Int :=
  (noptics_rootDown k a0).bind fun r1147 => (if (w64 (r1147 * r1147)) < a0 then (some (w64 (r1147 + 1))) else (some r1147))
theorem noptics_rootUp_ok (k : Nat) (a0 : Int) (r : Int) (h : noptics_rootUp k a0 = some r) : VC Go.Proofs.Try.prog 64 [vi a0] (vi r) := by
 unfold noptics_rootUp at h
 obtain ⟨r1147, h1148, h⟩ := bs h
 have e1149 := (ti (an (noptics_rootDown_ok k a0 _ h1148) (ti trivial)))
 rcases ifs h with ⟨h1150, h⟩ | ⟨h1150, h⟩
 ·injection h with h; subst h
  exact fun_ok pm pn Go.Proofs.Try.func64 (r0 := vi (w64 (r1147 + 1))) (ans := [.reg (.n :: []), .reg (.n :: .call (vi r1147) :: .n :: []), .reg (nN 5 []), .br true, .reg (nN 3 []), .reg (.n :: .n :: [])]) (fr := true) (by kernel_rfl) (an (an (ti trivial) (an e1149 (an (an (ti (ti (ti (ti (ti trivial))))) (an (decide_eq_true h1150) (ti (ti (ti trivial))))) (an (ti (ti trivial)) trivial)))) (ti trivial)) (Wv.refl _)
 ·injection h with h; subst h
  exact fun_ok pm pn Go.Proofs.Try.func64 (r0 := vi r1147) (ans := [.reg (.n :: []), .reg (.n :: .call (vi r1147) :: .n :: []), .reg (nN 5 []), .br false, .reg (.n :: .n :: [])]) (fr := true) (by kernel_rfl) (an (an (ti trivial) (an e1149 (an (an (ti (ti (ti (ti (ti trivial))))) (an (decide_eq_false h1150) trivial)) (an (ti (ti trivial)) trivial)))) (ti trivial)) (Wv.refl _)
def arPG_0 (z0 : Int) (z1 : Int) (z2 : Int) (z3 : Int) : List Ans := (nN 3 (.call (vi z0) :: .n :: .call (vi z1) :: nN 3 (.call (vi z2) :: .n :: .call (vi z3) :: .n :: .n :: [])))
theorem eqPG_0 (z0 : Int) (z1 : Int) : VV.ag [vi z0, vi z1] = VV.ag (c_SRange (⟨z0, z1⟩ : SRange)) := by first | rfl | (simp only [unfr_vi, List.map_cons, List.map_nil, un_i, unfr_c_SRange]; done) | (simp only [unfr_vi, List.map_cons, List.map_nil, un_i, unfr_c_SRange]; rfl) | (simp only [unfr_vi, List.map_cons, List.map_nil, un_i, unfr_c_SRange, c_SRange, List.length_cons, List.length_nil, List.length_append]; done)
def noptics_rootOfRadicand (k : Nat) (a0 : SConic) (a1 : Int) : Option SRange :=
  (noptics_shape k a0).bind fun r1155 => ((noptics_up k (w64 ((w64 ((w64 (10000 * r1155.1)) * a1)) * a1)) r1155.2).bind fun r1159 => ((noptics_rootDown k (w64 ((w64 ((w64 (10000 * a0.Radius)) * a0.Radius)) - r1159))).bind fun r1162 => ((noptics_down k (w64 ((w64 ((w64 (10000 * r1155.1)) * a1)) * a1)) r1155.2).bind fun r1165 => ((noptics_rootUp k (w64 ((w64 ((w64 (10000 * a0.Radius)) * a0.Radius)) - r1165))).bind fun r1168 => (some (⟨r1162, r1168⟩ : SRange))))))
theorem noptics_rootOfRadicand_ok (k : Nat) (a0 : SConic) (a1 : Int) (r : SRange) (h : noptics_rootOfRadicand k a0 a1 = some r) : VC Go.Proofs.Try.prog 44 [VV.ag (c_SConic a0), vi a1] (VV.ag (c_SRange r)) := by
 unfold noptics_rootOfRadicand at h
 obtain ⟨r1155, h1156, h⟩ := bs h
 have e1157 := (ti (an (noptics_shape_ok k a0 _ h1156) (ti (ti (ti (ti (ti trivial)))))))
 have e1158 := (ti (ti (ti (ti (ti (ti (ti (ti (ti (ti (ti (ti (ti (ti trivial))))))))))))))
 obtain ⟨r1159, h1160, h⟩ := bs h
 have e1161 := (noptics_up_ok k (w64 ((w64 ((w64 (10000 * r1155.1)) * a1)) * a1)) r1155.2 _ h1160)
 obtain ⟨r1162, h1163, h⟩ := bs h
 have e1164 := (noptics_rootDown_ok k (w64 ((w64 ((w64 (10000 * a0.Radius)) * a0.Radius)) - r1159)) _ h1163)
 obtain ⟨r1165, h1166, h⟩ := bs h
 have e1167 := (noptics_down_ok k (w64 ((w64 ((w64 (10000 * r1155.1)) * a1)) * a1)) r1155.2 _ h1166)
 obtain ⟨r1168, h1169, h⟩ := bs h
 have e1170 := (noptics_rootUp_ok k (w64 ((w64 ((w64 (10000 * a0.Radius)) * a0.Radius)) - r1165)) _ h1169)
 have e1171 := (ti (ti (ti (an e1161 (ti (an e1164 (ti (ti (ti (an e1167 (ti (an e1170 (ti (ti trivial))))))))))))))
 injection h with h; subst h
 exact fun_ok pm pn Go.Proofs.Try.func44 (r0 := VV.ag [vi r1162, vi r1168]) (ans := [.reg (.n :: .n :: []), .reg (.n :: .call (VV.tu [vi r1155.1, vi r1155.2]) :: nN 5 []), .reg (nN 14 []), .reg (arPG_0 r1159 r1162 r1165 r1168)]) (fr := true) (by kernel_rfl) (an (an (ti (ti trivial)) (an e1157 (an e1158 (an e1171 trivial)))) (an (ti (ti (ti trivial))) trivial)) (Wv.of_eq (eqPG_0 r1162 r1168))
theorem eqPG_1 (z0 : SRange) : VV.ag [vi (w64 (0 - z0.Hi)), vi (w64 (0 - z0.Lo))] = VV.ag (c_SRange (⟨w64 (0 - z0.Hi), w64 (0 - z0.Lo)⟩ : SRange)) := by first | rfl | (simp only [unfr_vi, List.map_cons, List.map_nil, un_i, unfr_c_SRange]; done) | (simp only [unfr_vi, List.map_cons, List.map_nil, un_i, unfr_c_SRange]; rfl) | (simp only [unfr_vi, List.map_cons, List.map_nil, un_i, unfr_c_SRange, c_SRange, List.length_cons, List.length_nil, List.length_append]; done)
def noptics_opposite (k : Nat) (a0 : SRange) : Option SRange :=
  some (⟨w64 (0 - a0.Hi), w64 (0 - a0.Lo)⟩ : SRange)
theorem noptics_opposite_ok (k : Nat) (a0 : SRange) (r : SRange) (h : noptics_opposite k a0 = some r) : VC Go.Proofs.Try.prog 47 [VV.ag (c_SRange a0)] (VV.ag (c_SRange r)) := by
 unfold noptics_opposite at h
 injection h with h; subst h
 exact fun_ok pm pn Go.Proofs.Try.func47 (r0 := VV.ag [vi (w64 (0 - a0.Hi)), vi (w64 (0 - a0.Lo))]) (ans := [.reg (.n :: .n :: []), .reg (nN 8 [])]) (fr := true) (by kernel_rfl) (an (an (ti (ti trivial)) (an (ti (ti (ti (ti (ti (ti (ti (ti trivial)))))))) trivial)) (an (ti (ti (ti trivial))) trivial)) (Wv.of_eq (eqPG_1 a0))
theorem eqPG_2 (z0 : Int) (z1 : Int) : [VV.ag (c_SRange (⟨z0, z1⟩ : SRange))] = [VV.ag [vi z0, vi z1]] := by first | rfl | (simp only [unfr_vi, List.map_cons, List.map_nil, un_i, unfr_c_SRange]; done) | (simp only [unfr_vi, List.map_cons, List.map_nil, un_i, unfr_c_SRange]; rfl) | (simp only [unfr_vi, List.map_cons, List.map_nil, un_i, unfr_c_SRange, c_SRange, List.length_cons, List.length_nil, List.length_append]; done)
theorem eqPG_3 (z0 : Int) (z1 : Int) : VV.tu [VV.ag [vi z0, vi z1], vi 0] = VV.tu [VV.ag (c_SRange (⟨z0, z1⟩ : SRange)), vi 0] := by first | rfl | (simp only [unfr_vi, List.map_cons, List.map_nil, un_i, unfr_c_SRange]; done) | (simp only [unfr_vi, List.map_cons, List.map_nil, un_i, unfr_c_SRange]; rfl) | (simp only [unfr_vi, List.map_cons, List.map_nil, un_i, unfr_c_SRange, c_SRange, List.length_cons, List.length_nil, List.length_append]; done)
theorem eqPG_4 (z0 : Int) : VV.tu [VV.ag [vi 0, vi 0], vi z0] = VV.tu [VV.ag (c_SRange (⟨0, 0⟩ : SRange)), vi z0] := by first | rfl | (simp only [unfr_vi, List.map_cons, List.map_nil, un_i, unfr_c_SRange]; done) | (simp only [unfr_vi, List.map_cons, List.map_nil, un_i, unfr_c_SRange]; rfl) | (simp only [unfr_vi, List.map_cons, List.map_nil, un_i, unfr_c_SRange, c_SRange, List.length_cons, List.length_nil, List.length_append]; done)
def noptics_Sag (k : Nat) (a0 : SConic) (a1 : Int) : Option (SRange × Int) :=
  (noptics_checkPlace k a0 a1).bind fun r1187 => (if r1187 = 0 then ((noptics_rootOfRadicand k a0 a1).bind fun r1191 => ((noptics_down k (w64 ((w64 (100000 * a1)) * a1)) (w64 ((w64 (100 * (maxI a0.Radius (w64 (0 - a0.Radius))))) + r1191.Hi))).bind fun r1195 => ((noptics_up k (w64 ((w64 (100000 * a1)) * a1)) (w64 ((w64 (100 * (maxI a0.Radius (w64 (0 - a0.Radius))))) + r1191.Lo))).bind fun r1198 => (if a0.Radius < 0 then ((noptics_opposite k (⟨r1195, r1198⟩ : SRange)).bind fun r1203 => (some (r1203, 0))) else (some ((⟨r1195, r1198⟩ : SRange), 0)))))) else (some ((⟨0, 0⟩ : SRange), r1187)))
theorem noptics_Sag_ok (k : Nat) (a0 : SConic) (a1 : Int) (r : (SRange × Int)) (h : noptics_Sag k a0 a1 = some r) : VC Go.Proofs.Try.prog 17 [VV.ag (c_SConic a0), vi a1] (VV.tu [VV.ag (c_SRange r.1), vi r.2]) := by
 unfold noptics_Sag at h
 obtain ⟨r1187, h1188, h⟩ := bs h
 have e1189 := (ti (ti (an (noptics_checkPlace_ok k a0 a1 _ h1188) (ti trivial))))
 rcases ifs h with ⟨h1190, h⟩ | ⟨h1190, h⟩
 ·obtain ⟨r1191, h1192, h⟩ := bs h
  have e1193 := (noptics_rootOfRadicand_ok k a0 a1 _ h1192)
  have e1194 := (ti (ti (ti (ti (ti (ti (ti (ti (an e1193 (ti (ti (ti (ti (ti (ti (ti (ti trivial)))))))))))))))))
  obtain ⟨r1195, h1196, h⟩ := bs h
  have e1197 := (noptics_down_ok k (w64 ((w64 (100000 * a1)) * a1)) (w64 ((w64 (100 * (maxI a0.Radius (w64 (0 - a0.Radius))))) + r1191.Hi)) _ h1196)
  obtain ⟨r1198, h1199, h⟩ := bs h
  have e1200 := (noptics_up_ok k (w64 ((w64 (100000 * a1)) * a1)) (w64 ((w64 (100 * (maxI a0.Radius (w64 (0 - a0.Radius))))) + r1191.Lo)) _ h1199)
  have e1201 := (ti (ti (ti (ti (ti (ti (an e1197 (ti (ti (ti (ti (ti (ti (an e1200 (ti (ti (ti trivial)))))))))))))))))
  rcases ifs h with ⟨h1202, h⟩ | ⟨h1202, h⟩
  ·obtain ⟨r1203, h1204, h⟩ := bs h
   have e1205 := (VC.args (noptics_opposite_ok k (⟨r1195, r1198⟩ : SRange) _ h1204) (eqPG_2 r1195 r1198))
   injection h with h; subst h
   exact fun_ok pm pn Go.Proofs.Try.func17 (r0 := VV.tu [VV.ag (c_SRange r1203), vi 0]) (ans := [.reg (nN 3 []), .reg (.n :: .n :: .call (vi r1187) :: .n :: []), .reg (.n :: .n :: []), .br false, .reg (nN 8 (.call (VV.ag (c_SRange r1191)) :: nN 8 [])), .reg (nN 6 (.call (vi r1195) :: nN 6 (.call (vi r1198) :: nN 3 []))), .reg (nN 3 []), .br true, .reg (.n :: .call (VV.ag (c_SRange r1203)) :: .n :: []), .reg (nN 3 [])]) (fr := true) (by kernel_rfl) (an (an (ti (ti (ti trivial))) (an (an e1189 (an (ti (ti trivial)) (an (not_f (decide_eq_true h1190)) trivial))) (an e1194 (an e1201 (an (an (ti (ti (ti trivial))) (an (decide_eq_true h1202) (ti (an e1205 (ti trivial))))) (an (ti (ti (ti trivial))) trivial)))))) (an (ti (ti (ti trivial))) (ti trivial))) (Wv.refl _)
  ·injection h with h; subst h
   exact fun_ok pm pn Go.Proofs.Try.func17 (r0 := VV.tu [VV.ag [vi r1195, vi r1198], vi 0]) (ans := [.reg (nN 3 []), .reg (.n :: .n :: .call (vi r1187) :: .n :: []), .reg (.n :: .n :: []), .br false, .reg (nN 8 (.call (VV.ag (c_SRange r1191)) :: nN 8 [])), .reg (nN 6 (.call (vi r1195) :: nN 6 (.call (vi r1198) :: nN 3 []))), .reg (nN 3 []), .br false, .reg (nN 3 [])]) (fr := true) (by kernel_rfl) (an (an (ti (ti (ti trivial))) (an (an e1189 (an (ti (ti trivial)) (an (not_f (decide_eq_true h1190)) trivial))) (an e1194 (an e1201 (an (an (ti (ti (ti trivial))) (an (decide_eq_false h1202) trivial)) (an (ti (ti (ti trivial))) trivial)))))) (an (ti (ti (ti trivial))) (ti trivial))) (Wv.of_eq (eqPG_3 r1195 r1198))
 ·injection h with h; subst h
  exact fun_ok pm pn Go.Proofs.Try.func17 (r0 := VV.tu [VV.ag [vi 0, vi 0], vi r1187]) (ans := [.reg (nN 3 []), .reg (.n :: .n :: .call (vi r1187) :: .n :: []), .reg (.n :: .n :: []), .br true, .reg (nN 4 [])]) (fr := true) (by kernel_rfl) (an (an (ti (ti (ti trivial))) (an e1189 (an (ti (ti trivial)) (an (not_t (decide_eq_false h1190)) (an (ti (ti (ti (ti trivial)))) trivial))))) (an (ti (ti (ti trivial))) (ti trivial))) (Wv.of_eq (eqPG_4 r1187))
theorem eqPG_5 (z0 : Int) (z1 : SFrac) (z2 : Int) : [VV.ag (c_SConic (⟨z0, z1⟩ : SConic)), vi z2] = [VV.ag [vi z0, vi z1.Num, vi z1.Den], vi z2] := by first | rfl | (simp only [unfr_vi, List.map_cons, List.map_nil, un_i, unfr_c_SConic]; done) | (simp only [unfr_vi, List.map_cons, List.map_nil, un_i, unfr_c_SConic]; rfl) | (simp only [unfr_vi, List.map_cons, List.map_nil, un_i, unfr_c_SConic, c_SConic, List.length_cons, List.length_nil, List.length_append]; done)
def arPG_1 (z0 : SFrac) (z1 : (SRange × Int)) : List Ans := (.n :: .call (VV.ag (c_SFrac z0)) :: .n :: .n :: .call (VV.tu [VV.ag (c_SRange z1.1), vi z1.2]) :: nN 6 [])
def arPG_2 (z0 : SFrac) (z1 : (SRange × Int)) : List Ans := (nN 7 (.call (VV.ag (c_SFrac z0)) :: .call (VV.tu [VV.ag (c_SRange z1.1), vi z1.2]) :: nN 6 []))
def arPG_3 (z0 : Bool) (z1 : Bool) : List Ans := (nN 5 (.b true :: nN 5 (.call (vb z0) :: .b true :: nN 4 (.b true :: nN 5 (.call (vb z1) :: .b true :: nN 9 (.b true :: nN 9 (.b true :: .n :: [])))))))
def arPG_4 (z0 : Bool) (z1 : Bool) : List Ans := (nN 5 (.b true :: nN 5 (.call (vb z0) :: .b true :: nN 4 (.b true :: nN 5 (.call (vb z1) :: .b true :: nN 9 (.b true :: .n :: nS 8 (.b false :: .n :: [])))))))
def arPG_5 (z0 : Bool) (z1 : Bool) : List Ans := (nN 5 (.b true :: nN 5 (.call (vb z0) :: .b true :: nN 4 (.b true :: nN 5 (.call (vb z1) :: .b true :: .n :: nS 8 (.b false :: .n :: nS 8 (.b false :: .n :: [])))))))
def arPG_6 (z0 : Bool) : List Ans := (nN 5 (.b true :: nN 5 (.call (vb z0) :: .b true :: nN 4 (.b true :: .n :: nS 5 (.b false :: .n :: nS 8 (.b false :: .n :: nS 8 (.b false :: .n :: [])))))))
def arPG_7 (z0 : Bool) : List Ans := (nN 5 (.b true :: nN 5 (.call (vb z0) :: .b true :: .n :: nS 3 (.b false :: .n :: nS 5 (.b false :: .n :: nS 8 (.b false :: .n :: nS 8 (.b false :: .n :: [])))))))
def arPG_8  : List Ans := (nN 5 (.b true :: .n :: nS 5 (.b false :: .n :: nS 3 (.b false :: .n :: nS 5 (.b false :: .n :: nS 8 (.b false :: .n :: nS 8 (.b false :: .n :: [])))))))
def arPG_9  : List Ans := (nN 3 (.skip :: .skip :: .b false :: .n :: nS 5 (.b false :: .n :: nS 3 (.b false :: .n :: nS 5 (.b false :: .n :: nS 8 (.b false :: .n :: nS 8 (.b false :: .n :: [])))))))
def nspeculumtop_TopSagsMeet (k : Nat) (a0 : Int) (a1 : Int) : Option Bool :=
  (nspeculumtop_seen k).bind fun r1236 => (if r1236 = true then ((nspeculumbase_Within k a0 1 31000).bind fun r1240 => (if r1240 = true then ((nspeculumbase_Within k a1 0 a0).bind fun r1244 => (if r1244 = true then ((nspeculumtop_whole k 0).bind fun r1249 => ((noptics_Sag k (⟨a0, r1249⟩ : SConic) a1).bind fun r1251 => ((nspeculumtop_whole k (w64 ((w64 (a0 * a0)) - (w64 (a1 * a1))))).bind fun r1255 => ((nnumber_Sqrt k r1255 1000).bind fun r1258 => (if r1251.2 = 0 then (if r1258.2 = 0 then ((nspeculumbase_Within k r1251.1.Lo 0 r1251.1.Hi).bind fun r1263 => (if r1263 = true then (if r1251.1.Hi ≤ 100000000 then ((nspeculumbase_Within k r1258.1.Lo 0 r1258.1.Hi).bind fun r1268 => (if r1268 = true then (if r1251.1.Lo ≤ (w64 ((w64 (1000 * a0)) - r1258.1.Lo)) then (some (decide ((w64 ((w64 (1000 * a0)) - r1258.1.Hi)) ≤ r1251.1.Hi))) else (some false)) else (some false))) else (some false)) else (some false))) else (some false)) else (some false)))))) else (some true))) else (some true))) else (some false))
theorem nspeculumtop_TopSagsMeet_ok (k : Nat) (a0 : Int) (a1 : Int) (r : Bool) (h : nspeculumtop_TopSagsMeet k a0 a1 = some r) : VC Go.Proofs.Try.prog 5 [vi a0, vi a1] (vb r) := by
 unfold nspeculumtop_TopSagsMeet at h
 obtain ⟨r1236, h1237, h⟩ := bs h
 have e1238 := (an (nspeculumtop_seen_ok k _ h1237) (ti trivial))
 rcases ifs h with ⟨h1239, h⟩ | ⟨h1239, h⟩
 ·obtain ⟨r1240, h1241, h⟩ := bs h
  have e1242 := (nspeculumbase_Within_ok k a0 1 31000 _ h1241)
  rcases ifs h with ⟨h1243, h⟩ | ⟨h1243, h⟩
  ·obtain ⟨r1244, h1245, h⟩ := bs h
   have e1246 := (an (not_f h1243) (nspeculumbase_Within_ok k a1 0 a0 _ h1245))
   have e1247 := (ti (an e1242 (ti (ti (an (an (not_f h1243) trivial) (an (an (not_f h1243) trivial) (an e1246 (an (an (not_f h1243) trivial) (an (not_f h1243) trivial)))))))))
   rcases ifs h with ⟨h1248, h⟩ | ⟨h1248, h⟩
   ·obtain ⟨r1249, h1250, h⟩ := bs h
    obtain ⟨r1251, h1252, h⟩ := bs h
    have e1253 := (VC.args (noptics_Sag_ok k (⟨a0, r1249⟩ : SConic) a1 _ h1252) (eqPG_5 a0 r1249 a1))
    have e1254 := (ti (an (nspeculumtop_whole_ok k 0 _ h1250) (ti (ti (an e1253 (ti (ti (ti (ti (ti (ti trivial)))))))))))
    obtain ⟨r1255, h1256, h⟩ := bs h
    have e1257 := (nspeculumtop_whole_ok k (w64 ((w64 (a0 * a0)) - (w64 (a1 * a1)))) _ h1256)
    obtain ⟨r1258, h1259, h⟩ := bs h
    have e1260 := (ti (ti (ti (ti (ti (ti (ti (an e1257 (an (nnumber_Sqrt_ok k r1255 1000 _ h1259) (ti (ti (ti (ti (ti (ti trivial)))))))))))))))
    rcases ifs h with ⟨h1261, h⟩ | ⟨h1261, h⟩
    ·rcases ifs h with ⟨h1262, h⟩ | ⟨h1262, h⟩
     ·obtain ⟨r1263, h1264, h⟩ := bs h
      have e1265 := (an (decide_eq_true h1262) (nspeculumbase_Within_ok k r1251.1.Lo 0 r1251.1.Hi _ h1264))
      rcases ifs h with ⟨h1266, h⟩ | ⟨h1266, h⟩
      ·rcases ifs h with ⟨h1267, h⟩ | ⟨h1267, h⟩
       ·obtain ⟨r1268, h1269, h⟩ := bs h
        have e1270 := (an (decide_eq_true h1267) (nspeculumbase_Within_ok k r1258.1.Lo 0 r1258.1.Hi _ h1269))
        rcases ifs h with ⟨h1271, h⟩ | ⟨h1271, h⟩
        ·rcases ifs h with ⟨h1272, h⟩ | ⟨h1272, h⟩
         ·have e1273 := (ti (ti (ti (an (an (decide_eq_true h1261) trivial) (an (an (decide_eq_true h1261) trivial) (an (decide_eq_true h1261) (ti (an (an (decide_eq_true h1262) trivial) (an (an (decide_eq_true h1262) trivial) (an (an (decide_eq_true h1262) trivial) (an (an (decide_eq_true h1262) trivial) (an e1265 (an (decide_eq_true h1262) (ti (an (an h1266 trivial) (an (an h1266 trivial) (an (an h1266 trivial) (an h1266 (ti (an (an (decide_eq_true h1267) trivial) (an (an (decide_eq_true h1267) trivial) (an (an (decide_eq_true h1267) trivial) (an (an (decide_eq_true h1267) trivial) (an e1270 (an (decide_eq_true h1267) (ti (an (an h1271 trivial) (an (an h1271 trivial) (an (an h1271 trivial) (an (an h1271 trivial) (an (an h1271 trivial) (an (an h1271 trivial) (an (an h1271 trivial) (an (an h1271 trivial) (an h1271 (ti (an (an (decide_eq_true h1272) trivial) (an (an (decide_eq_true h1272) trivial) (an (an (decide_eq_true h1272) trivial) (an (an (decide_eq_true h1272) trivial) (an (an (decide_eq_true h1272) trivial) (an (an (decide_eq_true h1272) trivial) (an (an (decide_eq_true h1272) trivial) (an (an (decide_eq_true h1272) trivial) (an (decide_eq_true h1272) (ti trivial))))))))))))))))))))))))))))))))))))))))))))))
          injection h with h; subst h
          exact fun_ok pm pn Go.Proofs.Try.func5 (r0 := vb (decide ((w64 ((w64 (1000 * a0)) - r1258.1.Hi)) ≤ r1251.1.Hi))) (ans := [.reg (.n :: []), .reg (.call (vb r1236) :: .n :: []), .br false, .reg (.n :: .call (vb r1240) :: nN 4 (.call (vb r1244) :: .n :: .b false :: [])), .br false, .reg (arPG_1 r1249 r1251), .reg (arPG_2 r1255 r1258), .reg (arPG_3 r1263 r1268)]) (fr := true) (by kernel_rfl) (an (an (ti trivial) (an (an e1238 (an (not_f h1239) trivial)) (an (an e1247 (an (not_f h1248) trivial)) (an e1254 (an e1260 (an e1273 trivial)))))) (ti trivial)) (Wv.refl _)
         ·have e1274 := (ti (ti (ti (an (an (decide_eq_true h1261) trivial) (an (an (decide_eq_true h1261) trivial) (an (decide_eq_true h1261) (ti (an (an (decide_eq_true h1262) trivial) (an (an (decide_eq_true h1262) trivial) (an (an (decide_eq_true h1262) trivial) (an (an (decide_eq_true h1262) trivial) (an e1265 (an (decide_eq_true h1262) (ti (an (an h1266 trivial) (an (an h1266 trivial) (an (an h1266 trivial) (an h1266 (ti (an (an (decide_eq_true h1267) trivial) (an (an (decide_eq_true h1267) trivial) (an (an (decide_eq_true h1267) trivial) (an (an (decide_eq_true h1267) trivial) (an e1270 (an (decide_eq_true h1267) (ti (an (an h1271 trivial) (an (an h1271 trivial) (an (an h1271 trivial) (an (an h1271 trivial) (an (an h1271 trivial) (an (an h1271 trivial) (an (an h1271 trivial) (an (an h1271 trivial) (an h1271 (ti (an (decide_eq_false h1272) (an (decide_eq_false h1272) (an (decide_eq_false h1272) (an (decide_eq_false h1272) (an (decide_eq_false h1272) (an (decide_eq_false h1272) (an (decide_eq_false h1272) (an (decide_eq_false h1272) (an (decide_eq_false h1272) (ti trivial))))))))))))))))))))))))))))))))))))))))))))))
          injection h with h; subst h
          exact fun_ok pm pn Go.Proofs.Try.func5 (r0 := vb false) (ans := [.reg (.n :: []), .reg (.call (vb r1236) :: .n :: []), .br false, .reg (.n :: .call (vb r1240) :: nN 4 (.call (vb r1244) :: .n :: .b false :: [])), .br false, .reg (arPG_1 r1249 r1251), .reg (arPG_2 r1255 r1258), .reg (arPG_4 r1263 r1268)]) (fr := true) (by kernel_rfl) (an (an (ti trivial) (an (an e1238 (an (not_f h1239) trivial)) (an (an e1247 (an (not_f h1248) trivial)) (an e1254 (an e1260 (an e1274 trivial)))))) (ti trivial)) (Wv.refl _)
        ·have e1275 := (ti (ti (ti (an (an (decide_eq_true h1261) trivial) (an (an (decide_eq_true h1261) trivial) (an (decide_eq_true h1261) (ti (an (an (decide_eq_true h1262) trivial) (an (an (decide_eq_true h1262) trivial) (an (an (decide_eq_true h1262) trivial) (an (an (decide_eq_true h1262) trivial) (an e1265 (an (decide_eq_true h1262) (ti (an (an h1266 trivial) (an (an h1266 trivial) (an (an h1266 trivial) (an h1266 (ti (an (an (decide_eq_true h1267) trivial) (an (an (decide_eq_true h1267) trivial) (an (an (decide_eq_true h1267) trivial) (an (an (decide_eq_true h1267) trivial) (an e1270 (an (decide_eq_true h1267) (ti (an (bool_f h1271) (an (bool_f h1271) (an (bool_f h1271) (an (bool_f h1271) (an (bool_f h1271) (an (bool_f h1271) (an (bool_f h1271) (an (bool_f h1271) (an (bool_f h1271) (ti (an rf (an rf (an rf (an rf (an rf (an rf (an rf (an rf (an rf (ti trivial))))))))))))))))))))))))))))))))))))))))))))))
         injection h with h; subst h
         exact fun_ok pm pn Go.Proofs.Try.func5 (r0 := vb false) (ans := [.reg (.n :: []), .reg (.call (vb r1236) :: .n :: []), .br false, .reg (.n :: .call (vb r1240) :: nN 4 (.call (vb r1244) :: .n :: .b false :: [])), .br false, .reg (arPG_1 r1249 r1251), .reg (arPG_2 r1255 r1258), .reg (arPG_5 r1263 r1268)]) (fr := true) (by kernel_rfl) (an (an (ti trivial) (an (an e1238 (an (not_f h1239) trivial)) (an (an e1247 (an (not_f h1248) trivial)) (an e1254 (an e1260 (an e1275 trivial)))))) (ti trivial)) (Wv.refl _)
       ·have e1276 := (ti (ti (ti (an (an (decide_eq_true h1261) trivial) (an (an (decide_eq_true h1261) trivial) (an (decide_eq_true h1261) (ti (an (an (decide_eq_true h1262) trivial) (an (an (decide_eq_true h1262) trivial) (an (an (decide_eq_true h1262) trivial) (an (an (decide_eq_true h1262) trivial) (an e1265 (an (decide_eq_true h1262) (ti (an (an h1266 trivial) (an (an h1266 trivial) (an (an h1266 trivial) (an h1266 (ti (an (decide_eq_false h1267) (an (decide_eq_false h1267) (an (decide_eq_false h1267) (an (decide_eq_false h1267) (an (decide_eq_false h1267) (an (decide_eq_false h1267) (ti (an rf (an rf (an rf (an rf (an rf (an rf (an rf (an rf (an rf (ti (an rf (an rf (an rf (an rf (an rf (an rf (an rf (an rf (an rf (ti trivial))))))))))))))))))))))))))))))))))))))))))))))
        injection h with h; subst h
        exact fun_ok pm pn Go.Proofs.Try.func5 (r0 := vb false) (ans := [.reg (.n :: []), .reg (.call (vb r1236) :: .n :: []), .br false, .reg (.n :: .call (vb r1240) :: nN 4 (.call (vb r1244) :: .n :: .b false :: [])), .br false, .reg (arPG_1 r1249 r1251), .reg (arPG_2 r1255 r1258), .reg (arPG_6 r1263)]) (fr := true) (by kernel_rfl) (an (an (ti trivial) (an (an e1238 (an (not_f h1239) trivial)) (an (an e1247 (an (not_f h1248) trivial)) (an e1254 (an e1260 (an e1276 trivial)))))) (ti trivial)) (Wv.refl _)
      ·have e1277 := (ti (ti (ti (an (an (decide_eq_true h1261) trivial) (an (an (decide_eq_true h1261) trivial) (an (decide_eq_true h1261) (ti (an (an (decide_eq_true h1262) trivial) (an (an (decide_eq_true h1262) trivial) (an (an (decide_eq_true h1262) trivial) (an (an (decide_eq_true h1262) trivial) (an e1265 (an (decide_eq_true h1262) (ti (an (bool_f h1266) (an (bool_f h1266) (an (bool_f h1266) (an (bool_f h1266) (ti (an rf (an rf (an rf (an rf (an rf (an rf (ti (an rf (an rf (an rf (an rf (an rf (an rf (an rf (an rf (an rf (ti (an rf (an rf (an rf (an rf (an rf (an rf (an rf (an rf (an rf (ti trivial))))))))))))))))))))))))))))))))))))))))))))))
       injection h with h; subst h
       exact fun_ok pm pn Go.Proofs.Try.func5 (r0 := vb false) (ans := [.reg (.n :: []), .reg (.call (vb r1236) :: .n :: []), .br false, .reg (.n :: .call (vb r1240) :: nN 4 (.call (vb r1244) :: .n :: .b false :: [])), .br false, .reg (arPG_1 r1249 r1251), .reg (arPG_2 r1255 r1258), .reg (arPG_7 r1263)]) (fr := true) (by kernel_rfl) (an (an (ti trivial) (an (an e1238 (an (not_f h1239) trivial)) (an (an e1247 (an (not_f h1248) trivial)) (an e1254 (an e1260 (an e1277 trivial)))))) (ti trivial)) (Wv.refl _)
     ·have e1278 := (ti (ti (ti (an (an (decide_eq_true h1261) trivial) (an (an (decide_eq_true h1261) trivial) (an (decide_eq_true h1261) (ti (an (decide_eq_false h1262) (an (decide_eq_false h1262) (an (decide_eq_false h1262) (an (decide_eq_false h1262) (an (decide_eq_false h1262) (an (decide_eq_false h1262) (ti (an rf (an rf (an rf (an rf (ti (an rf (an rf (an rf (an rf (an rf (an rf (ti (an rf (an rf (an rf (an rf (an rf (an rf (an rf (an rf (an rf (ti (an rf (an rf (an rf (an rf (an rf (an rf (an rf (an rf (an rf (ti trivial))))))))))))))))))))))))))))))))))))))))))))))
      injection h with h; subst h
      exact fun_ok pm pn Go.Proofs.Try.func5 (r0 := vb false) (ans := [.reg (.n :: []), .reg (.call (vb r1236) :: .n :: []), .br false, .reg (.n :: .call (vb r1240) :: nN 4 (.call (vb r1244) :: .n :: .b false :: [])), .br false, .reg (arPG_1 r1249 r1251), .reg (arPG_2 r1255 r1258), .reg arPG_8]) (fr := true) (by kernel_rfl) (an (an (ti trivial) (an (an e1238 (an (not_f h1239) trivial)) (an (an e1247 (an (not_f h1248) trivial)) (an e1254 (an e1260 (an e1278 trivial)))))) (ti trivial)) (Wv.refl _)
    ·have e1279 := (ti (ti (ti (an (decide_eq_false h1261) (an (decide_eq_false h1261) (an (decide_eq_false h1261) (ti (an rf (an rf (an rf (an rf (an rf (an rf (ti (an rf (an rf (an rf (an rf (ti (an rf (an rf (an rf (an rf (an rf (an rf (ti (an rf (an rf (an rf (an rf (an rf (an rf (an rf (an rf (an rf (ti (an rf (an rf (an rf (an rf (an rf (an rf (an rf (an rf (an rf (ti trivial))))))))))))))))))))))))))))))))))))))))))))))
     injection h with h; subst h
     exact fun_ok pm pn Go.Proofs.Try.func5 (r0 := vb false) (ans := [.reg (.n :: []), .reg (.call (vb r1236) :: .n :: []), .br false, .reg (.n :: .call (vb r1240) :: nN 4 (.call (vb r1244) :: .n :: .b false :: [])), .br false, .reg (arPG_1 r1249 r1251), .reg (arPG_2 r1255 r1258), .reg arPG_9]) (fr := true) (by kernel_rfl) (an (an (ti trivial) (an (an e1238 (an (not_f h1239) trivial)) (an (an e1247 (an (not_f h1248) trivial)) (an e1254 (an e1260 (an e1279 trivial)))))) (ti trivial)) (Wv.refl _)
   ·injection h with h; subst h
    exact fun_ok pm pn Go.Proofs.Try.func5 (r0 := vb true) (ans := [.reg (.n :: []), .reg (.call (vb r1236) :: .n :: []), .br false, .reg (.n :: .call (vb r1240) :: nN 4 (.call (vb r1244) :: .n :: .b false :: [])), .br true, .reg (.n :: [])]) (fr := true) (by kernel_rfl) (an (an (ti trivial) (an (an e1238 (an (not_f h1239) trivial)) (an e1247 (an (not_t (bool_f h1248)) (an (ti trivial) trivial))))) (ti trivial)) (Wv.refl _)
  ·have e1280 := (ti (an e1242 (ti (ti (an (not_t (bool_f h1243)) (an (not_t (bool_f h1243)) (an (not_t (bool_f h1243)) (an (not_t (bool_f h1243)) (an (not_t (bool_f h1243)) trivial)))))))))
   injection h with h; subst h
   exact fun_ok pm pn Go.Proofs.Try.func5 (r0 := vb true) (ans := [.reg (.n :: []), .reg (.call (vb r1236) :: .n :: []), .br false, .reg (.n :: .call (vb r1240) :: .n :: .n :: nS 4 (.b true :: [])), .br true, .reg (.n :: [])]) (fr := true) (by kernel_rfl) (an (an (ti trivial) (an (an e1238 (an (not_f h1239) trivial)) (an e1280 (an rt (an (ti trivial) trivial))))) (ti trivial)) (Wv.refl _)
 ·injection h with h; subst h
  exact fun_ok pm pn Go.Proofs.Try.func5 (r0 := vb false) (ans := [.reg (.n :: []), .reg (.call (vb r1236) :: .n :: []), .br true, .reg (.n :: [])]) (fr := true) (by kernel_rfl) (an (an (ti trivial) (an e1238 (an (not_t (bool_f h1239)) (an (ti trivial) trivial)))) (ti trivial)) (Wv.refl _)
end Go.Proofs.Ytojmekclegbndaa.Vg

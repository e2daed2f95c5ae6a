/- Written by a program out of the program: what Go functions do, as plain functions, and their contracts. -/
import Derived.Test.YtbaegoglpijnnaaK4
namespace Go.Proofs.Ytbaegoglpijnnaa.Vg
set_option maxRecDepth 100000
set_option maxHeartbeats 4000000
set_option linter.unusedVariables false
set_option linter.unusedSimpArgs false
open Go Go.Proofs.Ytbaegoglpijnnaa.Ev Go.Proofs.Ytbaegoglpijnnaa.Vv
def v_37 (x : List Int) : VV := VV.tr (List.map vi x) x.length
def f_37 (x : List Int) : VV := VV.fr (List.map vi x) x.length
theorem still_v_37 (xs : List (List Int)) : (xs.map v_37).all VV.still = true := all_map (fun _ => rfl) xs
theorem unfr_v_37 (xs : List (List Int)) : (xs.map v_37).map unfr = xs.map v_37 := unfr_map (fun _ => rfl) xs
theorem still_f_37 (xs : List (List Int)) : (xs.map f_37).all VV.still = true := all_map (fun _ => rfl) xs
theorem unfr_f_37 (xs : List (List Int)) : (xs.map f_37).map unfr = xs.map v_37 := unfr_map (fun _ => rfl) xs
theorem new0_f_37 (xs : List (List Int)) : (xs.map f_37).all new0 = true := all_map (fun _ => rfl) xs
structure SGrindSession where
  Mirror : ByteArray
  Stroke : ByteArray
  Minutes : Int
  deriving Inhabited
def c_SGrindSession (x : SGrindSession) : List VV := [vs x.Mirror, vs x.Stroke, vi x.Minutes]
theorem len_c_SGrindSession (x : SGrindSession) : (c_SGrindSession x).length = 3 := rfl
theorem still_c_SGrindSession (xs : List SGrindSession) : (xs.flatMap c_SGrindSession).all VV.still = true := all_flat (fun _ => rfl) xs
theorem isC_c_SGrindSession (xs : List SGrindSession) : (xs.flatMap c_SGrindSession).all VV.isC = true := all_flat (fun _ => rfl) xs
theorem new0_c_SGrindSession (xs : List SGrindSession) : (xs.flatMap c_SGrindSession).all new0 = true := all_flat (fun _ => rfl) xs
theorem unfr_c_SGrindSession (xs : List SGrindSession) : (xs.flatMap c_SGrindSession).map unfr = xs.flatMap c_SGrindSession := unfr_flat (fun _ => rfl) xs
theorem ag52 : isAggT Go.Proofs.Try.prog 52 = some false := by kernel_rfl
theorem ag67 : isAggT Go.Proofs.Try.prog 67 = some true := by kernel_rfl
theorem sz67 : szOf Go.Proofs.Try.prog 67 = some 3 := by kernel_rfl
theorem ag88 : isAggT Go.Proofs.Try.prog 88 = some false := by kernel_rfl
theorem ag98 : isAggT Go.Proofs.Try.prog 98 = some true := by kernel_rfl
theorem sz98 : szOf Go.Proofs.Try.prog 98 = some 2 := by kernel_rfl
theorem ag109 : isAggT Go.Proofs.Try.prog 109 = some false := by kernel_rfl
def nawake (k : Nat) : Option Bool := some true
theorem nawake_ok (k : Nat) (r : Bool) (h : nawake k = some r) : VC Go.Proofs.Try.prog 8 [] (vb r) := by
  injection h with h; subst h
  exact vc_awake
def arK5_0 (z0 : (List SGrindSession)) (z1 : Int) : List Ans := (nN 4 (.v (vs ((z0.getD z1.toNat default).Mirror)) :: nN 7 (.v (vs ((z0.getD z1.toNat default).Stroke)) :: .n :: .n :: .b false :: [])))
def nspeculumlaw04_Few_l0_0_h (a0 : (List SGrindSession)) (x3 : Int) : VS := ⟨mkA [(0, VV.tr (List.flatMap c_SGrindSession a0) a0.length), (3, vi x3)], [], .nil⟩
def nspeculumlaw04_Few_l0_0_e0 (a0 : (List SGrindSession)) (r : Unit) : VS := ⟨mkA [(2, vb false)], [], .nil⟩
def nspeculumlaw04_Few_l0_0_e1 (a0 : (List SGrindSession)) (r : Unit) : VS := ⟨mkA [(0, VV.tr (List.flatMap c_SGrindSession a0) a0.length)], [], .nil⟩
def nspeculumlaw04_Few_l0_0 (k : Nat) (a0 : (List SGrindSession)) : Nat → Int → Option (Sum Unit Unit)
  | 0, _ => none
  | fuel + 1, x3 => if x3 < (a0.length : Int) then (if 0 ≤ x3 ∧ x3 < (a0.length : Int) then (if 30 < (((a0.getD x3.toNat default).Mirror).size : Int) then (some (.inl ())) else (if 30 < (((a0.getD x3.toNat default).Stroke).size : Int) then (some (.inl ())) else (nspeculumlaw04_Few_l0_0 k a0 fuel (w64 (x3 + 1))))) else none) else (some (.inr ()))
theorem nspeculumlaw04_Few_l0_0_ok (k : Nat) (a0 : (List SGrindSession)) : ∀ (fuel : Nat) (x3 : Int) (r : Sum Unit Unit), nspeculumlaw04_Few_l0_0 k a0 fuel x3 = some r → (match r with | .inl r => VLoop none Go.Proofs.Try.prog (szF Go.Proofs.Try.f24) (bodyOf Go.Proofs.Try.f24 0) (nspeculumlaw04_Few_l0_0_h a0 x3) .ret (nspeculumlaw04_Few_l0_0_e0 a0 r) | .inr r => VLoop none Go.Proofs.Try.prog (szF Go.Proofs.Try.f24) (bodyOf Go.Proofs.Try.f24 0) (nspeculumlaw04_Few_l0_0_h a0 x3) (.exit 0) (nspeculumlaw04_Few_l0_0_e1 a0 r)) := by
 intro fuel
 induction fuel with
 | zero => intro x3 r h; rw [nspeculumlaw04_Few_l0_0.eq_1] at h; cases h
 | succ fuel ih =>
  intro x3 r h
  rw [nspeculumlaw04_Few_l0_0.eq_2] at h
  rcases ifs h with ⟨h2156, h⟩ | ⟨h2156, h⟩
  ·obtain ⟨h2157, h⟩ := ifn h
   have e2158 := (show loadL Go.Proofs.Try.prog 9 (x3.toNat * 3 + 0) (List.flatMap c_SGrindSession a0) = some (vs ((a0.getD x3.toNat default).Mirror)) from (ld_flat ag9 c_SGrindSession 3 0 len_c_SGrindSession (by omega) a0 default h2157 (by omega)).trans rfl)
   rcases ifs h with ⟨h2159, h⟩ | ⟨h2159, h⟩
   ·have e2160 := (ti (ti (an h2157 (ti (an e2158 (ti (ti (ti (an (decide_eq_true h2159) (an (decide_eq_true h2159) (an (decide_eq_true h2159) (an (decide_eq_true h2159) (an (decide_eq_true h2159) (an (decide_eq_true h2159) (an (decide_eq_true h2159) (an (decide_eq_true h2159) trivial))))))))))))))))
    injection h with h; subst h
    exact round_stop (c := ⟨[(2, none)], [], []⟩) (s1 := (nspeculumlaw04_Few_l0_0_e0 a0 ())) pm pn (ans := [.reg (nN 4 []), .br true, .reg (nN 4 (.v (vs ((a0.getD x3.toNat default).Mirror)) :: nN 3 (nS 7 (.b true :: [])))), .br true, .reg (.n :: [])]) (by kernel_rfl) (by intro e; cases e) (an (an (an (ti (ti (ti (ti trivial)))) (an (decide_eq_true h2156) trivial)) (an e2160 (an rt (an (ti trivial) trivial)))) (ti trivial))
   ·have e2161 := (an (decide_eq_false h2159) (show loadL Go.Proofs.Try.prog 9 (x3.toNat * 3 + 1) (List.flatMap c_SGrindSession a0) = some (vs ((a0.getD x3.toNat default).Stroke)) from (ld_flat ag9 c_SGrindSession 3 1 len_c_SGrindSession (by omega) a0 default h2157 (by omega)).trans rfl))
    have e2162 := (ti (ti (an h2157 (ti (an e2158 (ti (ti (ti (an (an (decide_eq_false h2159) trivial) (an (an (decide_eq_false h2159) trivial) (an (an (decide_eq_false h2159) h2157) (an (an (decide_eq_false h2159) trivial) (an e2161 (an (an (decide_eq_false h2159) trivial) (an (an (decide_eq_false h2159) trivial) (an (decide_eq_false h2159) trivial))))))))))))))))
    rcases ifs h with ⟨h2163, h⟩ | ⟨h2163, h⟩
    ·injection h with h; subst h
     exact round_stop (c := ⟨[(2, none)], [], []⟩) (s1 := (nspeculumlaw04_Few_l0_0_e0 a0 ())) pm pn (ans := [.reg (nN 4 []), .br true, .reg (arK5_0 a0 x3), .br true, .reg (.n :: [])]) (by kernel_rfl) (by intro e; cases e) (an (an (an (ti (ti (ti (ti trivial)))) (an (decide_eq_true h2156) trivial)) (an e2162 (an (decide_eq_true h2163) (an (ti trivial) trivial)))) (ti trivial))
    ·have h2 := ih _ _ h
     obtain ⟨q, hv, hq⟩ := pkR (rd := none) (P := Go.Proofs.Try.prog) (fn := Go.Proofs.Try.f24) (k := 0) (s := (nspeculumlaw04_Few_l0_0_h a0 x3)) (ans := [.reg (nN 4 []), .br true, .reg (arK5_0 a0 x3), .br false, .reg (nN 3 [])]) (c := ⟨[(0, none), (3, none)], [], []⟩) (e := .normal) (s1 := (nspeculumlaw04_Few_l0_0_h a0 (w64 (x3 + 1)))) (an (an (an (ti (ti (ti (ti trivial)))) (an (decide_eq_true h2156) trivial)) (an (an e2162 (an (decide_eq_false h2163) trivial)) (ti (ti (ti trivial))))) (ti trivial)) (by kernel_rfl)
     cases r with
     | inl r => exact round_next pm pn hv hq h2
     | inr r =>
      exact round_next pm pn hv hq h2
  ·injection h with h; subst h
   exact round_stop (c := ⟨[(0, none)], [], []⟩) (s1 := (nspeculumlaw04_Few_l0_0_e1 a0 ())) pm pn (ans := [.reg (nN 4 []), .br false]) (by kernel_rfl) (by intro e; cases e) (an (an (ti (ti (ti (ti trivial)))) (an (decide_eq_false h2156) trivial)) (ti trivial))
def nspeculumlaw04_Few (k : Nat) (a0 : (List SGrindSession)) : Option Bool :=
  (nspeculumlaw04_Few_l0_0 k a0 k 0).bind fun r2165 => (match r2165 with | .inl r2166 => (some false) | .inr r2167 => (if (a0.length : Int) ≤ 10 then (some true) else (if 200 < (a0.length : Int) then (some (decide ((a0.length : Int) ≤ 203))) else (some false))))
theorem nspeculumlaw04_Few_ok (k : Nat) (a0 : (List SGrindSession)) (r : Bool) (h : nspeculumlaw04_Few k a0 = some r) : VC Go.Proofs.Try.prog 24 [VV.tr (List.flatMap c_SGrindSession a0) a0.length] (vb r) := by
 unfold nspeculumlaw04_Few at h
 obtain ⟨r2165, h2164, h⟩ := bs h
 have hph2164 := nspeculumlaw04_Few_l0_0_ok k a0 _ _ _ h2164
 cases r2165 with
 | inl r2166 =>
  dsimp only at h
  have e2168 := (an (ti trivial) (VRun.loop hph2164))
  injection h with h; subst h
  exact fun_ok pm pn Go.Proofs.Try.func24 (r0 := vb false) (ans := [.reg (.n :: []), .reg (.n :: []), .sub ⟨[(0, none), (3, none)], [], []⟩ .ret (nspeculumlaw04_Few_l0_0_e0 a0 r2166)]) (fr := true) (by kernel_rfl) (an (an (ti trivial) (an (ti trivial) e2168)) (ti trivial)) (Wv.refl _)
 | inr r2167 =>
  dsimp only at h
  have e2169 := (an (ti trivial) (VRun.loop hph2164))
  rcases ifs h with ⟨h2170, h⟩ | ⟨h2170, h⟩
  ·have e2171 := (ti (ti (ti (ti (an (decide_eq_true h2170) (an (decide_eq_true h2170) (an (decide_eq_true h2170) (an (decide_eq_true h2170) (ti (ti (ti (an (decide_eq_true h2170) (an (decide_eq_true h2170) (ti trivial))))))))))))))
   injection h with h; subst h
   exact fun_ok pm pn Go.Proofs.Try.func24 (r0 := vb true) (ans := [.reg (.n :: []), .reg (.n :: []), .sub ⟨[(0, none), (3, none)], [], []⟩ (.exit 0) (nspeculumlaw04_Few_l0_0_e1 a0 r2167), .reg (nN 4 (nS 8 (.b true :: .n :: [])))]) (fr := true) (by kernel_rfl) (an (an (ti trivial) (an (an (ti trivial) e2169) (an e2171 trivial))) (ti trivial)) (Wv.refl _)
  ·rcases ifs h with ⟨h2172, h⟩ | ⟨h2172, h⟩
   ·have e2173 := (an (decide_eq_false h2170) (decide_eq_true h2172))
    have e2174 := (ti (ti (ti (ti (an (an (decide_eq_false h2170) trivial) (an (an (decide_eq_false h2170) trivial) (an (an (decide_eq_false h2170) trivial) (an (an (decide_eq_false h2170) trivial) (an (an (decide_eq_true h2172) trivial) (an (an (decide_eq_true h2172) trivial) (an (an (decide_eq_true h2172) trivial) (an e2173 (an (decide_eq_false h2170) (ti trivial))))))))))))))
    injection h with h; subst h
    exact fun_ok pm pn Go.Proofs.Try.func24 (r0 := vb (decide ((a0.length : Int) ≤ 203))) (ans := [.reg (.n :: []), .reg (.n :: []), .sub ⟨[(0, none), (3, none)], [], []⟩ (.exit 0) (nspeculumlaw04_Few_l0_0_e1 a0 r2167), .reg (nN 11 (.b true :: .b false :: .n :: []))]) (fr := true) (by kernel_rfl) (an (an (ti trivial) (an (an (ti trivial) e2169) (an e2174 trivial))) (ti trivial)) (Wv.refl _)
   ·have e2175 := (an (decide_eq_false h2170) (decide_eq_false h2172))
    have e2176 := (ti (ti (ti (ti (an (an (decide_eq_false h2170) trivial) (an (an (decide_eq_false h2170) trivial) (an (an (decide_eq_false h2170) trivial) (an (an (decide_eq_false h2170) trivial) (an (decide_eq_false h2172) (an (decide_eq_false h2172) (an (decide_eq_false h2172) (an e2175 (an (decide_eq_false h2170) (ti trivial))))))))))))))
    injection h with h; subst h
    exact fun_ok pm pn Go.Proofs.Try.func24 (r0 := vb false) (ans := [.reg (.n :: []), .reg (.n :: []), .sub ⟨[(0, none), (3, none)], [], []⟩ (.exit 0) (nspeculumlaw04_Few_l0_0_e1 a0 r2167), .reg (nN 8 (nS 3 (.b false :: .b false :: .n :: [])))]) (fr := true) (by kernel_rfl) (an (an (ti trivial) (an (an (ti trivial) e2169) (an e2176 trivial))) (ti trivial)) (Wv.refl _)
def nspeculumlaw04_sessions (k : Nat) (a0 : (List SGrindSession)) : Option (List SGrindSession) :=
  if ([] : List SGrindSession).length + a0.length ≤ 1000000000 then (some (([] : List SGrindSession) ++ a0)) else none
theorem nspeculumlaw04_sessions_ok (k : Nat) (a0 : (List SGrindSession)) (r : (List SGrindSession)) (h : nspeculumlaw04_sessions k a0 = some r) : VC Go.Proofs.Try.prog 27 [VV.tr (List.flatMap c_SGrindSession a0) a0.length] (VV.fw 3 (List.flatMap c_SGrindSession r) r.length) := by
 unfold nspeculumlaw04_sessions at h
 obtain ⟨h2188, h⟩ := ifn h
 have e2189 := (show List.length [] = 0 * 3 ∧ List.length (List.flatMap c_SGrindSession a0) = a0.length * 3 ∧ (0 + a0.length) * 40 ≤ 140737488355328 ∧ 0 + a0.length < 1099511627776 ∧ List.all (List.flatMap c_SGrindSession a0) VV.still = true from ⟨(by rw [show [] = List.flatMap c_SGrindSession ([] : List SGrindSession) from rfl]; rw [flatMap_len len_c_SGrindSession] <;> simp), (by rw [flatMap_len len_c_SGrindSession] <;> simp), (by first | omega | (simp at h2188 ⊢; omega)), (by first | omega | (simp at h2188 ⊢; omega)), (by exact still_c_SGrindSession _)⟩)
 injection h with h; subst h
 exact fun_ok pm pn Go.Proofs.Try.func27 (r0 := VV.fw 3 (List.drop 0 (List.map unfr ([] ++ (List.flatMap c_SGrindSession a0)))) (0 + a0.length)) (ans := [.reg (.n :: []), .reg (nN 4 [])]) (fr := true) (by kernel_rfl) (an (an (ti trivial) (an (ti (ti (an e2189 (ti trivial)))) trivial)) (an (show List.all ([] ++ (List.flatMap c_SGrindSession a0)) new0 = true from (by rw [show [] ++ (List.flatMap c_SGrindSession a0) = List.flatMap c_SGrindSession (([] : List SGrindSession) ++ a0) from (by rw [show [] = List.flatMap c_SGrindSession ([] : List SGrindSession) from rfl]; exact List.flatMap_append.symm)]; exact new0_c_SGrindSession _)) trivial)) (Wv.of_eq (by simp only [show [] ++ (List.flatMap c_SGrindSession a0) = List.flatMap c_SGrindSession (([] : List SGrindSession) ++ a0) from (by rw [show [] = List.flatMap c_SGrindSession ([] : List SGrindSession) from rfl]; exact List.flatMap_append.symm), drop0, unfr_vi, unfr_vb, unfr_vs, List.map_cons, List.map_nil, un_i, un_k, un_b, un_s, un_tr, un_fr, List.length_map, List.length_replicate, List.length_append, List.length_set, List.length_cons, List.length_nil, unfr_c_SStroke, unfr_g_SStroke, unfr_c_SGrindSession]))
def ngrind_validStrokes (k : Nat) (a0 : (List SStroke)) : Option (List SStroke) :=
  some a0
theorem ngrind_validStrokes_ok (k : Nat) (a0 : (List SStroke)) (r : (List SStroke)) (h : ngrind_validStrokes k a0 = some r) : VC Go.Proofs.Try.prog 49 [VV.tr (List.flatMap c_SStroke a0) a0.length] (VV.fn 67 [VV.tp [VV.tr (List.flatMap c_SStroke r) r.length] 0]) := by
 unfold ngrind_validStrokes at h
 injection h with h; subst h
 exact fun_ok pm pn Go.Proofs.Try.func49 (r0 := VV.fn 67 [VV.tp [VV.tr (List.flatMap c_SStroke a0) a0.length] 0]) (ans := [.reg (.n :: .n :: []), .frz 0, .reg (.n :: .n :: [])]) (fr := false) (by kernel_rfl) (an (an (ti (ti trivial)) (an (ti (ti trivial)) trivial)) (ti trivial)) (Wv.refl _)
def ngrind_validSessions (k : Nat) (a0 : (List SStroke)) (a1 : (List SGrindSession)) : Option ((List SStroke) × (List SGrindSession)) :=
  some (a0, a1)
theorem ngrind_validSessions_ok (k : Nat) (a0 : (List SStroke)) (a1 : (List SGrindSession)) (r : ((List SStroke) × (List SGrindSession))) (h : ngrind_validSessions k a0 a1 = some r) : VC Go.Proofs.Try.prog 50 [VV.tr (List.flatMap c_SStroke a0) a0.length, VV.tr (List.flatMap c_SGrindSession a1) a1.length] (VV.fn 69 [VV.tp [VV.tr (List.flatMap c_SStroke r.1) r.1.length] 0, VV.tp [VV.tr (List.flatMap c_SGrindSession r.2) r.2.length] 0]) := by
 unfold ngrind_validSessions at h
 injection h with h; subst h
 exact fun_ok pm pn Go.Proofs.Try.func50 (r0 := VV.fn 69 [VV.tp [VV.tr (List.flatMap c_SStroke a0) a0.length] 0, VV.tp [VV.tr (List.flatMap c_SGrindSession a1) a1.length] 0]) (ans := [.reg (nN 3 []), .frz 0, .frz 1, .reg (.n :: .n :: [])]) (fr := false) (by kernel_rfl) (an (an (ti (ti (ti trivial))) (an (ti (ti trivial)) trivial)) (ti trivial)) (Wv.of_eq rfl)
def arK5_1 (z0 : (List SStroke)) (z1 : (Int × Int)) : List Ans := (.v (VV.tr (List.flatMap c_SStroke z0) z0.length) :: .call (VV.tu [vi z1.1, vi z1.2]) :: nN 5 [])
def ngrind_validStrokes_1 (k : Nat) (q0_0 : (List SStroke)) : Option Int :=
  (ngrind_CheckStrokes k q0_0).bind fun r2207 => (some r2207.2)
theorem ngrind_validStrokes_1_ok (k : Nat) (q0_0 : (List SStroke)) (r : Int) (h : ngrind_validStrokes_1 k q0_0 = some r) : VC Go.Proofs.Try.prog 67 [VV.tp [VV.tr (List.flatMap c_SStroke q0_0) q0_0.length] 0] (vi r) := by
 unfold ngrind_validStrokes_1 at h
 have e2206 := (show loadL Go.Proofs.Try.prog 51 0 [VV.tr (List.flatMap c_SStroke q0_0) q0_0.length] = some (VV.tr (List.flatMap c_SStroke q0_0) q0_0.length) from (ld_one ag51 rfl))
 obtain ⟨r2207, h2208, h⟩ := bs h
 have e2209 := (an e2206 (an (ngrind_CheckStrokes_ok k q0_0 _ h2208) (ti (ti (ti (ti (ti trivial)))))))
 injection h with h; subst h
 exact fun_ok pm pn Go.Proofs.Try.func67 (r0 := vi r2207.2) (ans := [.reg (.n :: []), .reg (arK5_1 q0_0 r2207), .reg (.n :: .n :: [])]) (fr := true) (by kernel_rfl) (an (an (ti trivial) (an e2209 (an (ti (ti trivial)) trivial))) (ti trivial)) (Wv.refl _)
def ngrind_wearByName_l0_0_h (a0 : (List SStroke)) (y0 : List (ByteArray × (List Int))) (x9 : Int) : VS := ⟨mkA [(3, VV.mp 0), (7, VV.tr (List.flatMap c_SStroke a0) a0.length), (8, vi (a0.length : Int)), (9, vi x9)], [some ⟨true, bigX + 1, List.flatMap (mpE v_37) y0⟩], .nil⟩
def ngrind_wearByName_l0_0_e0 (a0 : (List SStroke)) (r : (List (ByteArray × (List Int)))) : VS := ⟨mkA [(3, VV.mp 0)], [some ⟨true, bigX + 1, List.flatMap (mpE v_37) r⟩], .nil⟩
def ngrind_wearByName_l0_0 (k : Nat) (a0 : (List SStroke)) : Nat → (List (ByteArray × (List Int))) → Int → Option ((List (ByteArray × (List Int))))
  | 0, _, _ => none
  | fuel + 1, y0, x9 => if x9 < (a0.length : Int) then (if 0 ≤ x9 ∧ x9 < (a0.length : Int) then (ngrind_wearByName_l0_0 k a0 fuel (mset y0 ((a0.getD x9.toNat default).Name) ((a0.getD x9.toNat default).Wear)) (w64 (x9 + 1))) else none) else (some y0)
theorem ngrind_wearByName_l0_0_ok (k : Nat) (a0 : (List SStroke)) : ∀ (fuel : Nat) (y0 : List (ByteArray × (List Int))) (x9 : Int) (r : (List (ByteArray × (List Int)))), ngrind_wearByName_l0_0 k a0 fuel y0 x9 = some r → (VLoop none Go.Proofs.Try.prog (szF Go.Proofs.Try.f70) (bodyOf Go.Proofs.Try.f70 0) (ngrind_wearByName_l0_0_h a0 y0 x9) (.exit 0) (ngrind_wearByName_l0_0_e0 a0 r)) := by
 intro fuel
 induction fuel with
 | zero => intro y0 x9 r h; rw [ngrind_wearByName_l0_0.eq_1] at h; cases h
 | succ fuel ih =>
  intro y0 x9 r h
  rw [ngrind_wearByName_l0_0.eq_2] at h
  rcases ifs h with ⟨h2240, h⟩ | ⟨h2240, h⟩
  ·obtain ⟨h2241, h⟩ := ifn h
   have e2242 := (show loadL Go.Proofs.Try.prog 98 (x9.toNat * 2) (List.flatMap c_SStroke a0) = some (VV.ag (c_SStroke (a0.getD x9.toNat default))) from ld_whole ag98 c_SStroke 2 sz98 len_c_SStroke a0 default h2241 (by omega))
   have e2243 := (show keysM (kdV (.string ((a0.getD x9.toNat default).Name))) (List.flatMap (mpE v_37) y0) = true from (keysM_mp v_37 ((a0.getD x9.toNat default).Name) y0))
   have h2 := ih _ _ _ h
   obtain ⟨q, hv, hq⟩ := pkR (rd := none) (P := Go.Proofs.Try.prog) (fn := Go.Proofs.Try.f70) (k := 0) (s := (ngrind_wearByName_l0_0_h a0 y0 x9)) (ans := [.reg (.n :: []), .br true, .reg (.n :: .v (VV.ag (c_SStroke (a0.getD x9.toNat default))) :: .n :: .n :: []), .reg (nN 6 []), .reg (.n :: .n :: [])]) (c := ⟨[(3, none), (7, none), (8, none), (9, none)], [some (List.flatMap (mpE v_37) (mset y0 ((a0.getD x9.toNat default).Name) ((a0.getD x9.toNat default).Wear)))], []⟩) (e := .normal) (s1 := (ngrind_wearByName_l0_0_h a0 (mset y0 ((a0.getD x9.toNat default).Name) ((a0.getD x9.toNat default).Wear)) (w64 (x9 + 1)))) (an (an (ti trivial) (an (an (decide_eq_true h2240) trivial) (an (an (an h2241 (an e2242 (ti (ti trivial)))) (ti (ti (ti (ti (ti (an e2243 trivial))))))) (ti (ti trivial))))) (ti (an (show upM (.string ((a0.getD x9.toNat default).Name)) (VV.tr (List.map vi ((a0.getD x9.toNat default).Wear)) (((a0.getD x9.toNat default).Wear).length)) (List.flatMap (mpE v_37) y0) = List.flatMap (mpE v_37) (mset y0 ((a0.getD x9.toNat default).Name) ((a0.getD x9.toNat default).Wear)) from (by exact upM_mp v_37 ((a0.getD x9.toNat default).Name) ((a0.getD x9.toNat default).Wear) y0)) trivial))) (by kernel_rfl)
   exact round_next pm pn hv hq h2
  ·injection h with h; subst h
   exact round_stop (c := ⟨[(3, none)], [none], []⟩) (s1 := (ngrind_wearByName_l0_0_e0 a0 y0)) pm pn (ans := [.reg (.n :: []), .br false]) (by kernel_rfl) (by intro e; cases e) (an (an (ti trivial) (an (decide_eq_false h2240) trivial)) (ti trivial))
def ngrind_wearByName (k : Nat) (a0 : (List SStroke)) : Option (List (ByteArray × (List Int))) :=
  (ngrind_wearByName_l0_0 k a0 k ([] : List (ByteArray × (List Int))) 0).bind fun r2245 => (some r2245)
theorem ngrind_wearByName_ok (k : Nat) (a0 : (List SStroke)) (r : (List (ByteArray × (List Int)))) (h : ngrind_wearByName k a0 = some r) : VC Go.Proofs.Try.prog 70 [VV.tr (List.flatMap c_SStroke a0) a0.length] (VV.mt (List.flatMap (mpE v_37) r)) := by
 unfold ngrind_wearByName at h
 obtain ⟨r2245, h2244, h⟩ := bs h
 have hph2244 := ngrind_wearByName_l0_0_ok k a0 _ _ _ _ h2244
 have e2246 := (an (ti (an (show [] = List.flatMap (mpE v_37) ([] : List (ByteArray × (List Int))) from rfl) trivial)) (VRun.loop hph2244))
 injection h with h; subst h
 exact fun_ok pm pn Go.Proofs.Try.func70 (r0 := VV.mt (List.map unfr1 (List.flatMap (mpE v_37) r2245))) (ans := [.reg (.n :: []), .reg (.n :: .n :: []), .reg (nN 3 []), .sub ⟨[(3, none), (7, none), (8, none), (9, none)], [some (List.flatMap (mpE v_37) ([] : List (ByteArray × (List Int))))], []⟩ (.exit 0) (ngrind_wearByName_l0_0_e0 a0 r2245), .reg (.n :: .n :: [])]) (fr := true) (by kernel_rfl) (an (an (ti trivial) (an (ti (ti trivial)) (an (an (ti (ti (ti trivial))) e2246) (an (ti (ti trivial)) trivial)))) (ti trivial)) (Wv.of_eq (by simp only [show List.map unfr1 (List.flatMap (mpE v_37) r2245) = List.flatMap (mpE v_37) r2245 from (by exact unfr1_mp (fun _ => rfl) r2245), drop0, unfr_vi, unfr_vb, unfr_vs, List.map_cons, List.map_nil, un_i, un_k, un_b, un_s, un_tr, un_fr, List.length_map, List.length_replicate, List.length_append, List.length_set, List.length_cons, List.length_nil, unfr_c_SStroke, unfr_g_SStroke, unfr_c_SGrindSession, unfr_v_37, unfr_f_37]))
def ngrind_each_c1_grind_validSessions_1_1 (k : Nat) (a0 : Int) (a1 : ((List (ByteArray × (List Int))) × (List SGrindSession))) : Option (Int × ((List (ByteArray × (List Int))) × (List SGrindSession))) :=
  some (a0, a1)
theorem ngrind_each_c1_grind_validSessions_1_1_ok (k : Nat) (a0 : Int) (a1 : ((List (ByteArray × (List Int))) × (List SGrindSession))) (r : (Int × ((List (ByteArray × (List Int))) × (List SGrindSession)))) (h : ngrind_each_c1_grind_validSessions_1_1 k a0 a1 = some r) : VC Go.Proofs.Try.prog 43 [vi a0, VV.fn 71 [VV.tp [VV.mt (List.flatMap (mpE v_37) a1.1)] 0, VV.tp [VV.tr (List.flatMap c_SGrindSession a1.2) a1.2.length] 0]] (VV.fn 63 [VV.tp [vi r.1] 0, VV.tp [VV.fn 71 [VV.tp [VV.mt (List.flatMap (mpE v_37) r.2.1)] 0, VV.tp [VV.tr (List.flatMap c_SGrindSession r.2.2) r.2.2.length] 0]] 0]) := by
 unfold ngrind_each_c1_grind_validSessions_1_1 at h
 injection h with h; subst h
 exact fun_ok pm pn Go.Proofs.Try.func43 (r0 := VV.fn 63 [VV.tp [vi a0] 0, VV.tp [VV.fn 71 [VV.tp [VV.mt (List.flatMap (mpE v_37) a1.1)] 0, VV.tp [VV.tr (List.flatMap c_SGrindSession a1.2) a1.2.length] 0]] 0]) (ans := [.reg (nN 3 []), .frz 0, .frz 1, .reg (.n :: .n :: [])]) (fr := false) (by kernel_rfl) (an (an (ti (ti (ti trivial))) (an (ti (ti trivial)) trivial)) (ti trivial)) (Wv.of_eq rfl)
theorem eqK5_0 (z0 : (List SGrindSession)) (z1 : (List (ByteArray × (List Int)))) : [vi (z0.length : Int), VV.fn 71 [VV.tp [VV.mt (List.flatMap (mpE v_37) ((z1, z0).1))] 0, VV.tp [VV.tr (List.flatMap c_SGrindSession ((z1, z0).2)) (((z1, z0).2).length)] 0]] = [vi (z0.length : Int), VV.fn 71 [VV.tp [VV.mt (List.flatMap (mpE v_37) z1)] 0, VV.tp [VV.tr (List.flatMap c_SGrindSession z0) z0.length] 0]] := by first | rfl | (simp only [unfr_vi, List.map_cons, List.map_nil, un_i, un_tr, List.length_cons, List.length_nil, unfr_c_SGrindSession, unfr_v_37]; done) | (simp only [unfr_vi, List.map_cons, List.map_nil, un_i, un_tr, List.length_cons, List.length_nil, unfr_c_SGrindSession, unfr_v_37]; rfl) | (simp only [unfr_vi, List.map_cons, List.map_nil, un_i, un_tr, List.length_cons, List.length_nil, unfr_c_SGrindSession, unfr_v_37, c_SGrindSession, List.length_cons, List.length_nil, List.length_append]; done)
theorem eqK5_1 (z0 : (List SGrindSession)) (z1 : Int) : [vi 1, vi 10000, VV.tr (List.map vi ([(z0.getD z1.toNat default).Minutes] : List Int)) (([(z0.getD z1.toNat default).Minutes] : List Int).length)] = [vi 1, vi 10000, VV.tr [vi ((z0.getD z1.toNat default).Minutes)] 1] := by first | rfl | (simp only [unfr_vi, List.map_cons, List.map_nil, un_i, un_tr, List.length_map, List.length_cons, List.length_nil]; done) | (simp only [unfr_vi, List.map_cons, List.map_nil, un_i, un_tr, List.length_map, List.length_cons, List.length_nil]; rfl) | (simp only [unfr_vi, List.map_cons, List.map_nil, un_i, un_tr, List.length_map, List.length_cons, List.length_nil, List.length_cons, List.length_nil, List.length_append]; done)
def arK5_2 (z0 : ((Bool × Int) × (Bool × Int) × ((List Int) × Int × Int))) : List Ans := (.n :: .v (VV.fn 62 [VV.tp [VV.tr (List.map vi z0.2.2.1) z0.2.2.1.length] 0, VV.tp [vi z0.2.2.2.1] 0, VV.tp [vi z0.2.2.2.2] 0]) :: .n :: [])
def ngrind_firstOf_c0_Lgrind_need_1_grind_need_1_grind_within_1 (k : Nat) (a0 : ((Bool × Int) × (Bool × Int) × ((List Int) × Int × Int))) : Option Int :=
  (ngrind_need_1 k a0.1.1 a0.1.2).bind fun r2308 => (if r2308 = 0 then ((ngrind_need_1 k a0.2.1.1 a0.2.1.2).bind fun r2314 => (if r2314 = 0 then ((ngrind_within_1 k a0.2.2.1 a0.2.2.2.1 a0.2.2.2.2).bind fun r2320 => (if r2320 = 0 then (some 0) else (some r2320))) else (some r2314))) else (some r2308))
theorem ngrind_firstOf_c0_Lgrind_need_1_grind_need_1_grind_within_1_ok (k : Nat) (a0 : ((Bool × Int) × (Bool × Int) × ((List Int) × Int × Int))) (r : Int) (h : ngrind_firstOf_c0_Lgrind_need_1_grind_need_1_grind_within_1 k a0 = some r) : VC Go.Proofs.Try.prog 36 [VV.tr ([VV.fn 61 [VV.tp [vb a0.1.1] 0, VV.tp [vi a0.1.2] 0], VV.fn 61 [VV.tp [vb a0.2.1.1] 0, VV.tp [vi a0.2.1.2] 0], VV.fn 62 [VV.tp [VV.tr (List.map vi a0.2.2.1) a0.2.2.1.length] 0, VV.tp [vi a0.2.2.2.1] 0, VV.tp [vi a0.2.2.2.2] 0]]) 3] (vi r) := by
 unfold ngrind_firstOf_c0_Lgrind_need_1_grind_need_1_grind_within_1 at h
 have e2306 := (show (0 : Int) ≤ 0 ∧ (0 : Int) < ((3 : Nat) : Int) from ⟨by decide, by decide⟩)
 have e2307 := (show loadL Go.Proofs.Try.prog 80 ((0 : Int).toNat * 1) ([VV.fn 61 [VV.tp [vb a0.1.1] 0, VV.tp [vi a0.1.2] 0], VV.fn 61 [VV.tp [vb a0.2.1.1] 0, VV.tp [vi a0.2.1.2] 0], VV.fn 62 [VV.tp [VV.tr (List.map vi a0.2.2.1) a0.2.2.1.length] 0, VV.tp [vi a0.2.2.2.1] 0, VV.tp [vi a0.2.2.2.2] 0]]) = some (VV.fn 61 [VV.tp [vb a0.1.1] 0, VV.tp [vi a0.1.2] 0]) from (ld_one ag80 rfl))
 obtain ⟨r2308, h2309, h⟩ := bs h
 have e2310 := (ngrind_need_1_ok k a0.1.1 a0.1.2 _ h2309)
 rcases ifs h with ⟨h2311, h⟩ | ⟨h2311, h⟩
 ·have e2312 := (show (0 : Int) ≤ 1 ∧ (1 : Int) < ((3 : Nat) : Int) from ⟨by decide, by decide⟩)
  have e2313 := (show loadL Go.Proofs.Try.prog 80 ((1 : Int).toNat * 1) ([VV.fn 61 [VV.tp [vb a0.1.1] 0, VV.tp [vi a0.1.2] 0], VV.fn 61 [VV.tp [vb a0.2.1.1] 0, VV.tp [vi a0.2.1.2] 0], VV.fn 62 [VV.tp [VV.tr (List.map vi a0.2.2.1) a0.2.2.1.length] 0, VV.tp [vi a0.2.2.2.1] 0, VV.tp [vi a0.2.2.2.2] 0]]) = some (VV.fn 61 [VV.tp [vb a0.2.1.1] 0, VV.tp [vi a0.2.1.2] 0]) from (ld_one ag80 rfl))
  obtain ⟨r2314, h2315, h⟩ := bs h
  have e2316 := (ngrind_need_1_ok k a0.2.1.1 a0.2.1.2 _ h2315)
  rcases ifs h with ⟨h2317, h⟩ | ⟨h2317, h⟩
  ·have e2318 := (show (0 : Int) ≤ 2 ∧ (2 : Int) < ((3 : Nat) : Int) from ⟨by decide, by decide⟩)
   have e2319 := (show loadL Go.Proofs.Try.prog 80 ((2 : Int).toNat * 1) ([VV.fn 61 [VV.tp [vb a0.1.1] 0, VV.tp [vi a0.1.2] 0], VV.fn 61 [VV.tp [vb a0.2.1.1] 0, VV.tp [vi a0.2.1.2] 0], VV.fn 62 [VV.tp [VV.tr (List.map vi a0.2.2.1) a0.2.2.1.length] 0, VV.tp [vi a0.2.2.2.1] 0, VV.tp [vi a0.2.2.2.2] 0]]) = some (VV.fn 62 [VV.tp [VV.tr (List.map vi a0.2.2.1) a0.2.2.1.length] 0, VV.tp [vi a0.2.2.2.1] 0, VV.tp [vi a0.2.2.2.2] 0]) from (ld_one ag80 rfl))
   obtain ⟨r2320, h2321, h⟩ := bs h
   have e2322 := (ngrind_within_1_ok k a0.2.2.1 a0.2.2.2.1 a0.2.2.2.2 _ h2321)
   rcases ifs h with ⟨h2323, h⟩ | ⟨h2323, h⟩
   ·injection h with h; subst h
    exact fun_ok pm pn Go.Proofs.Try.func36 (r0 := vi 0) (ans := [.reg (.n :: []), .reg (nN 3 []), .unr 5, .reg (.n :: []), .br true, .reg (.n :: .v (VV.fn 61 [VV.tp [vb a0.1.1] 0, VV.tp [vi a0.1.2] 0]) :: .n :: []), .reg (.n :: .call (vi r2308) :: .n :: []), .reg (.n :: .n :: []), .br false, .reg (.n :: .n :: []), .reg (.n :: []), .br true, .reg (.n :: .v (VV.fn 61 [VV.tp [vb a0.2.1.1] 0, VV.tp [vi a0.2.1.2] 0]) :: .n :: []), .reg (.n :: .call (vi r2314) :: .n :: []), .reg (.n :: .n :: []), .br false, .reg (.n :: .n :: []), .reg (.n :: []), .br true, .reg (arK5_2 a0), .reg (.n :: .call (vi r2320) :: .n :: []), .reg (.n :: .n :: []), .br false, .reg (.n :: .n :: []), .reg (.n :: []), .br false, .reg (.n :: [])]) (fr := true) (by kernel_rfl) (an (an (ti trivial) (an (an (ti (ti (ti trivial))) (an (an (ti trivial) (an (an (show (decide ((0 : Int) < 3)) = true from (decide_eq_true (by decide))) trivial) (an (an (an e2306 (an e2307 (ti trivial))) (an (ti (an e2310 (ti trivial))) (an (ti (ti trivial)) (an (not_f (decide_eq_true h2311)) trivial)))) (ti (ti trivial))))) (an (an (ti trivial) (an (an (show (decide ((1 : Int) < 3)) = true from (decide_eq_true (by decide))) trivial) (an (an (an e2312 (an e2313 (ti trivial))) (an (ti (an e2316 (ti trivial))) (an (ti (ti trivial)) (an (not_f (decide_eq_true h2317)) trivial)))) (ti (ti trivial))))) (an (an (ti trivial) (an (an (show (decide ((2 : Int) < 3)) = true from (decide_eq_true (by decide))) trivial) (an (an (an e2318 (an e2319 (ti trivial))) (an (ti (an e2322 (ti trivial))) (an (ti (ti trivial)) (an (not_f (decide_eq_true h2323)) trivial)))) (ti (ti trivial))))) (an (ti trivial) (an (show (decide ((3 : Int) < 3)) = false from (decide_eq_false (by decide))) trivial)))))) (an (ti trivial) trivial))) (ti trivial)) (Wv.refl _)
   ·injection h with h; subst h
    exact fun_ok pm pn Go.Proofs.Try.func36 (r0 := vi r2320) (ans := [.reg (.n :: []), .reg (nN 3 []), .unr 4, .reg (.n :: []), .br true, .reg (.n :: .v (VV.fn 61 [VV.tp [vb a0.1.1] 0, VV.tp [vi a0.1.2] 0]) :: .n :: []), .reg (.n :: .call (vi r2308) :: .n :: []), .reg (.n :: .n :: []), .br false, .reg (.n :: .n :: []), .reg (.n :: []), .br true, .reg (.n :: .v (VV.fn 61 [VV.tp [vb a0.2.1.1] 0, VV.tp [vi a0.2.1.2] 0]) :: .n :: []), .reg (.n :: .call (vi r2314) :: .n :: []), .reg (.n :: .n :: []), .br false, .reg (.n :: .n :: []), .reg (.n :: []), .br true, .reg (arK5_2 a0), .reg (.n :: .call (vi r2320) :: .n :: []), .reg (.n :: .n :: []), .br true, .reg (.n :: .n :: [])]) (fr := true) (by kernel_rfl) (an (an (ti trivial) (an (ti (ti (ti trivial))) (an (an (ti trivial) (an (an (show (decide ((0 : Int) < 3)) = true from (decide_eq_true (by decide))) trivial) (an (an (an e2306 (an e2307 (ti trivial))) (an (ti (an e2310 (ti trivial))) (an (ti (ti trivial)) (an (not_f (decide_eq_true h2311)) trivial)))) (ti (ti trivial))))) (an (an (ti trivial) (an (an (show (decide ((1 : Int) < 3)) = true from (decide_eq_true (by decide))) trivial) (an (an (an e2312 (an e2313 (ti trivial))) (an (ti (an e2316 (ti trivial))) (an (ti (ti trivial)) (an (not_f (decide_eq_true h2317)) trivial)))) (ti (ti trivial))))) (an (ti trivial) (an (an (show (decide ((2 : Int) < 3)) = true from (decide_eq_true (by decide))) trivial) (an (an e2318 (an e2319 (ti trivial))) (an (ti (an e2322 (ti trivial))) (an (ti (ti trivial)) (an (not_t (decide_eq_false h2323)) (an (ti (ti trivial)) trivial))))))))))) (ti trivial)) (Wv.refl _)
  ·injection h with h; subst h
   exact fun_ok pm pn Go.Proofs.Try.func36 (r0 := vi r2314) (ans := [.reg (.n :: []), .reg (nN 3 []), .unr 3, .reg (.n :: []), .br true, .reg (.n :: .v (VV.fn 61 [VV.tp [vb a0.1.1] 0, VV.tp [vi a0.1.2] 0]) :: .n :: []), .reg (.n :: .call (vi r2308) :: .n :: []), .reg (.n :: .n :: []), .br false, .reg (.n :: .n :: []), .reg (.n :: []), .br true, .reg (.n :: .v (VV.fn 61 [VV.tp [vb a0.2.1.1] 0, VV.tp [vi a0.2.1.2] 0]) :: .n :: []), .reg (.n :: .call (vi r2314) :: .n :: []), .reg (.n :: .n :: []), .br true, .reg (.n :: .n :: [])]) (fr := true) (by kernel_rfl) (an (an (ti trivial) (an (ti (ti (ti trivial))) (an (an (ti trivial) (an (an (show (decide ((0 : Int) < 3)) = true from (decide_eq_true (by decide))) trivial) (an (an (an e2306 (an e2307 (ti trivial))) (an (ti (an e2310 (ti trivial))) (an (ti (ti trivial)) (an (not_f (decide_eq_true h2311)) trivial)))) (ti (ti trivial))))) (an (ti trivial) (an (an (show (decide ((1 : Int) < 3)) = true from (decide_eq_true (by decide))) trivial) (an (an e2312 (an e2313 (ti trivial))) (an (ti (an e2316 (ti trivial))) (an (ti (ti trivial)) (an (not_t (decide_eq_false h2317)) (an (ti (ti trivial)) trivial)))))))))) (ti trivial)) (Wv.refl _)
 ·injection h with h; subst h
  exact fun_ok pm pn Go.Proofs.Try.func36 (r0 := vi r2308) (ans := [.reg (.n :: []), .reg (nN 3 []), .unr 2, .reg (.n :: []), .br true, .reg (.n :: .v (VV.fn 61 [VV.tp [vb a0.1.1] 0, VV.tp [vi a0.1.2] 0]) :: .n :: []), .reg (.n :: .call (vi r2308) :: .n :: []), .reg (.n :: .n :: []), .br true, .reg (.n :: .n :: [])]) (fr := true) (by kernel_rfl) (an (an (ti trivial) (an (ti (ti (ti trivial))) (an (ti trivial) (an (an (show (decide ((0 : Int) < 3)) = true from (decide_eq_true (by decide))) trivial) (an (an e2306 (an e2307 (ti trivial))) (an (ti (an e2310 (ti trivial))) (an (ti (ti trivial)) (an (not_t (decide_eq_false h2311)) (an (ti (ti trivial)) trivial))))))))) (ti trivial)) (Wv.refl _)
theorem eqK5_2 (z0 : (Bool × Int)) (z1 : (Bool × Int)) (z2 : ((List Int) × Int × Int)) : [VV.tr ([VV.fn 61 [VV.tp [vb (((z0, z1, z2).1).1)] 0, VV.tp [vi (((z0, z1, z2).1).2)] 0], VV.fn 61 [VV.tp [vb (((z0, z1, z2).2.1).1)] 0, VV.tp [vi (((z0, z1, z2).2.1).2)] 0], VV.fn 62 [VV.tp [VV.tr (List.map vi (((z0, z1, z2).2.2).1)) ((((z0, z1, z2).2.2).1).length)] 0, VV.tp [vi (((z0, z1, z2).2.2).2.1)] 0, VV.tp [vi (((z0, z1, z2).2.2).2.2)] 0]]) 3] = [VV.tr (List.drop 0 (List.map unfr [VV.fn 61 [VV.tp [vb z0.1] 0, VV.tp [vi z0.2] 0], VV.fn 61 [VV.tp [vb z1.1] 0, VV.tp [vi z1.2] 0], VV.fn 62 [VV.tp [VV.tr (List.map vi z2.1) z2.1.length] 0, VV.tp [vi z2.2.1] 0, VV.tp [vi z2.2.2] 0]])) 3] := by first | rfl | (simp only [drop0, unfr_vi, unfr_vb, List.map_cons, List.map_nil, un_i, un_b, un_tr, List.length_map, List.length_cons, List.length_nil]; done) | (simp only [drop0, unfr_vi, unfr_vb, List.map_cons, List.map_nil, un_i, un_b, un_tr, List.length_map, List.length_cons, List.length_nil]; rfl) | (simp only [drop0, unfr_vi, unfr_vb, List.map_cons, List.map_nil, un_i, un_b, un_tr, List.length_map, List.length_cons, List.length_nil, List.length_cons, List.length_nil, List.length_append]; done)
def arK5_3 (z0 : (List (ByteArray × (List Int)))) (z1 : (List SGrindSession)) (z2 : Int) : List Ans := (.v (VV.mt (List.flatMap (mpE v_37) z0)) :: .v (VV.tr (List.flatMap c_SGrindSession z1) z1.length) :: nN 3 (.v (vs ((z1.getD z2.toNat default).Stroke)) :: .v (VV.tr (List.map vi (mget z0 ((z1.getD z2.toNat default).Stroke))) ((mget z0 ((z1.getD z2.toNat default).Stroke)).length)) :: nN 5 []))
def arK5_4 (z0 : (List SGrindSession)) (z1 : Int) (z2 : (Bool × Int)) (z3 : (Bool × Int)) (z4 : ((List Int) × Int × Int)) (z5 : Int) : List Ans := (.v (VV.tr (List.flatMap c_SGrindSession z0) z0.length) :: nN 3 (.v (vs ((z0.getD z1.toNat default).Mirror)) :: .call (VV.fn 61 [VV.tp [vb z2.1] 0, VV.tp [vi z2.2] 0]) :: .n :: .call (VV.fn 61 [VV.tp [vb z3.1] 0, VV.tp [vi z3.2] 0]) :: .v (VV.tr (List.flatMap c_SGrindSession z0) z0.length) :: nN 3 (.v (vi ((z0.getD z1.toNat default).Minutes)) :: .v VV.any :: .call (VV.fn 62 [VV.tp [VV.tr (List.map vi z4.1) z4.1.length] 0, VV.tp [vi z4.2.1] 0, VV.tp [vi z4.2.2] 0]) :: .n :: .call (vi z5) :: .n :: [])))
def arK5_5 (z0 : (List (ByteArray × (List Int)))) (z1 : (List SGrindSession)) (z2 : Int) : List Ans := (.v (VV.mt (List.flatMap (mpE v_37) z0)) :: .v (VV.tr (List.flatMap c_SGrindSession z1) z1.length) :: nN 3 (.v (vs ((z1.getD z2.toNat default).Stroke)) :: .b false :: nN 5 []))
def ngrind_validSessions_1_1 (k : Nat) (a0 : Int) (q0_0 : (List (ByteArray × (List Int)))) (q1_0 : (List SGrindSession)) : Option Int :=
  if 0 ≤ a0 ∧ a0 < (q1_0.length : Int) then (if mhas q0_0 ((q1_0.getD a0.toNat default).Stroke) = true then ((ngrind_named k ((q1_0.getD a0.toNat default).Mirror)).bind fun r2355 => ((ngrind_need k true 6).bind fun r2358 => ((ngrind_within k 1 10000 ([(q1_0.getD a0.toNat default).Minutes] : List Int)).bind fun r2362 => ((ngrind_firstOf_c0_Lgrind_need_1_grind_need_1_grind_within_1 k (r2355, r2358, r2362)).bind fun r2365 => (some r2365))))) else ((ngrind_named k ((q1_0.getD a0.toNat default).Mirror)).bind fun r2373 => ((ngrind_need k false 6).bind fun r2376 => ((ngrind_within k 1 10000 ([(q1_0.getD a0.toNat default).Minutes] : List Int)).bind fun r2380 => ((ngrind_firstOf_c0_Lgrind_need_1_grind_need_1_grind_within_1 k (r2373, r2376, r2380)).bind fun r2383 => (some r2383)))))) else none
theorem ngrind_validSessions_1_1_ok (k : Nat) (a0 : Int) (q0_0 : (List (ByteArray × (List Int)))) (q1_0 : (List SGrindSession)) (r : Int) (h : ngrind_validSessions_1_1 k a0 q0_0 q1_0 = some r) : VC Go.Proofs.Try.prog 71 [vi a0, VV.tp [VV.mt (List.flatMap (mpE v_37) q0_0)] 0, VV.tp [VV.tr (List.flatMap c_SGrindSession q1_0) q1_0.length] 0] (vi r) := by
 unfold ngrind_validSessions_1_1 at h
 have e2346 := (show loadL Go.Proofs.Try.prog 109 0 [VV.mt (List.flatMap (mpE v_37) q0_0)] = some (VV.mt (List.flatMap (mpE v_37) q0_0)) from (ld_one ag109 rfl))
 have e2347 := (show loadL Go.Proofs.Try.prog 52 0 [VV.tr (List.flatMap c_SGrindSession q1_0) q1_0.length] = some (VV.tr (List.flatMap c_SGrindSession q1_0) q1_0.length) from (ld_one ag52 rfl))
 obtain ⟨h2348, h⟩ := ifn h
 have e2349 := (show loadL Go.Proofs.Try.prog 9 (a0.toNat * 3 + 1) (List.flatMap c_SGrindSession q1_0) = some (vs ((q1_0.getD a0.toNat default).Stroke)) from (ld_flat ag9 c_SGrindSession 3 1 len_c_SGrindSession (by omega) q1_0 default h2348 (by omega)).trans rfl)
 rcases ifs h with ⟨h2350, h⟩ | ⟨h2350, h⟩
 ·have e2351 := (show keysM (kdV (.string ((q1_0.getD a0.toNat default).Stroke))) (List.flatMap (mpE v_37) q0_0) = true ∧ lkM (.string ((q1_0.getD a0.toNat default).Stroke)) (List.flatMap (mpE v_37) q0_0) = some (VV.tr (List.map vi (mget q0_0 ((q1_0.getD a0.toNat default).Stroke))) ((mget q0_0 ((q1_0.getD a0.toNat default).Stroke)).length)) from ⟨(keysM_mp v_37 ((q1_0.getD a0.toNat default).Stroke) q0_0), (lkM_has v_37 ((q1_0.getD a0.toNat default).Stroke) q0_0 h2350)⟩)
  have e2352 := (an e2346 (an e2347 (ti (an h2348 (ti (an e2349 (an e2351 (ti (ti (ti (ti (ti trivial))))))))))))
  have e2353 := (show loadL Go.Proofs.Try.prog 52 0 [VV.tr (List.flatMap c_SGrindSession q1_0) q1_0.length] = some (VV.tr (List.flatMap c_SGrindSession q1_0) q1_0.length) from (ld_one ag52 rfl))
  have e2354 := (show loadL Go.Proofs.Try.prog 9 (a0.toNat * 3 + 0) (List.flatMap c_SGrindSession q1_0) = some (vs ((q1_0.getD a0.toNat default).Mirror)) from (ld_flat ag9 c_SGrindSession 3 0 len_c_SGrindSession (by omega) q1_0 default h2348 (by omega)).trans rfl)
  obtain ⟨r2355, h2356, h⟩ := bs h
  have e2357 := (ngrind_named_ok k ((q1_0.getD a0.toNat default).Mirror) _ h2356)
  obtain ⟨r2358, h2359, h⟩ := bs h
  have e2360 := (show loadL Go.Proofs.Try.prog 52 0 [VV.tr (List.flatMap c_SGrindSession q1_0) q1_0.length] = some (VV.tr (List.flatMap c_SGrindSession q1_0) q1_0.length) from (ld_one ag52 rfl))
  have e2361 := (show loadL Go.Proofs.Try.prog 3 (a0.toNat * 3 + 2) (List.flatMap c_SGrindSession q1_0) = some (vi ((q1_0.getD a0.toNat default).Minutes)) from (ld_flat ag3 c_SGrindSession 3 2 len_c_SGrindSession (by omega) q1_0 default h2348 (by omega)).trans rfl)
  obtain ⟨r2362, h2363, h⟩ := bs h
  have e2364 := (VC.args (ngrind_within_ok k 1 10000 ([(q1_0.getD a0.toNat default).Minutes] : List Int) _ h2363) (eqK5_1 q1_0 a0))
  obtain ⟨r2365, h2366, h⟩ := bs h
  have e2367 := (VC.args (ngrind_firstOf_c0_Lgrind_need_1_grind_need_1_grind_within_1_ok k (r2355, r2358, r2362) _ h2366) (eqK5_2 r2355 r2358 r2362))
  have e2368 := (an e2353 (ti (an h2348 (ti (an e2354 (an e2357 (ti (an (ngrind_need_ok k true 6 _ h2359) (an e2360 (ti (an h2348 (ti (an e2361 (ti (an e2364 (ti (an e2367 (ti trivial))))))))))))))))))
  injection h with h; subst h
  exact fun_ok pm pn Go.Proofs.Try.func71 (r0 := vi r2365) (ans := [.reg (.n :: []), .reg (arK5_3 q0_0 q1_0 a0), .reg (arK5_4 q1_0 a0 r2355 r2358 r2362 r2365)]) (fr := true) (by kernel_rfl) (an (an (ti trivial) (an e2352 (an e2368 trivial))) (ti trivial)) (Wv.refl _)
 ·have e2369 := (show keysM (kdV (.string ((q1_0.getD a0.toNat default).Stroke))) (List.flatMap (mpE v_37) q0_0) = true ∧ lkM (.string ((q1_0.getD a0.toNat default).Stroke)) (List.flatMap (mpE v_37) q0_0) = none from ⟨(keysM_mp v_37 ((q1_0.getD a0.toNat default).Stroke) q0_0), (lkM_no v_37 ((q1_0.getD a0.toNat default).Stroke) q0_0 (bool_f h2350))⟩)
  have e2370 := (an e2346 (an e2347 (ti (an h2348 (ti (an e2349 (an e2369 (ti (ti (ti (ti (ti trivial))))))))))))
  have e2371 := (show loadL Go.Proofs.Try.prog 52 0 [VV.tr (List.flatMap c_SGrindSession q1_0) q1_0.length] = some (VV.tr (List.flatMap c_SGrindSession q1_0) q1_0.length) from (ld_one ag52 rfl))
  have e2372 := (show loadL Go.Proofs.Try.prog 9 (a0.toNat * 3 + 0) (List.flatMap c_SGrindSession q1_0) = some (vs ((q1_0.getD a0.toNat default).Mirror)) from (ld_flat ag9 c_SGrindSession 3 0 len_c_SGrindSession (by omega) q1_0 default h2348 (by omega)).trans rfl)
  obtain ⟨r2373, h2374, h⟩ := bs h
  have e2375 := (ngrind_named_ok k ((q1_0.getD a0.toNat default).Mirror) _ h2374)
  obtain ⟨r2376, h2377, h⟩ := bs h
  have e2378 := (show loadL Go.Proofs.Try.prog 52 0 [VV.tr (List.flatMap c_SGrindSession q1_0) q1_0.length] = some (VV.tr (List.flatMap c_SGrindSession q1_0) q1_0.length) from (ld_one ag52 rfl))
  have e2379 := (show loadL Go.Proofs.Try.prog 3 (a0.toNat * 3 + 2) (List.flatMap c_SGrindSession q1_0) = some (vi ((q1_0.getD a0.toNat default).Minutes)) from (ld_flat ag3 c_SGrindSession 3 2 len_c_SGrindSession (by omega) q1_0 default h2348 (by omega)).trans rfl)
  obtain ⟨r2380, h2381, h⟩ := bs h
  have e2382 := (VC.args (ngrind_within_ok k 1 10000 ([(q1_0.getD a0.toNat default).Minutes] : List Int) _ h2381) (eqK5_1 q1_0 a0))
  obtain ⟨r2383, h2384, h⟩ := bs h
  have e2385 := (VC.args (ngrind_firstOf_c0_Lgrind_need_1_grind_need_1_grind_within_1_ok k (r2373, r2376, r2380) _ h2384) (eqK5_2 r2373 r2376 r2380))
  have e2386 := (an e2371 (ti (an h2348 (ti (an e2372 (an e2375 (ti (an (ngrind_need_ok k false 6 _ h2377) (an e2378 (ti (an h2348 (ti (an e2379 (ti (an e2382 (ti (an e2385 (ti trivial))))))))))))))))))
  injection h with h; subst h
  exact fun_ok pm pn Go.Proofs.Try.func71 (r0 := vi r2383) (ans := [.reg (.n :: []), .reg (arK5_5 q0_0 q1_0 a0), .reg (arK5_4 q1_0 a0 r2373 r2376 r2380 r2383)]) (fr := true) (by kernel_rfl) (an (an (ti trivial) (an e2370 (an e2386 trivial))) (ti trivial)) (Wv.refl _)
def arK5_6 (z0 : ((List (ByteArray × (List Int))) × (List SGrindSession))) (z1 : Int) : List Ans := (.v (VV.fn 71 [VV.tp [VV.mt (List.flatMap (mpE v_37) z0.1)] 0, VV.tp [VV.tr (List.flatMap c_SGrindSession z0.2) z0.2.length] 0]) :: .n :: .call (vi z1) :: .n :: [])
def ngrind_each_1_k_grind_validSessions_1_1_l0_0_h (q0_0 : Int) (q1_0 : ((List (ByteArray × (List Int))) × (List SGrindSession))) (x6 : Int) : VS := ⟨mkA [(1, VV.tp [VV.fn 71 [VV.tp [VV.mt (List.flatMap (mpE v_37) q1_0.1)] 0, VV.tp [VV.tr (List.flatMap c_SGrindSession q1_0.2) q1_0.2.length] 0]] 0), (5, vi q0_0), (6, vi x6)], [], .nil⟩
def ngrind_each_1_k_grind_validSessions_1_1_l0_0_e0 (q0_0 : Int) (q1_0 : ((List (ByteArray × (List Int))) × (List SGrindSession))) (r : Int) : VS := ⟨mkA [(2, vi r)], [], .nil⟩
def ngrind_each_1_k_grind_validSessions_1_1_l0_0_e1 (q0_0 : Int) (q1_0 : ((List (ByteArray × (List Int))) × (List SGrindSession))) (r : Unit) : VS := ⟨mkA [], [], .nil⟩
def ngrind_each_1_k_grind_validSessions_1_1_l0_0 (k : Nat) (q0_0 : Int) (q1_0 : ((List (ByteArray × (List Int))) × (List SGrindSession))) : Nat → Int → Option (Sum Int Unit)
  | 0, _ => none
  | fuel + 1, x6 => if x6 < q0_0 then ((ngrind_validSessions_1_1 k x6 q1_0.1 q1_0.2).bind fun r2424 => (if r2424 = 0 then (ngrind_each_1_k_grind_validSessions_1_1_l0_0 k q0_0 q1_0 fuel (w64 (x6 + 1))) else (some (.inl r2424)))) else (some (.inr ()))
theorem ngrind_each_1_k_grind_validSessions_1_1_l0_0_ok (k : Nat) (q0_0 : Int) (q1_0 : ((List (ByteArray × (List Int))) × (List SGrindSession))) : ∀ (fuel : Nat) (x6 : Int) (r : Sum Int Unit), ngrind_each_1_k_grind_validSessions_1_1_l0_0 k q0_0 q1_0 fuel x6 = some r → (match r with | .inl r => VLoop none Go.Proofs.Try.prog (szF Go.Proofs.Try.f63) (bodyOf Go.Proofs.Try.f63 0) (ngrind_each_1_k_grind_validSessions_1_1_l0_0_h q0_0 q1_0 x6) .ret (ngrind_each_1_k_grind_validSessions_1_1_l0_0_e0 q0_0 q1_0 r) | .inr r => VLoop none Go.Proofs.Try.prog (szF Go.Proofs.Try.f63) (bodyOf Go.Proofs.Try.f63 0) (ngrind_each_1_k_grind_validSessions_1_1_l0_0_h q0_0 q1_0 x6) (.exit 0) (ngrind_each_1_k_grind_validSessions_1_1_l0_0_e1 q0_0 q1_0 r)) := by
 intro fuel
 induction fuel with
 | zero => intro x6 r h; rw [ngrind_each_1_k_grind_validSessions_1_1_l0_0.eq_1] at h; cases h
 | succ fuel ih =>
  intro x6 r h
  rw [ngrind_each_1_k_grind_validSessions_1_1_l0_0.eq_2] at h
  rcases ifs h with ⟨h2422, h⟩ | ⟨h2422, h⟩
  ·have e2423 := (show loadL Go.Proofs.Try.prog 88 0 [VV.fn 71 [VV.tp [VV.mt (List.flatMap (mpE v_37) q1_0.1)] 0, VV.tp [VV.tr (List.flatMap c_SGrindSession q1_0.2) q1_0.2.length] 0]] = some (VV.fn 71 [VV.tp [VV.mt (List.flatMap (mpE v_37) q1_0.1)] 0, VV.tp [VV.tr (List.flatMap c_SGrindSession q1_0.2) q1_0.2.length] 0]) from (ld_one ag88 rfl))
   obtain ⟨r2424, h2425, h⟩ := bs h
   have e2426 := (ngrind_validSessions_1_1_ok k x6 q1_0.1 q1_0.2 _ h2425)
   rcases ifs h with ⟨h2427, h⟩ | ⟨h2427, h⟩
   ·have h2 := ih _ _ h
    obtain ⟨q, hv, hq⟩ := pkR (rd := none) (P := Go.Proofs.Try.prog) (fn := Go.Proofs.Try.f63) (k := 0) (s := (ngrind_each_1_k_grind_validSessions_1_1_l0_0_h q0_0 q1_0 x6)) (ans := [.reg (.n :: []), .br true, .reg (.n :: .n :: []), .reg (arK5_6 q1_0 r2424), .reg (.n :: .n :: []), .br false, .reg (.n :: .n :: [])]) (c := ⟨[(1, none), (5, none), (6, none)], [], []⟩) (e := .normal) (s1 := (ngrind_each_1_k_grind_validSessions_1_1_l0_0_h q0_0 q1_0 (w64 (x6 + 1)))) (an (an (ti trivial) (an (an (decide_eq_true h2422) trivial) (an (an (ti (ti trivial)) (an (an e2423 (ti (an e2426 (ti trivial)))) (an (ti (ti trivial)) (an (not_f (decide_eq_true h2427)) trivial)))) (ti (ti trivial))))) (ti trivial)) (by kernel_rfl)
    cases r with
    | inl r => exact round_next pm pn hv hq h2
    | inr r =>
     exact round_next pm pn hv hq h2
   ·injection h with h; subst h
    exact round_stop (c := ⟨[(2, none)], [], []⟩) (s1 := (ngrind_each_1_k_grind_validSessions_1_1_l0_0_e0 q0_0 q1_0 r2424)) pm pn (ans := [.reg (.n :: []), .br true, .reg (.n :: .n :: []), .reg (arK5_6 q1_0 r2424), .reg (.n :: .n :: []), .br true, .reg (.n :: .n :: [])]) (by kernel_rfl) (by intro e; cases e) (an (an (ti trivial) (an (an (decide_eq_true h2422) trivial) (an (ti (ti trivial)) (an (an e2423 (ti (an e2426 (ti trivial)))) (an (ti (ti trivial)) (an (not_t (decide_eq_false h2427)) (an (ti (ti trivial)) trivial))))))) (ti trivial))
  ·injection h with h; subst h
   exact round_stop (c := ⟨[], [], []⟩) (s1 := (ngrind_each_1_k_grind_validSessions_1_1_l0_0_e1 q0_0 q1_0 ())) pm pn (ans := [.reg (.n :: []), .br false]) (by kernel_rfl) (by intro e; cases e) (an (an (ti trivial) (an (decide_eq_false h2422) trivial)) (ti trivial))
def ngrind_each_1_k_grind_validSessions_1_1 (k : Nat) (q0_0 : Int) (q1_0 : ((List (ByteArray × (List Int))) × (List SGrindSession))) : Option Int :=
  (ngrind_each_1_k_grind_validSessions_1_1_l0_0 k q0_0 q1_0 k 0).bind fun r2429 => (match r2429 with | .inl r2430 => (some r2430) | .inr r2431 => (some 0))
theorem ngrind_each_1_k_grind_validSessions_1_1_ok (k : Nat) (q0_0 : Int) (q1_0 : ((List (ByteArray × (List Int))) × (List SGrindSession))) (r : Int) (h : ngrind_each_1_k_grind_validSessions_1_1 k q0_0 q1_0 = some r) : VC Go.Proofs.Try.prog 63 [VV.tp [vi q0_0] 0, VV.tp [VV.fn 71 [VV.tp [VV.mt (List.flatMap (mpE v_37) q1_0.1)] 0, VV.tp [VV.tr (List.flatMap c_SGrindSession q1_0.2) q1_0.2.length] 0]] 0] (vi r) := by
 unfold ngrind_each_1_k_grind_validSessions_1_1 at h
 have e2409 := (show loadL Go.Proofs.Try.prog 3 0 [vi q0_0] = some (vi q0_0) from (ld_one ag3 rfl))
 obtain ⟨r2429, h2428, h⟩ := bs h
 have hph2428 := ngrind_each_1_k_grind_validSessions_1_1_l0_0_ok k q0_0 q1_0 _ _ _ h2428
 cases r2429 with
 | inl r2430 =>
  dsimp only at h
  have e2432 := (an (ti trivial) (VRun.loop hph2428))
  injection h with h; subst h
  exact fun_ok pm pn Go.Proofs.Try.func63 (r0 := vi r2430) (ans := [.reg (.n :: []), .reg (.v (vi q0_0) :: .n :: []), .sub ⟨[(1, none), (5, none), (6, none)], [], []⟩ .ret (ngrind_each_1_k_grind_validSessions_1_1_l0_0_e0 q0_0 q1_0 r2430)]) (fr := true) (by kernel_rfl) (an (an (ti trivial) (an (an e2409 (ti trivial)) e2432)) (ti trivial)) (Wv.refl _)
 | inr r2431 =>
  dsimp only at h
  have e2433 := (an (ti trivial) (VRun.loop hph2428))
  injection h with h; subst h
  exact fun_ok pm pn Go.Proofs.Try.func63 (r0 := vi 0) (ans := [.reg (.n :: []), .reg (.v (vi q0_0) :: .n :: []), .sub ⟨[(1, none), (5, none), (6, none)], [], []⟩ (.exit 0) (ngrind_each_1_k_grind_validSessions_1_1_l0_0_e1 q0_0 q1_0 r2431), .reg (.n :: [])]) (fr := true) (by kernel_rfl) (an (an (ti trivial) (an (an (an e2409 (ti trivial)) e2433) (an (ti trivial) trivial))) (ti trivial)) (Wv.refl _)
def arK5_7 (z0 : ((Bool × Int) × (Int × ((List (ByteArray × (List Int))) × (List SGrindSession))))) : List Ans := (.n :: .v (VV.fn 63 [VV.tp [vi z0.2.1] 0, VV.tp [VV.fn 71 [VV.tp [VV.mt (List.flatMap (mpE v_37) z0.2.2.1)] 0, VV.tp [VV.tr (List.flatMap c_SGrindSession z0.2.2.2) z0.2.2.2.length] 0]] 0]) :: .n :: [])
def ngrind_firstOf_c0_Lgrind_need_1_grind_each_1_grind_validSessions_1_1 (k : Nat) (a0 : ((Bool × Int) × (Int × ((List (ByteArray × (List Int))) × (List SGrindSession))))) : Option Int :=
  (ngrind_need_1 k a0.1.1 a0.1.2).bind fun r2440 => (if r2440 = 0 then ((ngrind_each_1_k_grind_validSessions_1_1 k a0.2.1 a0.2.2).bind fun r2446 => (if r2446 = 0 then (some 0) else (some r2446))) else (some r2440))
theorem ngrind_firstOf_c0_Lgrind_need_1_grind_each_1_grind_validSessions_1_1_ok (k : Nat) (a0 : ((Bool × Int) × (Int × ((List (ByteArray × (List Int))) × (List SGrindSession))))) (r : Int) (h : ngrind_firstOf_c0_Lgrind_need_1_grind_each_1_grind_validSessions_1_1 k a0 = some r) : VC Go.Proofs.Try.prog 36 [VV.tr ([VV.fn 61 [VV.tp [vb a0.1.1] 0, VV.tp [vi a0.1.2] 0], VV.fn 63 [VV.tp [vi a0.2.1] 0, VV.tp [VV.fn 71 [VV.tp [VV.mt (List.flatMap (mpE v_37) a0.2.2.1)] 0, VV.tp [VV.tr (List.flatMap c_SGrindSession a0.2.2.2) a0.2.2.2.length] 0]] 0]]) 2] (vi r) := by
 unfold ngrind_firstOf_c0_Lgrind_need_1_grind_each_1_grind_validSessions_1_1 at h
 have e2438 := (show (0 : Int) ≤ 0 ∧ (0 : Int) < ((2 : Nat) : Int) from ⟨by decide, by decide⟩)
 have e2439 := (show loadL Go.Proofs.Try.prog 80 ((0 : Int).toNat * 1) ([VV.fn 61 [VV.tp [vb a0.1.1] 0, VV.tp [vi a0.1.2] 0], VV.fn 63 [VV.tp [vi a0.2.1] 0, VV.tp [VV.fn 71 [VV.tp [VV.mt (List.flatMap (mpE v_37) a0.2.2.1)] 0, VV.tp [VV.tr (List.flatMap c_SGrindSession a0.2.2.2) a0.2.2.2.length] 0]] 0]]) = some (VV.fn 61 [VV.tp [vb a0.1.1] 0, VV.tp [vi a0.1.2] 0]) from (ld_one ag80 rfl))
 obtain ⟨r2440, h2441, h⟩ := bs h
 have e2442 := (ngrind_need_1_ok k a0.1.1 a0.1.2 _ h2441)
 rcases ifs h with ⟨h2443, h⟩ | ⟨h2443, h⟩
 ·have e2444 := (show (0 : Int) ≤ 1 ∧ (1 : Int) < ((2 : Nat) : Int) from ⟨by decide, by decide⟩)
  have e2445 := (show loadL Go.Proofs.Try.prog 80 ((1 : Int).toNat * 1) ([VV.fn 61 [VV.tp [vb a0.1.1] 0, VV.tp [vi a0.1.2] 0], VV.fn 63 [VV.tp [vi a0.2.1] 0, VV.tp [VV.fn 71 [VV.tp [VV.mt (List.flatMap (mpE v_37) a0.2.2.1)] 0, VV.tp [VV.tr (List.flatMap c_SGrindSession a0.2.2.2) a0.2.2.2.length] 0]] 0]]) = some (VV.fn 63 [VV.tp [vi a0.2.1] 0, VV.tp [VV.fn 71 [VV.tp [VV.mt (List.flatMap (mpE v_37) a0.2.2.1)] 0, VV.tp [VV.tr (List.flatMap c_SGrindSession a0.2.2.2) a0.2.2.2.length] 0]] 0]) from (ld_one ag80 rfl))
  obtain ⟨r2446, h2447, h⟩ := bs h
  have e2448 := (ngrind_each_1_k_grind_validSessions_1_1_ok k a0.2.1 a0.2.2 _ h2447)
  rcases ifs h with ⟨h2449, h⟩ | ⟨h2449, h⟩
  ·injection h with h; subst h
   exact fun_ok pm pn Go.Proofs.Try.func36 (r0 := vi 0) (ans := [.reg (.n :: []), .reg (nN 3 []), .unr 4, .reg (.n :: []), .br true, .reg (.n :: .v (VV.fn 61 [VV.tp [vb a0.1.1] 0, VV.tp [vi a0.1.2] 0]) :: .n :: []), .reg (.n :: .call (vi r2440) :: .n :: []), .reg (.n :: .n :: []), .br false, .reg (.n :: .n :: []), .reg (.n :: []), .br true, .reg (arK5_7 a0), .reg (.n :: .call (vi r2446) :: .n :: []), .reg (.n :: .n :: []), .br false, .reg (.n :: .n :: []), .reg (.n :: []), .br false, .reg (.n :: [])]) (fr := true) (by kernel_rfl) (an (an (ti trivial) (an (an (ti (ti (ti trivial))) (an (an (ti trivial) (an (an (show (decide ((0 : Int) < 2)) = true from (decide_eq_true (by decide))) trivial) (an (an (an e2438 (an e2439 (ti trivial))) (an (ti (an e2442 (ti trivial))) (an (ti (ti trivial)) (an (not_f (decide_eq_true h2443)) trivial)))) (ti (ti trivial))))) (an (an (ti trivial) (an (an (show (decide ((1 : Int) < 2)) = true from (decide_eq_true (by decide))) trivial) (an (an (an e2444 (an e2445 (ti trivial))) (an (ti (an e2448 (ti trivial))) (an (ti (ti trivial)) (an (not_f (decide_eq_true h2449)) trivial)))) (ti (ti trivial))))) (an (ti trivial) (an (show (decide ((2 : Int) < 2)) = false from (decide_eq_false (by decide))) trivial))))) (an (ti trivial) trivial))) (ti trivial)) (Wv.refl _)
  ·injection h with h; subst h
   exact fun_ok pm pn Go.Proofs.Try.func36 (r0 := vi r2446) (ans := [.reg (.n :: []), .reg (nN 3 []), .unr 3, .reg (.n :: []), .br true, .reg (.n :: .v (VV.fn 61 [VV.tp [vb a0.1.1] 0, VV.tp [vi a0.1.2] 0]) :: .n :: []), .reg (.n :: .call (vi r2440) :: .n :: []), .reg (.n :: .n :: []), .br false, .reg (.n :: .n :: []), .reg (.n :: []), .br true, .reg (arK5_7 a0), .reg (.n :: .call (vi r2446) :: .n :: []), .reg (.n :: .n :: []), .br true, .reg (.n :: .n :: [])]) (fr := true) (by kernel_rfl) (an (an (ti trivial) (an (ti (ti (ti trivial))) (an (an (ti trivial) (an (an (show (decide ((0 : Int) < 2)) = true from (decide_eq_true (by decide))) trivial) (an (an (an e2438 (an e2439 (ti trivial))) (an (ti (an e2442 (ti trivial))) (an (ti (ti trivial)) (an (not_f (decide_eq_true h2443)) trivial)))) (ti (ti trivial))))) (an (ti trivial) (an (an (show (decide ((1 : Int) < 2)) = true from (decide_eq_true (by decide))) trivial) (an (an e2444 (an e2445 (ti trivial))) (an (ti (an e2448 (ti trivial))) (an (ti (ti trivial)) (an (not_t (decide_eq_false h2449)) (an (ti (ti trivial)) trivial)))))))))) (ti trivial)) (Wv.refl _)
 ·injection h with h; subst h
  exact fun_ok pm pn Go.Proofs.Try.func36 (r0 := vi r2440) (ans := [.reg (.n :: []), .reg (nN 3 []), .unr 2, .reg (.n :: []), .br true, .reg (.n :: .v (VV.fn 61 [VV.tp [vb a0.1.1] 0, VV.tp [vi a0.1.2] 0]) :: .n :: []), .reg (.n :: .call (vi r2440) :: .n :: []), .reg (.n :: .n :: []), .br true, .reg (.n :: .n :: [])]) (fr := true) (by kernel_rfl) (an (an (ti trivial) (an (ti (ti (ti trivial))) (an (ti trivial) (an (an (show (decide ((0 : Int) < 2)) = true from (decide_eq_true (by decide))) trivial) (an (an e2438 (an e2439 (ti trivial))) (an (ti (an e2442 (ti trivial))) (an (ti (ti trivial)) (an (not_t (decide_eq_false h2443)) (an (ti (ti trivial)) trivial))))))))) (ti trivial)) (Wv.refl _)
theorem eqK5_3 (z0 : (Bool × Int)) (z1 : (Int × ((List (ByteArray × (List Int))) × (List SGrindSession)))) : [VV.tr ([VV.fn 61 [VV.tp [vb (((z0, z1).1).1)] 0, VV.tp [vi (((z0, z1).1).2)] 0], VV.fn 63 [VV.tp [vi (((z0, z1).2).1)] 0, VV.tp [VV.fn 71 [VV.tp [VV.mt (List.flatMap (mpE v_37) ((((z0, z1).2).2).1))] 0, VV.tp [VV.tr (List.flatMap c_SGrindSession ((((z0, z1).2).2).2)) (((((z0, z1).2).2).2).length)] 0]] 0]]) 2] = [VV.tr (List.drop 0 (List.map unfr [VV.fn 61 [VV.tp [vb z0.1] 0, VV.tp [vi z0.2] 0], VV.fn 63 [VV.tp [vi z1.1] 0, VV.tp [VV.fn 71 [VV.tp [VV.mt (List.flatMap (mpE v_37) z1.2.1)] 0, VV.tp [VV.tr (List.flatMap c_SGrindSession z1.2.2) z1.2.2.length] 0]] 0]])) 2] := by first | rfl | (simp only [drop0, unfr_vi, unfr_vb, List.map_cons, List.map_nil, un_i, un_b, un_tr, List.length_map, List.length_cons, List.length_nil, unfr_c_SGrindSession, unfr_v_37]; done) | (simp only [drop0, unfr_vi, unfr_vb, List.map_cons, List.map_nil, un_i, un_b, un_tr, List.length_map, List.length_cons, List.length_nil, unfr_c_SGrindSession, unfr_v_37]; rfl) | (simp only [drop0, unfr_vi, unfr_vb, List.map_cons, List.map_nil, un_i, un_b, un_tr, List.length_map, List.length_cons, List.length_nil, unfr_c_SGrindSession, unfr_v_37, c_SGrindSession, List.length_cons, List.length_nil, List.length_append]; done)
def arK5_8 (z0 : (List SStroke)) (z1 : (List (ByteArray × (List Int)))) : List Ans := (.v (VV.tr (List.flatMap c_SStroke z0) z0.length) :: .call (VV.mt (List.flatMap (mpE v_37) z1)) :: .n :: .n :: [])
def arK5_9 (z0 : (List SGrindSession)) (z1 : (Bool × Int)) (z2 : (Int × ((List (ByteArray × (List Int))) × (List SGrindSession)))) (z3 : Int) : List Ans := (.v (VV.tr (List.flatMap c_SGrindSession z0) z0.length) :: .n :: .n :: .call (VV.fn 61 [VV.tp [vb z1.1] 0, VV.tp [vi z1.2] 0]) :: .v (VV.tr (List.flatMap c_SGrindSession z0) z0.length) :: .n :: .n :: .call (VV.fn 63 [VV.tp [vi z2.1] 0, VV.tp [VV.fn 71 [VV.tp [VV.mt (List.flatMap (mpE v_37) z2.2.1)] 0, VV.tp [VV.tr (List.flatMap c_SGrindSession z2.2.2) z2.2.2.length] 0]] 0]) :: .n :: .call (vi z3) :: .n :: [])
def ngrind_validSessions_1 (k : Nat) (q0_0 : (List SStroke)) (q1_0 : (List SGrindSession)) : Option Int :=
  (ngrind_wearByName k q0_0).bind fun r2455 => ((ngrind_need k (decide ((q1_0.length : Int) ≤ 200)) 8).bind fun r2459 => ((ngrind_each_c1_grind_validSessions_1_1 k (q1_0.length : Int) (r2455, q1_0)).bind fun r2463 => ((ngrind_firstOf_c0_Lgrind_need_1_grind_each_1_grind_validSessions_1_1 k (r2459, r2463)).bind fun r2466 => (some r2466))))
theorem ngrind_validSessions_1_ok (k : Nat) (q0_0 : (List SStroke)) (q1_0 : (List SGrindSession)) (r : Int) (h : ngrind_validSessions_1 k q0_0 q1_0 = some r) : VC Go.Proofs.Try.prog 69 [VV.tp [VV.tr (List.flatMap c_SStroke q0_0) q0_0.length] 0, VV.tp [VV.tr (List.flatMap c_SGrindSession q1_0) q1_0.length] 0] (vi r) := by
 unfold ngrind_validSessions_1 at h
 have e2454 := (show loadL Go.Proofs.Try.prog 51 0 [VV.tr (List.flatMap c_SStroke q0_0) q0_0.length] = some (VV.tr (List.flatMap c_SStroke q0_0) q0_0.length) from (ld_one ag51 rfl))
 obtain ⟨r2455, h2456, h⟩ := bs h
 have e2457 := (an e2454 (an (ngrind_wearByName_ok k q0_0 _ h2456) (ti (ti trivial))))
 have e2458 := (show loadL Go.Proofs.Try.prog 52 0 [VV.tr (List.flatMap c_SGrindSession q1_0) q1_0.length] = some (VV.tr (List.flatMap c_SGrindSession q1_0) q1_0.length) from (ld_one ag52 rfl))
 obtain ⟨r2459, h2460, h⟩ := bs h
 have e2461 := (ngrind_need_ok k (decide ((q1_0.length : Int) ≤ 200)) 8 _ h2460)
 have e2462 := (show loadL Go.Proofs.Try.prog 52 0 [VV.tr (List.flatMap c_SGrindSession q1_0) q1_0.length] = some (VV.tr (List.flatMap c_SGrindSession q1_0) q1_0.length) from (ld_one ag52 rfl))
 obtain ⟨r2463, h2464, h⟩ := bs h
 have e2465 := (VC.args (ngrind_each_c1_grind_validSessions_1_1_ok k (q1_0.length : Int) (r2455, q1_0) _ h2464) (eqK5_0 q1_0 r2455))
 obtain ⟨r2466, h2467, h⟩ := bs h
 have e2468 := (VC.args (ngrind_firstOf_c0_Lgrind_need_1_grind_each_1_grind_validSessions_1_1_ok k (r2459, r2463) _ h2467) (eqK5_3 r2459 r2463))
 have e2469 := (an e2458 (ti (ti (an e2461 (an e2462 (ti (ti (an e2465 (ti (an e2468 (ti trivial)))))))))))
 injection h with h; subst h
 exact fun_ok pm pn Go.Proofs.Try.func69 (r0 := vi r2466) (ans := [.reg (.n :: []), .reg (arK5_8 q0_0 r2455), .frz 0, .reg (arK5_9 q1_0 r2459 r2463 r2466)]) (fr := true) (by kernel_rfl) (an (an (ti trivial) (an e2457 (an e2469 trivial))) (ti trivial)) (Wv.refl _)
def arK5_10 (z0 : ((List SStroke) × ((List SStroke) × (List SGrindSession)) × (Bool × Int))) : List Ans := (.n :: .v (VV.fn 67 [VV.tp [VV.tr (List.flatMap c_SStroke z0.1) z0.1.length] 0]) :: .n :: [])
def arK5_11 (z0 : ((List SStroke) × ((List SStroke) × (List SGrindSession)) × (Bool × Int))) : List Ans := (.n :: .v (VV.fn 69 [VV.tp [VV.tr (List.flatMap c_SStroke z0.2.1.1) z0.2.1.1.length] 0, VV.tp [VV.tr (List.flatMap c_SGrindSession z0.2.1.2) z0.2.1.2.length] 0]) :: .n :: [])
def ngrind_firstOf_c0_Lgrind_validStrokes_1_grind_validSessions_1_grind_need_1 (k : Nat) (a0 : ((List SStroke) × ((List SStroke) × (List SGrindSession)) × (Bool × Int))) : Option Int :=
  (ngrind_validStrokes_1 k a0.1).bind fun r2482 => (if r2482 = 0 then ((ngrind_validSessions_1 k a0.2.1.1 a0.2.1.2).bind fun r2488 => (if r2488 = 0 then ((ngrind_need_1 k a0.2.2.1 a0.2.2.2).bind fun r2494 => (if r2494 = 0 then (some 0) else (some r2494))) else (some r2488))) else (some r2482))
theorem ngrind_firstOf_c0_Lgrind_validStrokes_1_grind_validSessions_1_grind_need_1_ok (k : Nat) (a0 : ((List SStroke) × ((List SStroke) × (List SGrindSession)) × (Bool × Int))) (r : Int) (h : ngrind_firstOf_c0_Lgrind_validStrokes_1_grind_validSessions_1_grind_need_1 k a0 = some r) : VC Go.Proofs.Try.prog 36 [VV.tr ([VV.fn 67 [VV.tp [VV.tr (List.flatMap c_SStroke a0.1) a0.1.length] 0], VV.fn 69 [VV.tp [VV.tr (List.flatMap c_SStroke a0.2.1.1) a0.2.1.1.length] 0, VV.tp [VV.tr (List.flatMap c_SGrindSession a0.2.1.2) a0.2.1.2.length] 0], VV.fn 61 [VV.tp [vb a0.2.2.1] 0, VV.tp [vi a0.2.2.2] 0]]) 3] (vi r) := by
 unfold ngrind_firstOf_c0_Lgrind_validStrokes_1_grind_validSessions_1_grind_need_1 at h
 have e2480 := (show (0 : Int) ≤ 0 ∧ (0 : Int) < ((3 : Nat) : Int) from ⟨by decide, by decide⟩)
 have e2481 := (show loadL Go.Proofs.Try.prog 80 ((0 : Int).toNat * 1) ([VV.fn 67 [VV.tp [VV.tr (List.flatMap c_SStroke a0.1) a0.1.length] 0], VV.fn 69 [VV.tp [VV.tr (List.flatMap c_SStroke a0.2.1.1) a0.2.1.1.length] 0, VV.tp [VV.tr (List.flatMap c_SGrindSession a0.2.1.2) a0.2.1.2.length] 0], VV.fn 61 [VV.tp [vb a0.2.2.1] 0, VV.tp [vi a0.2.2.2] 0]]) = some (VV.fn 67 [VV.tp [VV.tr (List.flatMap c_SStroke a0.1) a0.1.length] 0]) from (ld_one ag80 rfl))
 obtain ⟨r2482, h2483, h⟩ := bs h
 have e2484 := (ngrind_validStrokes_1_ok k a0.1 _ h2483)
 rcases ifs h with ⟨h2485, h⟩ | ⟨h2485, h⟩
 ·have e2486 := (show (0 : Int) ≤ 1 ∧ (1 : Int) < ((3 : Nat) : Int) from ⟨by decide, by decide⟩)
  have e2487 := (show loadL Go.Proofs.Try.prog 80 ((1 : Int).toNat * 1) ([VV.fn 67 [VV.tp [VV.tr (List.flatMap c_SStroke a0.1) a0.1.length] 0], VV.fn 69 [VV.tp [VV.tr (List.flatMap c_SStroke a0.2.1.1) a0.2.1.1.length] 0, VV.tp [VV.tr (List.flatMap c_SGrindSession a0.2.1.2) a0.2.1.2.length] 0], VV.fn 61 [VV.tp [vb a0.2.2.1] 0, VV.tp [vi a0.2.2.2] 0]]) = some (VV.fn 69 [VV.tp [VV.tr (List.flatMap c_SStroke a0.2.1.1) a0.2.1.1.length] 0, VV.tp [VV.tr (List.flatMap c_SGrindSession a0.2.1.2) a0.2.1.2.length] 0]) from (ld_one ag80 rfl))
  obtain ⟨r2488, h2489, h⟩ := bs h
  have e2490 := (ngrind_validSessions_1_ok k a0.2.1.1 a0.2.1.2 _ h2489)
  rcases ifs h with ⟨h2491, h⟩ | ⟨h2491, h⟩
  ·have e2492 := (show (0 : Int) ≤ 2 ∧ (2 : Int) < ((3 : Nat) : Int) from ⟨by decide, by decide⟩)
   have e2493 := (show loadL Go.Proofs.Try.prog 80 ((2 : Int).toNat * 1) ([VV.fn 67 [VV.tp [VV.tr (List.flatMap c_SStroke a0.1) a0.1.length] 0], VV.fn 69 [VV.tp [VV.tr (List.flatMap c_SStroke a0.2.1.1) a0.2.1.1.length] 0, VV.tp [VV.tr (List.flatMap c_SGrindSession a0.2.1.2) a0.2.1.2.length] 0], VV.fn 61 [VV.tp [vb a0.2.2.1] 0, VV.tp [vi a0.2.2.2] 0]]) = some (VV.fn 61 [VV.tp [vb a0.2.2.1] 0, VV.tp [vi a0.2.2.2] 0]) from (ld_one ag80 rfl))
   obtain ⟨r2494, h2495, h⟩ := bs h
   have e2496 := (ngrind_need_1_ok k a0.2.2.1 a0.2.2.2 _ h2495)
   rcases ifs h with ⟨h2497, h⟩ | ⟨h2497, h⟩
   ·injection h with h; subst h
    exact fun_ok pm pn Go.Proofs.Try.func36 (r0 := vi 0) (ans := [.reg (.n :: []), .reg (nN 3 []), .unr 5, .reg (.n :: []), .br true, .reg (arK5_10 a0), .reg (.n :: .call (vi r2482) :: .n :: []), .reg (.n :: .n :: []), .br false, .reg (.n :: .n :: []), .reg (.n :: []), .br true, .reg (arK5_11 a0), .reg (.n :: .call (vi r2488) :: .n :: []), .reg (.n :: .n :: []), .br false, .reg (.n :: .n :: []), .reg (.n :: []), .br true, .reg (.n :: .v (VV.fn 61 [VV.tp [vb a0.2.2.1] 0, VV.tp [vi a0.2.2.2] 0]) :: .n :: []), .reg (.n :: .call (vi r2494) :: .n :: []), .reg (.n :: .n :: []), .br false, .reg (.n :: .n :: []), .reg (.n :: []), .br false, .reg (.n :: [])]) (fr := true) (by kernel_rfl) (an (an (ti trivial) (an (an (ti (ti (ti trivial))) (an (an (ti trivial) (an (an (show (decide ((0 : Int) < 3)) = true from (decide_eq_true (by decide))) trivial) (an (an (an e2480 (an e2481 (ti trivial))) (an (ti (an e2484 (ti trivial))) (an (ti (ti trivial)) (an (not_f (decide_eq_true h2485)) trivial)))) (ti (ti trivial))))) (an (an (ti trivial) (an (an (show (decide ((1 : Int) < 3)) = true from (decide_eq_true (by decide))) trivial) (an (an (an e2486 (an e2487 (ti trivial))) (an (ti (an e2490 (ti trivial))) (an (ti (ti trivial)) (an (not_f (decide_eq_true h2491)) trivial)))) (ti (ti trivial))))) (an (an (ti trivial) (an (an (show (decide ((2 : Int) < 3)) = true from (decide_eq_true (by decide))) trivial) (an (an (an e2492 (an e2493 (ti trivial))) (an (ti (an e2496 (ti trivial))) (an (ti (ti trivial)) (an (not_f (decide_eq_true h2497)) trivial)))) (ti (ti trivial))))) (an (ti trivial) (an (show (decide ((3 : Int) < 3)) = false from (decide_eq_false (by decide))) trivial)))))) (an (ti trivial) trivial))) (ti trivial)) (Wv.refl _)
   ·injection h with h; subst h
    exact fun_ok pm pn Go.Proofs.Try.func36 (r0 := vi r2494) (ans := [.reg (.n :: []), .reg (nN 3 []), .unr 4, .reg (.n :: []), .br true, .reg (arK5_10 a0), .reg (.n :: .call (vi r2482) :: .n :: []), .reg (.n :: .n :: []), .br false, .reg (.n :: .n :: []), .reg (.n :: []), .br true, .reg (arK5_11 a0), .reg (.n :: .call (vi r2488) :: .n :: []), .reg (.n :: .n :: []), .br false, .reg (.n :: .n :: []), .reg (.n :: []), .br true, .reg (.n :: .v (VV.fn 61 [VV.tp [vb a0.2.2.1] 0, VV.tp [vi a0.2.2.2] 0]) :: .n :: []), .reg (.n :: .call (vi r2494) :: .n :: []), .reg (.n :: .n :: []), .br true, .reg (.n :: .n :: [])]) (fr := true) (by kernel_rfl) (an (an (ti trivial) (an (ti (ti (ti trivial))) (an (an (ti trivial) (an (an (show (decide ((0 : Int) < 3)) = true from (decide_eq_true (by decide))) trivial) (an (an (an e2480 (an e2481 (ti trivial))) (an (ti (an e2484 (ti trivial))) (an (ti (ti trivial)) (an (not_f (decide_eq_true h2485)) trivial)))) (ti (ti trivial))))) (an (an (ti trivial) (an (an (show (decide ((1 : Int) < 3)) = true from (decide_eq_true (by decide))) trivial) (an (an (an e2486 (an e2487 (ti trivial))) (an (ti (an e2490 (ti trivial))) (an (ti (ti trivial)) (an (not_f (decide_eq_true h2491)) trivial)))) (ti (ti trivial))))) (an (ti trivial) (an (an (show (decide ((2 : Int) < 3)) = true from (decide_eq_true (by decide))) trivial) (an (an e2492 (an e2493 (ti trivial))) (an (ti (an e2496 (ti trivial))) (an (ti (ti trivial)) (an (not_t (decide_eq_false h2497)) (an (ti (ti trivial)) trivial))))))))))) (ti trivial)) (Wv.refl _)
  ·injection h with h; subst h
   exact fun_ok pm pn Go.Proofs.Try.func36 (r0 := vi r2488) (ans := [.reg (.n :: []), .reg (nN 3 []), .unr 3, .reg (.n :: []), .br true, .reg (arK5_10 a0), .reg (.n :: .call (vi r2482) :: .n :: []), .reg (.n :: .n :: []), .br false, .reg (.n :: .n :: []), .reg (.n :: []), .br true, .reg (arK5_11 a0), .reg (.n :: .call (vi r2488) :: .n :: []), .reg (.n :: .n :: []), .br true, .reg (.n :: .n :: [])]) (fr := true) (by kernel_rfl) (an (an (ti trivial) (an (ti (ti (ti trivial))) (an (an (ti trivial) (an (an (show (decide ((0 : Int) < 3)) = true from (decide_eq_true (by decide))) trivial) (an (an (an e2480 (an e2481 (ti trivial))) (an (ti (an e2484 (ti trivial))) (an (ti (ti trivial)) (an (not_f (decide_eq_true h2485)) trivial)))) (ti (ti trivial))))) (an (ti trivial) (an (an (show (decide ((1 : Int) < 3)) = true from (decide_eq_true (by decide))) trivial) (an (an e2486 (an e2487 (ti trivial))) (an (ti (an e2490 (ti trivial))) (an (ti (ti trivial)) (an (not_t (decide_eq_false h2491)) (an (ti (ti trivial)) trivial)))))))))) (ti trivial)) (Wv.refl _)
 ·injection h with h; subst h
  exact fun_ok pm pn Go.Proofs.Try.func36 (r0 := vi r2482) (ans := [.reg (.n :: []), .reg (nN 3 []), .unr 2, .reg (.n :: []), .br true, .reg (arK5_10 a0), .reg (.n :: .call (vi r2482) :: .n :: []), .reg (.n :: .n :: []), .br true, .reg (.n :: .n :: [])]) (fr := true) (by kernel_rfl) (an (an (ti trivial) (an (ti (ti (ti trivial))) (an (ti trivial) (an (an (show (decide ((0 : Int) < 3)) = true from (decide_eq_true (by decide))) trivial) (an (an e2480 (an e2481 (ti trivial))) (an (ti (an e2484 (ti trivial))) (an (ti (ti trivial)) (an (not_t (decide_eq_false h2485)) (an (ti (ti trivial)) trivial))))))))) (ti trivial)) (Wv.refl _)
theorem eqK5_4 (z0 : (List SStroke)) (z1 : ((List SStroke) × (List SGrindSession))) (z2 : (Bool × Int)) : [VV.tr ([VV.fn 67 [VV.tp [VV.tr (List.flatMap c_SStroke ((z0, z1, z2).1)) (((z0, z1, z2).1).length)] 0], VV.fn 69 [VV.tp [VV.tr (List.flatMap c_SStroke (((z0, z1, z2).2.1).1)) ((((z0, z1, z2).2.1).1).length)] 0, VV.tp [VV.tr (List.flatMap c_SGrindSession (((z0, z1, z2).2.1).2)) ((((z0, z1, z2).2.1).2).length)] 0], VV.fn 61 [VV.tp [vb (((z0, z1, z2).2.2).1)] 0, VV.tp [vi (((z0, z1, z2).2.2).2)] 0]]) 3] = [VV.tr (List.drop 0 (List.map unfr [VV.fn 67 [VV.tp [VV.tr (List.flatMap c_SStroke z0) z0.length] 0], VV.fn 69 [VV.tp [VV.tr (List.flatMap c_SStroke z1.1) z1.1.length] 0, VV.tp [VV.tr (List.flatMap c_SGrindSession z1.2) z1.2.length] 0], VV.fn 61 [VV.tp [vb z2.1] 0, VV.tp [vi z2.2] 0]])) 3] := by first | rfl | (simp only [drop0, unfr_vi, unfr_vb, List.map_cons, List.map_nil, un_i, un_b, un_tr, List.length_map, List.length_cons, List.length_nil, unfr_c_SStroke, unfr_c_SGrindSession]; done) | (simp only [drop0, unfr_vi, unfr_vb, List.map_cons, List.map_nil, un_i, un_b, un_tr, List.length_map, List.length_cons, List.length_nil, unfr_c_SStroke, unfr_c_SGrindSession]; rfl) | (simp only [drop0, unfr_vi, unfr_vb, List.map_cons, List.map_nil, un_i, un_b, un_tr, List.length_map, List.length_cons, List.length_nil, unfr_c_SStroke, unfr_c_SGrindSession, c_SStroke, c_SGrindSession, List.length_cons, List.length_nil, List.length_append]; done)
def arK5_12 (z0 : (List (ByteArray × (List Int)))) (z1 : (List SGrindSession)) (z2 : Int) : List Ans := (.n :: .n :: .v (vi ((mget z0 ((z1.getD ((0 : Int)).toNat default).Stroke)).getD z2.toNat 0)) :: .n :: .n :: [])
def arK5_13 (z0 : (List (ByteArray × (List Int)))) (z1 : (List SGrindSession)) (z2 : Int) (z3 : Int) : List Ans := (.n :: .n :: .v (vi ((mget z0 ((z1.getD z2.toNat default).Stroke)).getD z3.toNat 0)) :: .n :: .n :: [])
def arK5_14 (z0 : (List (ByteArray × (List Int)))) (z1 : (List SGrindSession)) (z2 : Int) : List Ans := (nN 3 (.v (VV.tr (List.map vi (mget z0 ((z1.getD z2.toNat default).Stroke))) ((mget z0 ((z1.getD z2.toNat default).Stroke)).length)) :: .n :: .n :: []))
def ngrind_wearOf_l1_0_h (a1 : (List SGrindSession)) (a2 : ByteArray) (x20 : Int) (x7 : (List (ByteArray × (List Int)))) (y0z : List Int) (x33 : Int) : VS := ⟨mkA [(2, vs a2), (7, VV.mt (List.flatMap (mpE v_37) x7)), (8, VV.rf 0 0 y0z.length), (10, VV.pt 1 0), (18, VV.tr (List.flatMap c_SGrindSession a1) a1.length), (19, vi (a1.length : Int)), (20, vi x20), (31, VV.tr (List.map vi (mget x7 ((a1.getD x20.toNat default).Stroke))) ((mget x7 ((a1.getD x20.toNat default).Stroke)).length)), (32, vi ((mget x7 ((a1.getD x20.toNat default).Stroke)).length : Int)), (33, vi x33)], [some ⟨false, 1, List.map vi y0z⟩, some ⟨true, 1, c_SGrindSession (a1.getD x20.toNat default)⟩], .nil⟩
def ngrind_wearOf_l1_0_e0 (a1 : (List SGrindSession)) (a2 : ByteArray) (x20 : Int) (x7 : (List (ByteArray × (List Int)))) (r : (List (ByteArray × (List Int))) × (List Int)) : VS := ⟨mkA [(2, vs a2), (7, VV.mt (List.flatMap (mpE v_37) r.1)), (8, VV.rf 0 0 r.2.length), (18, VV.tr (List.flatMap c_SGrindSession a1) a1.length), (19, vi (a1.length : Int)), (20, vi x20)], [some ⟨false, 1, List.map vi r.2⟩], .nil⟩
def ngrind_wearOf_l1_0 (k : Nat) (a1 : (List SGrindSession)) (a2 : ByteArray) (x20 : Int) (x7 : (List (ByteArray × (List Int)))) : Nat → (List Int) → Int → Option ((List (ByteArray × (List Int))) × (List Int))
  | 0, _, _ => none
  | fuel + 1, y0z, x33 => if x33 < ((mget x7 ((a1.getD x20.toNat default).Stroke)).length : Int) then (if 0 ≤ x33 ∧ x33 < ((mget x7 ((a1.getD x20.toNat default).Stroke)).length : Int) then (if 0 ≤ x33 ∧ x33 < (y0z.length : Int) then (ngrind_wearOf_l1_0 k a1 a2 x20 x7 fuel (y0z.set x33.toNat (w64 ((y0z.getD x33.toNat 0) + (w64 (((a1.getD x20.toNat default).Minutes) * ((mget x7 ((a1.getD x20.toNat default).Stroke)).getD x33.toNat 0)))))) (w64 (x33 + 1))) else none) else none) else (some (x7, y0z))
theorem ngrind_wearOf_l1_0_ok (k : Nat) (a1 : (List SGrindSession)) (a2 : ByteArray) (x20 : Int) (x7 : (List (ByteArray × (List Int)))) : ∀ (fuel : Nat) (y0z : List Int) (x33 : Int) (r : (List (ByteArray × (List Int))) × (List Int)), ngrind_wearOf_l1_0 k a1 a2 x20 x7 fuel y0z x33 = some r → (VLoop none Go.Proofs.Try.prog (szF Go.Proofs.Try.f51) (bodyOf Go.Proofs.Try.f51 1) (ngrind_wearOf_l1_0_h a1 a2 x20 x7 y0z x33) (.exit 2) (ngrind_wearOf_l1_0_e0 a1 a2 x20 x7 r)) := by
 intro fuel
 induction fuel with
 | zero => intro y0z x33 r h; rw [ngrind_wearOf_l1_0.eq_1] at h; cases h
 | succ fuel ih =>
  intro y0z x33 r h
  rw [ngrind_wearOf_l1_0.eq_2] at h
  rcases ifs h with ⟨h2716, h⟩ | ⟨h2716, h⟩
  ·obtain ⟨h2717, h⟩ := ifn h
   have e2718 := (show loadL Go.Proofs.Try.prog 3 (x33.toNat * 1) (List.map vi (mget x7 ((a1.getD x20.toNat default).Stroke))) = some (vi ((mget x7 ((a1.getD x20.toNat default).Stroke)).getD x33.toNat 0)) from ld_map ag3 vi (mget x7 ((a1.getD x20.toNat default).Stroke)) 0 h2717 (by omega))
   obtain ⟨h2719, h⟩ := ifn h
   have e2720 := (show loadL Go.Proofs.Try.prog 3 (0 + x33.toNat * 1) (List.map vi y0z) = some (vi (y0z.getD x33.toNat 0)) from ld_map ag3 vi y0z 0 h2719 (by omega))
   have e2721 := (show (0 + x33.toNat * 1) + 1 ≤ List.length (List.map vi y0z) from (by simp only [List.length_map]; omega))
   have e2722 := (ti (ti (an h2719 (an e2720 (ti (ti (ti (ti (ti (an h2719 (an e2721 trivial)))))))))))
   have h2 := ih _ _ _ h
   obtain ⟨q, hv, hq⟩ := pkR (rd := none) (P := Go.Proofs.Try.prog) (fn := Go.Proofs.Try.f51) (k := 1) (s := (ngrind_wearOf_l1_0_h a1 a2 x20 x7 y0z x33)) (ans := [.reg (.n :: []), .br true, .reg (arK5_13 x7 a1 x20 x33), .reg (nN 3 (.v (vi (y0z.getD x33.toNat 0)) :: nN 7 [])), .reg (.n :: .n :: [])]) (c := ⟨[(2, none), (7, none), (8, some (VV.rf 0 0 ((y0z.set x33.toNat (w64 ((y0z.getD x33.toNat 0) + (w64 (((a1.getD x20.toNat default).Minutes) * ((mget x7 ((a1.getD x20.toNat default).Stroke)).getD x33.toNat 0)))))).length))), (10, none), (18, none), (19, none), (20, none), (31, none), (32, none), (33, none)], [some (List.map vi (y0z.set x33.toNat (w64 ((y0z.getD x33.toNat 0) + (w64 (((a1.getD x20.toNat default).Minutes) * ((mget x7 ((a1.getD x20.toNat default).Stroke)).getD x33.toNat 0))))))), none], []⟩) (e := .normal) (s1 := (ngrind_wearOf_l1_0_h a1 a2 x20 x7 (y0z.set x33.toNat (w64 ((y0z.getD x33.toNat 0) + (w64 (((a1.getD x20.toNat default).Minutes) * ((mget x7 ((a1.getD x20.toNat default).Stroke)).getD x33.toNat 0)))))) (w64 (x33 + 1)))) (an (an (ti trivial) (an (an (decide_eq_true h2716) trivial) (an (an (ti (an h2717 (an e2718 (ti (ti trivial))))) e2722) (ti (ti trivial))))) (an (an (show Wv (VV.rf 0 0 y0z.length) (VV.rf 0 0 ((y0z.set x33.toNat (w64 ((y0z.getD x33.toNat 0) + (w64 (((a1.getD x20.toNat default).Minutes) * ((mget x7 ((a1.getD x20.toNat default).Stroke)).getD x33.toNat 0)))))).length)) from (Wv.of_eq (by simp))) trivial) (an (show putT (0 + x33.toNat * 1) (List.map vi y0z) [vi (w64 ((y0z.getD x33.toNat 0) + (w64 (((a1.getD x20.toNat default).Minutes) * ((mget x7 ((a1.getD x20.toNat default).Stroke)).getD x33.toNat 0)))))] = List.map vi (y0z.set x33.toNat (w64 ((y0z.getD x33.toNat 0) + (w64 (((a1.getD x20.toNat default).Minutes) * ((mget x7 ((a1.getD x20.toNat default).Stroke)).getD x33.toNat 0)))))) from (by exact putT_vi y0z h2719 (w64 ((y0z.getD x33.toNat 0) + (w64 (((a1.getD x20.toNat default).Minutes) * ((mget x7 ((a1.getD x20.toNat default).Stroke)).getD x33.toNat 0))))) (by omega))) trivial))) (by kernel_rfl)
   exact round_next pm pn hv hq h2
  ·injection h with h; subst h
   exact round_stop (c := ⟨[(2, none), (7, none), (8, none), (18, none), (19, none), (20, none)], [none], []⟩) (s1 := (ngrind_wearOf_l1_0_e0 a1 a2 x20 x7 (x7, y0z))) pm pn (ans := [.reg (.n :: []), .br false]) (by kernel_rfl) (by intro e; cases e) (an (an (ti trivial) (an (decide_eq_false h2716) trivial)) (ti trivial))
def ngrind_wearOf_l1_1_h (a1 : (List SGrindSession)) (a2 : ByteArray) (y0 : List Int) (x20 : Int) (x7 : (List (ByteArray × (List Int))))  : VS := ⟨mkA [(2, vs a2), (7, VV.mt (List.flatMap (mpE v_37) x7)), (8, VV.rf 0 0 y0.length), (10, VV.pt 1 0), (18, VV.tr (List.flatMap c_SGrindSession a1) a1.length), (19, vi (a1.length : Int)), (20, vi x20), (31, VV.c (.slice none 0 0)), (32, vi 0), (33, vi 0)], [some ⟨false, 1, List.map vi y0⟩, some ⟨true, 1, c_SGrindSession (a1.getD x20.toNat default)⟩], .nil⟩
def ngrind_wearOf_l1_1_e0 (a1 : (List SGrindSession)) (a2 : ByteArray) (y0 : List Int) (x20 : Int) (x7 : (List (ByteArray × (List Int)))) (r : (List (ByteArray × (List Int)))) : VS := ⟨mkA [(2, vs a2), (7, VV.mt (List.flatMap (mpE v_37) r)), (8, VV.rf 0 0 y0.length), (18, VV.tr (List.flatMap c_SGrindSession a1) a1.length), (19, vi (a1.length : Int)), (20, vi x20)], [some ⟨false, 1, List.map vi y0⟩], .nil⟩
def ngrind_wearOf_l1_1 (k : Nat) (a1 : (List SGrindSession)) (a2 : ByteArray) (y0 : List Int) (x20 : Int) (x7 : (List (ByteArray × (List Int)))) : Nat → Option ((List (ByteArray × (List Int))))
  | 0 => none
  | fuel + 1 => some x7
theorem ngrind_wearOf_l1_1_ok (k : Nat) (a1 : (List SGrindSession)) (a2 : ByteArray) (y0 : List Int) (x20 : Int) (x7 : (List (ByteArray × (List Int)))) : ∀ (fuel : Nat)  (r : (List (ByteArray × (List Int)))), ngrind_wearOf_l1_1 k a1 a2 y0 x20 x7 fuel  = some r → (VLoop none Go.Proofs.Try.prog (szF Go.Proofs.Try.f51) (bodyOf Go.Proofs.Try.f51 1) (ngrind_wearOf_l1_1_h a1 a2 y0 x20 x7 ) (.exit 2) (ngrind_wearOf_l1_1_e0 a1 a2 y0 x20 x7 r)) := by
 intro fuel
 induction fuel with
 | zero => intro  r h; rw [ngrind_wearOf_l1_1.eq_1] at h; cases h
 | succ fuel ih =>
  intro  r h
  rw [ngrind_wearOf_l1_1.eq_2] at h
  injection h with h; subst h
  exact round_stop (c := ⟨[(2, none), (7, none), (8, none), (18, none), (19, none), (20, none)], [none], []⟩) (s1 := (ngrind_wearOf_l1_1_e0 a1 a2 y0 x20 x7 x7)) pm pn (ans := [.reg (.n :: []), .br false]) (by kernel_rfl) (by intro e; cases e) (an (an (ti trivial) (an (show (decide ((0 : Int) < 0)) = false from (decide_eq_false (by decide))) trivial)) (ti trivial))
def ngrind_wearOf_l0_0_h (a1 : (List SGrindSession)) (a2 : ByteArray) (y0 : List Int) (x20 : Int) (x7 : (List (ByteArray × (List Int)))) : VS := ⟨mkA [(2, vs a2), (7, VV.mt (List.flatMap (mpE v_37) x7)), (8, VV.rf 0 0 y0.length), (18, VV.tr (List.flatMap c_SGrindSession a1) a1.length), (19, vi (a1.length : Int)), (20, vi x20)], [some ⟨false, 1, List.map vi y0⟩], .nil⟩
def ngrind_wearOf_l0_0_e0 (a1 : (List SGrindSession)) (a2 : ByteArray) (r : (List Int)) : VS := ⟨mkA [(8, VV.rf 0 0 r.length)], [some ⟨false, 1, List.map vi r⟩], .nil⟩
def ngrind_wearOf_l0_0 (k : Nat) (a1 : (List SGrindSession)) (a2 : ByteArray) : Nat → (List Int) → Int → (List (ByteArray × (List Int))) → Option ((List Int))
  | 0, _, _, _ => none
  | fuel + 1, y0, x20, x7 => if x20 < (a1.length : Int) then (if 0 ≤ x20 ∧ x20 < (a1.length : Int) then (if ((a1.getD x20.toNat default).Mirror) = a2 then (if mhas x7 ((a1.getD x20.toNat default).Stroke) = true then ((ngrind_wearOf_l1_0 k a1 a2 x20 x7 k y0 0).bind fun r2724 => (ngrind_wearOf_l0_0 k a1 a2 fuel r2724.2 (w64 (x20 + 1)) r2724.1)) else ((ngrind_wearOf_l1_1 k a1 a2 y0 x20 x7 k).bind fun r2728 => (ngrind_wearOf_l0_0 k a1 a2 fuel y0 (w64 (x20 + 1)) r2728))) else (ngrind_wearOf_l0_0 k a1 a2 fuel y0 (w64 (x20 + 1)) x7)) else none) else (some y0)
theorem ngrind_wearOf_l0_0_ok (k : Nat) (a1 : (List SGrindSession)) (a2 : ByteArray) : ∀ (fuel : Nat) (y0 : List Int) (x20 : Int) (x7 : (List (ByteArray × (List Int)))) (r : (List Int)), ngrind_wearOf_l0_0 k a1 a2 fuel y0 x20 x7 = some r → (VLoop none Go.Proofs.Try.prog (szF Go.Proofs.Try.f51) (bodyOf Go.Proofs.Try.f51 0) (ngrind_wearOf_l0_0_h a1 a2 y0 x20 x7) (.exit 0) (ngrind_wearOf_l0_0_e0 a1 a2 r)) := by
 intro fuel
 induction fuel with
 | zero => intro y0 x20 x7 r h; rw [ngrind_wearOf_l0_0.eq_1] at h; cases h
 | succ fuel ih =>
  intro y0 x20 x7 r h
  rw [ngrind_wearOf_l0_0.eq_2] at h
  rcases ifs h with ⟨h2696, h⟩ | ⟨h2696, h⟩
  ·obtain ⟨h2697, h⟩ := ifn h
   have e2698 := (show loadL Go.Proofs.Try.prog 67 (x20.toNat * 3) (List.flatMap c_SGrindSession a1) = some (VV.ag (c_SGrindSession (a1.getD x20.toNat default))) from ld_whole ag67 c_SGrindSession 3 sz67 len_c_SGrindSession a1 default h2697 (by omega))
   rcases ifs h with ⟨h2699, h⟩ | ⟨h2699, h⟩
   ·rcases ifs h with ⟨h2700, h⟩ | ⟨h2700, h⟩
    ·have e2701 := (show keysM (kdV (.string ((a1.getD x20.toNat default).Stroke))) (List.flatMap (mpE v_37) x7) = true ∧ lkM (.string ((a1.getD x20.toNat default).Stroke)) (List.flatMap (mpE v_37) x7) = some (VV.tr (List.map vi (mget x7 ((a1.getD x20.toNat default).Stroke))) ((mget x7 ((a1.getD x20.toNat default).Stroke)).length)) from ⟨(keysM_mp v_37 ((a1.getD x20.toNat default).Stroke) x7), (lkM_has v_37 ((a1.getD x20.toNat default).Stroke) x7 h2700)⟩)
     obtain ⟨r2724, h2723, h⟩ := bs h
     have hph2723 := ngrind_wearOf_l1_0_ok k a1 a2 x20 x7 _ _ _ _ h2723
     have e2725 := (an (ti trivial) (VRun.loop hph2723))
     have h2 := ih _ _ _ _ h
     obtain ⟨q, hv, hq⟩ := pkR (rd := none) (P := Go.Proofs.Try.prog) (fn := Go.Proofs.Try.f51) (k := 0) (s := (ngrind_wearOf_l0_0_h a1 a2 y0 x20 x7)) (ans := [.reg (.n :: []), .br true, .reg (.n :: .v (VV.ag (c_SGrindSession (a1.getD x20.toNat default))) :: .n :: .n :: []), .reg (nN 4 []), .br false, .reg (arK5_14 x7 a1 x20), .sub ⟨[(2, none), (7, none), (8, none), (10, none), (18, none), (19, none), (20, none), (31, none), (32, none), (33, none)], [none, none], []⟩ (.exit 2) (ngrind_wearOf_l1_0_e0 a1 a2 x20 x7 r2724), .reg (.n :: .n :: [])]) (c := ⟨[(2, none), (7, none), (8, none), (18, none), (19, none), (20, none)], [none], []⟩) (e := .normal) (s1 := (ngrind_wearOf_l0_0_h a1 a2 r2724.2 (w64 (x20 + 1)) r2724.1)) (an (an (ti trivial) (an (an (decide_eq_true h2696) trivial) (an (an (an h2697 (an e2698 (ti (ti trivial)))) (an (an (ti (ti (ti (ti trivial)))) (an (not_f (decide_eq_true h2699)) trivial)) (an (ti (ti (ti (an e2701 (ti (ti trivial)))))) e2725))) (ti (ti trivial))))) (ti trivial)) (by kernel_rfl)
     exact round_next pm pn hv hq h2
    ·have e2726 := (show keysM (kdV (.string ((a1.getD x20.toNat default).Stroke))) (List.flatMap (mpE v_37) x7) = true ∧ lkM (.string ((a1.getD x20.toNat default).Stroke)) (List.flatMap (mpE v_37) x7) = none from ⟨(keysM_mp v_37 ((a1.getD x20.toNat default).Stroke) x7), (lkM_no v_37 ((a1.getD x20.toNat default).Stroke) x7 (bool_f h2700))⟩)
     obtain ⟨r2728, h2727, h⟩ := bs h
     have hph2727 := ngrind_wearOf_l1_1_ok k a1 a2 y0 x20 x7 _  _ h2727
     have e2729 := (an (ti trivial) (VRun.loop hph2727))
     have h2 := ih _ _ _ _ h
     obtain ⟨q, hv, hq⟩ := pkR (rd := none) (P := Go.Proofs.Try.prog) (fn := Go.Proofs.Try.f51) (k := 0) (s := (ngrind_wearOf_l0_0_h a1 a2 y0 x20 x7)) (ans := [.reg (.n :: []), .br true, .reg (.n :: .v (VV.ag (c_SGrindSession (a1.getD x20.toNat default))) :: .n :: .n :: []), .reg (nN 4 []), .br false, .reg (nN 3 (.b false :: .n :: .n :: [])), .sub ⟨[(2, none), (7, none), (8, none), (10, none), (18, none), (19, none), (20, none), (31, none), (32, none), (33, none)], [none, none], []⟩ (.exit 2) (ngrind_wearOf_l1_1_e0 a1 a2 y0 x20 x7 r2728), .reg (.n :: .n :: [])]) (c := ⟨[(2, none), (7, none), (8, none), (18, none), (19, none), (20, none)], [none], []⟩) (e := .normal) (s1 := (ngrind_wearOf_l0_0_h a1 a2 y0 (w64 (x20 + 1)) r2728)) (an (an (ti trivial) (an (an (decide_eq_true h2696) trivial) (an (an (an h2697 (an e2698 (ti (ti trivial)))) (an (an (ti (ti (ti (ti trivial)))) (an (not_f (decide_eq_true h2699)) trivial)) (an (ti (ti (ti (an e2726 (ti (ti trivial)))))) e2729))) (ti (ti trivial))))) (ti trivial)) (by kernel_rfl)
     exact round_next pm pn hv hq h2
   ·have h2 := ih _ _ _ _ h
    obtain ⟨q, hv, hq⟩ := pkR (rd := none) (P := Go.Proofs.Try.prog) (fn := Go.Proofs.Try.f51) (k := 0) (s := (ngrind_wearOf_l0_0_h a1 a2 y0 x20 x7)) (ans := [.reg (.n :: []), .br true, .reg (.n :: .v (VV.ag (c_SGrindSession (a1.getD x20.toNat default))) :: .n :: .n :: []), .reg (nN 4 []), .br true, .reg (.n :: .n :: [])]) (c := ⟨[(2, none), (7, none), (8, none), (18, none), (19, none), (20, none)], [none], []⟩) (e := .normal) (s1 := (ngrind_wearOf_l0_0_h a1 a2 y0 (w64 (x20 + 1)) x7)) (an (an (ti trivial) (an (an (decide_eq_true h2696) trivial) (an (an (an h2697 (an e2698 (ti (ti trivial)))) (an (ti (ti (ti (ti trivial)))) (an (not_t (decide_eq_false h2699)) trivial))) (ti (ti trivial))))) (ti trivial)) (by kernel_rfl)
    exact round_next pm pn hv hq h2
  ·injection h with h; subst h
   exact round_stop (c := ⟨[(8, none)], [none], []⟩) (s1 := (ngrind_wearOf_l0_0_e0 a1 a2 y0)) pm pn (ans := [.reg (.n :: []), .br false]) (by kernel_rfl) (by intro e; cases e) (an (an (ti trivial) (an (decide_eq_false h2696) trivial)) (ti trivial))
def arK5_15 (z0 : (List (ByteArray × (List Int)))) (z1 : Int) : List Ans := (.n :: .call (VV.mt (List.flatMap (mpE v_37) z0)) :: .n :: .call (vi z1) :: nN 3 [])
theorem eqK5_5 (z0 : (List Int)) : VV.fw 1 (List.drop 0 (List.map unfr (List.map vi z0))) z0.length = VV.fw 1 (List.map vi z0) z0.length := by first | rfl | (simp only [drop0, unfr_vi, List.map_cons, List.map_nil, un_i, List.length_map]; done) | (simp only [drop0, unfr_vi, List.map_cons, List.map_nil, un_i, List.length_map]; rfl) | (simp only [drop0, unfr_vi, List.map_cons, List.map_nil, un_i, List.length_map, List.length_cons, List.length_nil, List.length_append]; done)
def ngrind_wearOf (k : Nat) (a0 : (List SStroke)) (a1 : (List SGrindSession)) (a2 : ByteArray) : Option (List Int) :=
  (ngrind_wearByName k a0).bind fun r2618 => ((ngrind_zonesOf k a0).bind fun r2620 => (if 0 ≤ r2620 ∧ r2620 ≤ 1000000000 then ((ngrind_wearOf_l0_0 k a1 a2 k (List.replicate r2620.toNat (0 : Int)) 0 r2618).bind fun r2731 => (some r2731)) else none))
theorem ngrind_wearOf_ok (k : Nat) (a0 : (List SStroke)) (a1 : (List SGrindSession)) (a2 : ByteArray) (r : (List Int)) (h : ngrind_wearOf k a0 a1 a2 = some r) : VC Go.Proofs.Try.prog 51 [VV.tr (List.flatMap c_SStroke a0) a0.length, VV.tr (List.flatMap c_SGrindSession a1) a1.length, vs a2] (VV.fw 1 (List.map vi r) r.length) := by
 unfold ngrind_wearOf at h
 obtain ⟨r2618, h2619, h⟩ := bs h
 obtain ⟨r2620, h2621, h⟩ := bs h
 obtain ⟨h2622, h⟩ := ifn h
 have e2623 := (show 0 ≤ r2620 ∧ r2620 = r2620 ∧ (8 * r2620.toNat) ≤ 281474976710656 ∧ r2620 < 1099511627776 from ⟨by omega, rfl, by omega, by omega⟩)
 have e2624 := (ti (an (ngrind_wearByName_ok k a0 _ h2619) (ti (an (ngrind_zonesOf_ok k a0 _ h2621) (an e2623 (ti (ti trivial)))))))
 obtain ⟨r2731, h2730, h⟩ := bs h
 have hph2730 := ngrind_wearOf_l0_0_ok k a1 a2 _ _ _ _ _ h2730
 have e2732 := (an (an (an (show Wv (VV.rf 0 0 r2620.toNat) (VV.rf 0 0 ((List.replicate r2620.toNat (0 : Int)).length)) from (Wv.of_eq (by simp))) trivial) (an (show List.replicate r2620.toNat (VV.c (.int .i64 0)) = List.map vi (List.replicate r2620.toNat (0 : Int)) from replicate_vi _) trivial)) (VRun.loop hph2730))
 injection h with h; subst h
 exact fun_ok pm pn Go.Proofs.Try.func51 (r0 := VV.fw 1 (List.drop 0 (List.map unfr (List.map vi r2731))) r2731.length) (ans := [.reg (.n :: []), .reg (arK5_15 r2618 r2620), .reg (nN 3 []), .sub ⟨[(2, none), (7, none), (8, some (VV.rf 0 0 ((List.replicate r2620.toNat (0 : Int)).length))), (18, none), (19, none), (20, none)], [some (List.map vi (List.replicate r2620.toNat (0 : Int)))], []⟩ (.exit 0) (ngrind_wearOf_l0_0_e0 a1 a2 r2731), .reg (.n :: .n :: [])]) (fr := true) (by kernel_rfl) (an (an (ti trivial) (an e2624 (an (an (ti (ti (ti trivial))) e2732) (an (ti (ti trivial)) trivial)))) (an (show List.all (List.map vi r2731) new0 = true from (by exact new0_vi _)) trivial)) (Wv.of_eq (eqK5_5 r2731))
def arK5_16 (z0 : (List SStroke)) (z1 : ((List SStroke) × (List SGrindSession))) (z2 : (Bool × Int)) (z3 : Int) : List Ans := (.n :: .call (VV.fn 67 [VV.tp [VV.tr (List.flatMap c_SStroke z0) z0.length] 0]) :: .n :: .n :: .call (VV.fn 69 [VV.tp [VV.tr (List.flatMap c_SStroke z1.1) z1.1.length] 0, VV.tp [VV.tr (List.flatMap c_SGrindSession z1.2) z1.2.length] 0]) :: .n :: .call (VV.fn 61 [VV.tp [vb z2.1] 0, VV.tp [vi z2.2] 0]) :: .n :: .call (vi z3) :: .n :: [])
def ngrind_WearOf (k : Nat) (a0 : (List SStroke)) (a1 : (List SGrindSession)) (a2 : ByteArray) : Option ((List Int) × Int) :=
  (ngrind_validStrokes k a0).bind fun r2736 => ((ngrind_validSessions k a0 a1).bind fun r2738 => ((ngrind_named k a2).bind fun r2741 => ((ngrind_firstOf_c0_Lgrind_validStrokes_1_grind_validSessions_1_grind_need_1 k (r2736, r2738, r2741)).bind fun r2743 => (if r2743 = 0 then ((ngrind_wearOf k a0 a1 a2).bind fun r2748 => (some (r2748, 0))) else (some ([], r2743))))))
theorem ngrind_WearOf_ok (k : Nat) (a0 : (List SStroke)) (a1 : (List SGrindSession)) (a2 : ByteArray) (r : ((List Int) × Int)) (h : ngrind_WearOf k a0 a1 a2 = some r) : VC Go.Proofs.Try.prog 25 [VV.tr (List.flatMap c_SStroke a0) a0.length, VV.tr (List.flatMap c_SGrindSession a1) a1.length, vs a2] (VV.tu [VV.fr (List.map vi r.1) r.1.length, vi r.2]) := by
 unfold ngrind_WearOf at h
 obtain ⟨r2736, h2737, h⟩ := bs h
 obtain ⟨r2738, h2739, h⟩ := bs h
 have e2740 := (ngrind_validSessions_ok k a0 a1 _ h2739)
 obtain ⟨r2741, h2742, h⟩ := bs h
 obtain ⟨r2743, h2744, h⟩ := bs h
 have e2745 := (VC.args (ngrind_firstOf_c0_Lgrind_validStrokes_1_grind_validSessions_1_grind_need_1_ok k (r2736, r2738, r2741) _ h2744) (eqK5_4 r2736 r2738 r2741))
 have e2746 := (ti (an (ngrind_validStrokes_ok k a0 _ h2737) (ti (ti (an e2740 (ti (an (ngrind_named_ok k a2 _ h2742) (ti (an e2745 (ti trivial))))))))))
 rcases ifs h with ⟨h2747, h⟩ | ⟨h2747, h⟩
 ·obtain ⟨r2748, h2749, h⟩ := bs h
  have e2750 := (show VC Go.Proofs.Try.prog 51 [VV.tr (List.flatMap c_SStroke a0) a0.length, VV.tr (List.flatMap c_SGrindSession a1) a1.length, vs a2] (VV.fr (List.map vi r2748) r2748.length) from (VC.weak (ngrind_wearOf_ok k a0 a1 a2 _ h2749) (Wv.fw rfl rfl)))
  injection h with h; subst h
  exact fun_ok pm pn Go.Proofs.Try.func25 (r0 := VV.tu [VV.fr (List.map vi r2748) r2748.length, vi 0]) (ans := [.reg (.n :: .n :: []), .reg (arK5_16 r2736 r2738 r2741 r2743), .reg (.n :: .n :: []), .br false, .reg (nN 3 (.call (VV.fr (List.map vi r2748) r2748.length) :: .n :: .n :: []))]) (fr := true) (by kernel_rfl) (an (an (ti (ti trivial)) (an (an e2746 (an (ti (ti trivial)) (an (not_f (decide_eq_true h2747)) trivial))) (an (ti (ti (ti (an e2750 (ti (ti trivial)))))) trivial))) (ti (ti trivial))) (Wv.refl _)
 ·injection h with h; subst h
  exact fun_ok pm pn Go.Proofs.Try.func25 (r0 := VV.tu [VV.c (.slice none 0 0), vi r2743]) (ans := [.reg (.n :: .n :: []), .reg (arK5_16 r2736 r2738 r2741 r2743), .reg (.n :: .n :: []), .br true, .reg (nN 3 [])]) (fr := true) (by kernel_rfl) (an (an (ti (ti trivial)) (an e2746 (an (ti (ti trivial)) (an (not_t (decide_eq_false h2747)) (an (ti (ti (ti trivial))) trivial))))) (ti (ti trivial))) (Wv.tuL (.cons Wv.nilFr (.cons (Wv.refl _) .nil)))
def nspeculumref04_Sessions_l0_0_h (a0 : (List SStroke)) (a1 : (List SGrindSession)) (x5 : Int) : VS := ⟨mkA [(0, VV.tr (List.flatMap c_SStroke a0) a0.length), (1, VV.tr (List.flatMap c_SGrindSession a1) a1.length), (5, vi x5)], [], .nil⟩
def nspeculumref04_Sessions_l0_0_e0 (a0 : (List SStroke)) (a1 : (List SGrindSession)) (r : Int) : VS := ⟨mkA [(4, vi r)], [], .nil⟩
def nspeculumref04_Sessions_l0_0_e1 (a0 : (List SStroke)) (a1 : (List SGrindSession)) (r : Unit) : VS := ⟨mkA [], [], .nil⟩
def nspeculumref04_Sessions_l0_0 (k : Nat) (a0 : (List SStroke)) (a1 : (List SGrindSession)) : Nat → Int → Option (Sum Int Unit)
  | 0, _ => none
  | fuel + 1, x5 => if x5 < (a1.length : Int) then (if 0 ≤ x5 ∧ x5 < (a1.length : Int) then ((nspeculumbase_IsName k ((a1.getD x5.toNat default).Mirror)).bind fun r2870 => (if r2870 = true then ((nspeculumref04_StrokeAt k a0 ((a1.getD x5.toNat default).Stroke)).bind fun r2876 => (if r2876 < 0 then (some (.inl 6)) else ((nspeculumbase_Within k ((a1.getD x5.toNat default).Minutes) 1 10000).bind fun r2882 => (if r2882 = true then (nspeculumref04_Sessions_l0_0 k a0 a1 fuel (w64 (x5 + 1))) else (some (.inl 2)))))) else (some (.inl 4)))) else none) else (some (.inr ()))
theorem nspeculumref04_Sessions_l0_0_ok (k : Nat) (a0 : (List SStroke)) (a1 : (List SGrindSession)) : ∀ (fuel : Nat) (x5 : Int) (r : Sum Int Unit), nspeculumref04_Sessions_l0_0 k a0 a1 fuel x5 = some r → (match r with | .inl r => VLoop none Go.Proofs.Try.prog (szF Go.Proofs.Try.f53) (bodyOf Go.Proofs.Try.f53 0) (nspeculumref04_Sessions_l0_0_h a0 a1 x5) .ret (nspeculumref04_Sessions_l0_0_e0 a0 a1 r) | .inr r => VLoop none Go.Proofs.Try.prog (szF Go.Proofs.Try.f53) (bodyOf Go.Proofs.Try.f53 0) (nspeculumref04_Sessions_l0_0_h a0 a1 x5) (.exit 0) (nspeculumref04_Sessions_l0_0_e1 a0 a1 r)) := by
 intro fuel
 induction fuel with
 | zero => intro x5 r h; rw [nspeculumref04_Sessions_l0_0.eq_1] at h; cases h
 | succ fuel ih =>
  intro x5 r h
  rw [nspeculumref04_Sessions_l0_0.eq_2] at h
  rcases ifs h with ⟨h2867, h⟩ | ⟨h2867, h⟩
  ·obtain ⟨h2868, h⟩ := ifn h
   have e2869 := (show loadL Go.Proofs.Try.prog 9 (x5.toNat * 3 + 0) (List.flatMap c_SGrindSession a1) = some (vs ((a1.getD x5.toNat default).Mirror)) from (ld_flat ag9 c_SGrindSession 3 0 len_c_SGrindSession (by omega) a1 default h2868 (by omega)).trans rfl)
   obtain ⟨r2870, h2871, h⟩ := bs h
   have e2872 := (nspeculumbase_IsName_ok k ((a1.getD x5.toNat default).Mirror) _ h2871)
   have e2873 := (ti (ti (an h2868 (ti (an e2869 (an e2872 (ti trivial)))))))
   rcases ifs h with ⟨h2874, h⟩ | ⟨h2874, h⟩
   ·have e2875 := (show loadL Go.Proofs.Try.prog 9 (x5.toNat * 3 + 1) (List.flatMap c_SGrindSession a1) = some (vs ((a1.getD x5.toNat default).Stroke)) from (ld_flat ag9 c_SGrindSession 3 1 len_c_SGrindSession (by omega) a1 default h2868 (by omega)).trans rfl)
    obtain ⟨r2876, h2877, h⟩ := bs h
    have e2878 := (nspeculumref04_StrokeAt_ok k a0 ((a1.getD x5.toNat default).Stroke) _ h2877)
    have e2879 := (ti (ti (ti (an h2868 (ti (an e2875 (an e2878 (ti trivial))))))))
    rcases ifs h with ⟨h2880, h⟩ | ⟨h2880, h⟩
    ·injection h with h; subst h
     exact round_stop (c := ⟨[(4, none)], [], []⟩) (s1 := (nspeculumref04_Sessions_l0_0_e0 a0 a1 6)) pm pn (ans := [.reg (nN 4 []), .br true, .reg (nN 4 (.v (vs ((a1.getD x5.toNat default).Mirror)) :: .call (vb r2870) :: .n :: [])), .br false, .reg (nN 5 (.v (vs ((a1.getD x5.toNat default).Stroke)) :: .call (vi r2876) :: .n :: [])), .br true, .reg (.n :: [])]) (by kernel_rfl) (by intro e; cases e) (an (an (an (ti (ti (ti (ti trivial)))) (an (decide_eq_true h2867) trivial)) (an (an e2873 (an (not_f h2874) trivial)) (an e2879 (an (decide_eq_true h2880) (an (ti trivial) trivial))))) (ti trivial))
    ·have e2881 := (show loadL Go.Proofs.Try.prog 3 (x5.toNat * 3 + 2) (List.flatMap c_SGrindSession a1) = some (vi ((a1.getD x5.toNat default).Minutes)) from (ld_flat ag3 c_SGrindSession 3 2 len_c_SGrindSession (by omega) a1 default h2868 (by omega)).trans rfl)
     obtain ⟨r2882, h2883, h⟩ := bs h
     have e2884 := (nspeculumbase_Within_ok k ((a1.getD x5.toNat default).Minutes) 1 10000 _ h2883)
     have e2885 := (ti (ti (an h2868 (ti (an e2881 (an e2884 (ti trivial)))))))
     rcases ifs h with ⟨h2886, h⟩ | ⟨h2886, h⟩
     ·have h2 := ih _ _ h
      obtain ⟨q, hv, hq⟩ := pkR (rd := none) (P := Go.Proofs.Try.prog) (fn := Go.Proofs.Try.f53) (k := 0) (s := (nspeculumref04_Sessions_l0_0_h a0 a1 x5)) (ans := [.reg (nN 4 []), .br true, .reg (nN 4 (.v (vs ((a1.getD x5.toNat default).Mirror)) :: .call (vb r2870) :: .n :: [])), .br false, .reg (nN 5 (.v (vs ((a1.getD x5.toNat default).Stroke)) :: .call (vi r2876) :: .n :: [])), .br false, .reg (nN 4 (.v (vi ((a1.getD x5.toNat default).Minutes)) :: .call (vb r2882) :: .n :: [])), .br false, .reg (nN 3 [])]) (c := ⟨[(0, none), (1, none), (5, none)], [], []⟩) (e := .normal) (s1 := (nspeculumref04_Sessions_l0_0_h a0 a1 (w64 (x5 + 1)))) (an (an (an (ti (ti (ti (ti trivial)))) (an (decide_eq_true h2867) trivial)) (an (an (an e2873 (an (not_f h2874) trivial)) (an (an e2879 (an (decide_eq_false h2880) trivial)) (an e2885 (an (not_f h2886) trivial)))) (ti (ti (ti trivial))))) (ti trivial)) (by kernel_rfl)
      cases r with
      | inl r => exact round_next pm pn hv hq h2
      | inr r =>
       exact round_next pm pn hv hq h2
     ·injection h with h; subst h
      exact round_stop (c := ⟨[(4, none)], [], []⟩) (s1 := (nspeculumref04_Sessions_l0_0_e0 a0 a1 2)) pm pn (ans := [.reg (nN 4 []), .br true, .reg (nN 4 (.v (vs ((a1.getD x5.toNat default).Mirror)) :: .call (vb r2870) :: .n :: [])), .br false, .reg (nN 5 (.v (vs ((a1.getD x5.toNat default).Stroke)) :: .call (vi r2876) :: .n :: [])), .br false, .reg (nN 4 (.v (vi ((a1.getD x5.toNat default).Minutes)) :: .call (vb r2882) :: .n :: [])), .br true, .reg (.n :: [])]) (by kernel_rfl) (by intro e; cases e) (an (an (an (ti (ti (ti (ti trivial)))) (an (decide_eq_true h2867) trivial)) (an (an e2873 (an (not_f h2874) trivial)) (an (an e2879 (an (decide_eq_false h2880) trivial)) (an e2885 (an (not_t (bool_f h2886)) (an (ti trivial) trivial)))))) (ti trivial))
   ·injection h with h; subst h
    exact round_stop (c := ⟨[(4, none)], [], []⟩) (s1 := (nspeculumref04_Sessions_l0_0_e0 a0 a1 4)) pm pn (ans := [.reg (nN 4 []), .br true, .reg (nN 4 (.v (vs ((a1.getD x5.toNat default).Mirror)) :: .call (vb r2870) :: .n :: [])), .br true, .reg (.n :: [])]) (by kernel_rfl) (by intro e; cases e) (an (an (an (ti (ti (ti (ti trivial)))) (an (decide_eq_true h2867) trivial)) (an e2873 (an (not_t (bool_f h2874)) (an (ti trivial) trivial)))) (ti trivial))
  ·injection h with h; subst h
   exact round_stop (c := ⟨[], [], []⟩) (s1 := (nspeculumref04_Sessions_l0_0_e1 a0 a1 ())) pm pn (ans := [.reg (nN 4 []), .br false]) (by kernel_rfl) (by intro e; cases e) (an (an (ti (ti (ti (ti trivial)))) (an (decide_eq_false h2867) trivial)) (ti trivial))
def nspeculumref04_Sessions (k : Nat) (a0 : (List SStroke)) (a1 : (List SGrindSession)) : Option Int :=
  if 200 < (a1.length : Int) then (some 8) else ((nspeculumref04_Sessions_l0_0 k a0 a1 k 0).bind fun r2888 => (match r2888 with | .inl r2889 => (some r2889) | .inr r2890 => (some 0)))
theorem nspeculumref04_Sessions_ok (k : Nat) (a0 : (List SStroke)) (a1 : (List SGrindSession)) (r : Int) (h : nspeculumref04_Sessions k a0 a1 = some r) : VC Go.Proofs.Try.prog 53 [VV.tr (List.flatMap c_SStroke a0) a0.length, VV.tr (List.flatMap c_SGrindSession a1) a1.length] (vi r) := by
 unfold nspeculumref04_Sessions at h
 rcases ifs h with ⟨h2826, h⟩ | ⟨h2826, h⟩
 ·injection h with h; subst h
  exact fun_ok pm pn Go.Proofs.Try.func53 (r0 := vi 8) (ans := [.reg (.n :: []), .reg (nN 3 []), .br true, .reg (.n :: [])]) (fr := true) (by kernel_rfl) (an (an (ti trivial) (an (ti (ti (ti trivial))) (an (decide_eq_true h2826) (an (ti trivial) trivial)))) (ti trivial)) (Wv.refl _)
 ·obtain ⟨r2888, h2887, h⟩ := bs h
  have hph2887 := nspeculumref04_Sessions_l0_0_ok k a0 a1 _ _ _ h2887
  cases r2888 with
  | inl r2889 =>
   dsimp only at h
   have e2891 := (an (ti trivial) (VRun.loop hph2887))
   injection h with h; subst h
   exact fun_ok pm pn Go.Proofs.Try.func53 (r0 := vi r2889) (ans := [.reg (.n :: []), .reg (nN 3 []), .br false, .reg (.n :: []), .sub ⟨[(0, none), (1, none), (5, none)], [], []⟩ .ret (nspeculumref04_Sessions_l0_0_e0 a0 a1 r2889)]) (fr := true) (by kernel_rfl) (an (an (ti trivial) (an (an (ti (ti (ti trivial))) (an (decide_eq_false h2826) trivial)) (an (ti trivial) e2891))) (ti trivial)) (Wv.refl _)
  | inr r2890 =>
   dsimp only at h
   have e2892 := (an (ti trivial) (VRun.loop hph2887))
   injection h with h; subst h
   exact fun_ok pm pn Go.Proofs.Try.func53 (r0 := vi 0) (ans := [.reg (.n :: []), .reg (nN 3 []), .br false, .reg (.n :: []), .sub ⟨[(0, none), (1, none), (5, none)], [], []⟩ (.exit 0) (nspeculumref04_Sessions_l0_0_e1 a0 a1 r2890), .reg (.n :: [])]) (fr := true) (by kernel_rfl) (an (an (ti trivial) (an (an (ti (ti (ti trivial))) (an (decide_eq_false h2826) trivial)) (an (an (ti trivial) e2892) (an (ti trivial) trivial)))) (ti trivial)) (Wv.refl _)
def nspeculumref04_CheckSessions (k : Nat) (a0 : (List SStroke)) (a1 : (List SGrindSession)) : Option Int :=
  (nspeculumref04_CheckStrokes k a0).bind fun r2896 => (if r2896.2 = 0 then ((nspeculumref04_Sessions k a0 a1).bind fun r2900 => (some r2900)) else (some r2896.2))
theorem nspeculumref04_CheckSessions_ok (k : Nat) (a0 : (List SStroke)) (a1 : (List SGrindSession)) (r : Int) (h : nspeculumref04_CheckSessions k a0 a1 = some r) : VC Go.Proofs.Try.prog 28 [VV.tr (List.flatMap c_SStroke a0) a0.length, VV.tr (List.flatMap c_SGrindSession a1) a1.length] (vi r) := by
 unfold nspeculumref04_CheckSessions at h
 obtain ⟨r2896, h2897, h⟩ := bs h
 have e2898 := (nspeculumref04_CheckStrokes_ok k a0 _ h2897)
 rcases ifs h with ⟨h2899, h⟩ | ⟨h2899, h⟩
 ·obtain ⟨r2900, h2901, h⟩ := bs h
  have e2902 := (nspeculumref04_Sessions_ok k a0 a1 _ h2901)
  injection h with h; subst h
  exact fun_ok pm pn Go.Proofs.Try.func28 (r0 := vi r2900) (ans := [.reg (.n :: []), .reg (.n :: .call (VV.tu [vi r2896.1, vi r2896.2]) :: nN 5 []), .reg (.n :: .n :: []), .br false, .reg (.n :: .n :: .call (vi r2900) :: .n :: [])]) (fr := true) (by kernel_rfl) (an (an (ti trivial) (an (an (ti (an e2898 (ti (ti (ti (ti (ti trivial))))))) (an (ti (ti trivial)) (an (not_f (decide_eq_true h2899)) trivial))) (an (ti (ti (an e2902 (ti trivial)))) trivial))) (ti trivial)) (Wv.refl _)
 ·injection h with h; subst h
  exact fun_ok pm pn Go.Proofs.Try.func28 (r0 := vi r2896.2) (ans := [.reg (.n :: []), .reg (.n :: .call (VV.tu [vi r2896.1, vi r2896.2]) :: nN 5 []), .reg (.n :: .n :: []), .br true, .reg (.n :: .n :: [])]) (fr := true) (by kernel_rfl) (an (an (ti trivial) (an (ti (an e2898 (ti (ti (ti (ti (ti trivial))))))) (an (ti (ti trivial)) (an (not_t (decide_eq_false h2899)) (an (ti (ti trivial)) trivial))))) (ti trivial)) (Wv.refl _)
def arK5_17 (z0 : ((List SStroke) × ((List SStroke) × (List SGrindSession)))) : List Ans := (.n :: .v (VV.fn 67 [VV.tp [VV.tr (List.flatMap c_SStroke z0.1) z0.1.length] 0]) :: .n :: [])
def arK5_18 (z0 : ((List SStroke) × ((List SStroke) × (List SGrindSession)))) : List Ans := (.n :: .v (VV.fn 69 [VV.tp [VV.tr (List.flatMap c_SStroke z0.2.1) z0.2.1.length] 0, VV.tp [VV.tr (List.flatMap c_SGrindSession z0.2.2) z0.2.2.length] 0]) :: .n :: [])
def ngrind_firstOf_c0_Lgrind_validStrokes_1_grind_validSessions_1 (k : Nat) (a0 : ((List SStroke) × ((List SStroke) × (List SGrindSession)))) : Option Int :=
  (ngrind_validStrokes_1 k a0.1).bind fun r2929 => (if r2929 = 0 then ((ngrind_validSessions_1 k a0.2.1 a0.2.2).bind fun r2935 => (if r2935 = 0 then (some 0) else (some r2935))) else (some r2929))
theorem ngrind_firstOf_c0_Lgrind_validStrokes_1_grind_validSessions_1_ok (k : Nat) (a0 : ((List SStroke) × ((List SStroke) × (List SGrindSession)))) (r : Int) (h : ngrind_firstOf_c0_Lgrind_validStrokes_1_grind_validSessions_1 k a0 = some r) : VC Go.Proofs.Try.prog 36 [VV.tr ([VV.fn 67 [VV.tp [VV.tr (List.flatMap c_SStroke a0.1) a0.1.length] 0], VV.fn 69 [VV.tp [VV.tr (List.flatMap c_SStroke a0.2.1) a0.2.1.length] 0, VV.tp [VV.tr (List.flatMap c_SGrindSession a0.2.2) a0.2.2.length] 0]]) 2] (vi r) := by
 unfold ngrind_firstOf_c0_Lgrind_validStrokes_1_grind_validSessions_1 at h
 have e2927 := (show (0 : Int) ≤ 0 ∧ (0 : Int) < ((2 : Nat) : Int) from ⟨by decide, by decide⟩)
 have e2928 := (show loadL Go.Proofs.Try.prog 80 ((0 : Int).toNat * 1) ([VV.fn 67 [VV.tp [VV.tr (List.flatMap c_SStroke a0.1) a0.1.length] 0], VV.fn 69 [VV.tp [VV.tr (List.flatMap c_SStroke a0.2.1) a0.2.1.length] 0, VV.tp [VV.tr (List.flatMap c_SGrindSession a0.2.2) a0.2.2.length] 0]]) = some (VV.fn 67 [VV.tp [VV.tr (List.flatMap c_SStroke a0.1) a0.1.length] 0]) from (ld_one ag80 rfl))
 obtain ⟨r2929, h2930, h⟩ := bs h
 have e2931 := (ngrind_validStrokes_1_ok k a0.1 _ h2930)
 rcases ifs h with ⟨h2932, h⟩ | ⟨h2932, h⟩
 ·have e2933 := (show (0 : Int) ≤ 1 ∧ (1 : Int) < ((2 : Nat) : Int) from ⟨by decide, by decide⟩)
  have e2934 := (show loadL Go.Proofs.Try.prog 80 ((1 : Int).toNat * 1) ([VV.fn 67 [VV.tp [VV.tr (List.flatMap c_SStroke a0.1) a0.1.length] 0], VV.fn 69 [VV.tp [VV.tr (List.flatMap c_SStroke a0.2.1) a0.2.1.length] 0, VV.tp [VV.tr (List.flatMap c_SGrindSession a0.2.2) a0.2.2.length] 0]]) = some (VV.fn 69 [VV.tp [VV.tr (List.flatMap c_SStroke a0.2.1) a0.2.1.length] 0, VV.tp [VV.tr (List.flatMap c_SGrindSession a0.2.2) a0.2.2.length] 0]) from (ld_one ag80 rfl))
  obtain ⟨r2935, h2936, h⟩ := bs h
  have e2937 := (ngrind_validSessions_1_ok k a0.2.1 a0.2.2 _ h2936)
  rcases ifs h with ⟨h2938, h⟩ | ⟨h2938, h⟩
  ·injection h with h; subst h
   exact fun_ok pm pn Go.Proofs.Try.func36 (r0 := vi 0) (ans := [.reg (.n :: []), .reg (nN 3 []), .unr 4, .reg (.n :: []), .br true, .reg (arK5_17 a0), .reg (.n :: .call (vi r2929) :: .n :: []), .reg (.n :: .n :: []), .br false, .reg (.n :: .n :: []), .reg (.n :: []), .br true, .reg (arK5_18 a0), .reg (.n :: .call (vi r2935) :: .n :: []), .reg (.n :: .n :: []), .br false, .reg (.n :: .n :: []), .reg (.n :: []), .br false, .reg (.n :: [])]) (fr := true) (by kernel_rfl) (an (an (ti trivial) (an (an (ti (ti (ti trivial))) (an (an (ti trivial) (an (an (show (decide ((0 : Int) < 2)) = true from (decide_eq_true (by decide))) trivial) (an (an (an e2927 (an e2928 (ti trivial))) (an (ti (an e2931 (ti trivial))) (an (ti (ti trivial)) (an (not_f (decide_eq_true h2932)) trivial)))) (ti (ti trivial))))) (an (an (ti trivial) (an (an (show (decide ((1 : Int) < 2)) = true from (decide_eq_true (by decide))) trivial) (an (an (an e2933 (an e2934 (ti trivial))) (an (ti (an e2937 (ti trivial))) (an (ti (ti trivial)) (an (not_f (decide_eq_true h2938)) trivial)))) (ti (ti trivial))))) (an (ti trivial) (an (show (decide ((2 : Int) < 2)) = false from (decide_eq_false (by decide))) trivial))))) (an (ti trivial) trivial))) (ti trivial)) (Wv.refl _)
  ·injection h with h; subst h
   exact fun_ok pm pn Go.Proofs.Try.func36 (r0 := vi r2935) (ans := [.reg (.n :: []), .reg (nN 3 []), .unr 3, .reg (.n :: []), .br true, .reg (arK5_17 a0), .reg (.n :: .call (vi r2929) :: .n :: []), .reg (.n :: .n :: []), .br false, .reg (.n :: .n :: []), .reg (.n :: []), .br true, .reg (arK5_18 a0), .reg (.n :: .call (vi r2935) :: .n :: []), .reg (.n :: .n :: []), .br true, .reg (.n :: .n :: [])]) (fr := true) (by kernel_rfl) (an (an (ti trivial) (an (ti (ti (ti trivial))) (an (an (ti trivial) (an (an (show (decide ((0 : Int) < 2)) = true from (decide_eq_true (by decide))) trivial) (an (an (an e2927 (an e2928 (ti trivial))) (an (ti (an e2931 (ti trivial))) (an (ti (ti trivial)) (an (not_f (decide_eq_true h2932)) trivial)))) (ti (ti trivial))))) (an (ti trivial) (an (an (show (decide ((1 : Int) < 2)) = true from (decide_eq_true (by decide))) trivial) (an (an e2933 (an e2934 (ti trivial))) (an (ti (an e2937 (ti trivial))) (an (ti (ti trivial)) (an (not_t (decide_eq_false h2938)) (an (ti (ti trivial)) trivial)))))))))) (ti trivial)) (Wv.refl _)
 ·injection h with h; subst h
  exact fun_ok pm pn Go.Proofs.Try.func36 (r0 := vi r2929) (ans := [.reg (.n :: []), .reg (nN 3 []), .unr 2, .reg (.n :: []), .br true, .reg (arK5_17 a0), .reg (.n :: .call (vi r2929) :: .n :: []), .reg (.n :: .n :: []), .br true, .reg (.n :: .n :: [])]) (fr := true) (by kernel_rfl) (an (an (ti trivial) (an (ti (ti (ti trivial))) (an (ti trivial) (an (an (show (decide ((0 : Int) < 2)) = true from (decide_eq_true (by decide))) trivial) (an (an e2927 (an e2928 (ti trivial))) (an (ti (an e2931 (ti trivial))) (an (ti (ti trivial)) (an (not_t (decide_eq_false h2932)) (an (ti (ti trivial)) trivial))))))))) (ti trivial)) (Wv.refl _)
theorem eqK5_6 (z0 : (List SStroke)) (z1 : ((List SStroke) × (List SGrindSession))) : [VV.tr ([VV.fn 67 [VV.tp [VV.tr (List.flatMap c_SStroke ((z0, z1).1)) (((z0, z1).1).length)] 0], VV.fn 69 [VV.tp [VV.tr (List.flatMap c_SStroke (((z0, z1).2).1)) ((((z0, z1).2).1).length)] 0, VV.tp [VV.tr (List.flatMap c_SGrindSession (((z0, z1).2).2)) ((((z0, z1).2).2).length)] 0]]) 2] = [VV.tr (List.drop 0 (List.map unfr [VV.fn 67 [VV.tp [VV.tr (List.flatMap c_SStroke z0) z0.length] 0], VV.fn 69 [VV.tp [VV.tr (List.flatMap c_SStroke z1.1) z1.1.length] 0, VV.tp [VV.tr (List.flatMap c_SGrindSession z1.2) z1.2.length] 0]])) 2] := by first | rfl | (simp only [drop0, List.map_cons, List.map_nil, un_tr, List.length_map, List.length_cons, List.length_nil, unfr_c_SStroke, unfr_c_SGrindSession]; done) | (simp only [drop0, List.map_cons, List.map_nil, un_tr, List.length_map, List.length_cons, List.length_nil, unfr_c_SStroke, unfr_c_SGrindSession]; rfl) | (simp only [drop0, List.map_cons, List.map_nil, un_tr, List.length_map, List.length_cons, List.length_nil, unfr_c_SStroke, unfr_c_SGrindSession, c_SStroke, c_SGrindSession, List.length_cons, List.length_nil, List.length_append]; done)
def arK5_19 (z0 : (List SStroke)) (z1 : ((List SStroke) × (List SGrindSession))) (z2 : Int) : List Ans := (.n :: .call (VV.fn 67 [VV.tp [VV.tr (List.flatMap c_SStroke z0) z0.length] 0]) :: .n :: .n :: .call (VV.fn 69 [VV.tp [VV.tr (List.flatMap c_SStroke z1.1) z1.1.length] 0, VV.tp [VV.tr (List.flatMap c_SGrindSession z1.2) z1.2.length] 0]) :: .n :: .call (vi z2) :: .n :: [])
def ngrind_CheckSessions (k : Nat) (a0 : (List SStroke)) (a1 : (List SGrindSession)) : Option Int :=
  (ngrind_validStrokes k a0).bind fun r2943 => ((ngrind_validSessions k a0 a1).bind fun r2945 => ((ngrind_firstOf_c0_Lgrind_validStrokes_1_grind_validSessions_1 k (r2943, r2945)).bind fun r2948 => (some r2948)))
theorem ngrind_CheckSessions_ok (k : Nat) (a0 : (List SStroke)) (a1 : (List SGrindSession)) (r : Int) (h : ngrind_CheckSessions k a0 a1 = some r) : VC Go.Proofs.Try.prog 29 [VV.tr (List.flatMap c_SStroke a0) a0.length, VV.tr (List.flatMap c_SGrindSession a1) a1.length] (vi r) := by
 unfold ngrind_CheckSessions at h
 obtain ⟨r2943, h2944, h⟩ := bs h
 obtain ⟨r2945, h2946, h⟩ := bs h
 have e2947 := (ngrind_validSessions_ok k a0 a1 _ h2946)
 obtain ⟨r2948, h2949, h⟩ := bs h
 have e2950 := (VC.args (ngrind_firstOf_c0_Lgrind_validStrokes_1_grind_validSessions_1_ok k (r2943, r2945) _ h2949) (eqK5_6 r2943 r2945))
 have e2951 := (ti (an (ngrind_validStrokes_ok k a0 _ h2944) (ti (ti (an e2947 (ti (an e2950 (ti trivial))))))))
 injection h with h; subst h
 exact fun_ok pm pn Go.Proofs.Try.func29 (r0 := vi r2948) (ans := [.reg (.n :: []), .reg (arK5_19 r2943 r2945 r2948)]) (fr := true) (by kernel_rfl) (an (an (ti trivial) (an e2951 trivial)) (ti trivial)) (Wv.refl _)
def arK5_20 (z0 : List Int) (z1 : Int) (z2 : (List SGrindSession)) (z3 : (List SStroke)) (z4 : Int) : List Ans := (nN 5 (.v (vi (z0.getD z1.toNat 0)) :: nN 4 (.v (vi ((z2.getD ((0 : Int)).toNat default).Minutes)) :: nN 4 (.v (VV.tr (List.map vi ((z3.getD z4.toNat default).Wear)) (((z3.getD z4.toNat default).Wear).length)) :: .n :: .n :: .v (vi (((z3.getD z4.toNat default).Wear).getD z1.toNat 0)) :: nN 4 []))))
def arK5_21 (z0 : List Int) (z1 : Int) (z2 : (List SGrindSession)) (z3 : Int) (z4 : (List SStroke)) (z5 : Int) : List Ans := (nN 5 (.v (vi (z0.getD z1.toNat 0)) :: nN 4 (.v (vi ((z2.getD z3.toNat default).Minutes)) :: nN 4 (.v (VV.tr (List.map vi ((z4.getD z5.toNat default).Wear)) (((z4.getD z5.toNat default).Wear).length)) :: .n :: .n :: .v (vi (((z4.getD z5.toNat default).Wear).getD z1.toNat 0)) :: nN 4 []))))
def nspeculumref04_WearOf_l1_0_h (a0 : (List SStroke)) (a1 : (List SGrindSession)) (a2 : ByteArray) (x8 : Int) (r3219 : Int) (y0z : List Int) (x10 : Int) : VS := ⟨mkA [(0, VV.tr (List.flatMap c_SStroke a0) a0.length), (1, VV.tr (List.flatMap c_SGrindSession a1) a1.length), (2, vs a2), (7, VV.rf 0 0 y0z.length), (8, vi x8), (9, vi r3219), (10, vi x10)], [some ⟨false, 1, List.map vi y0z⟩], .nil⟩
def nspeculumref04_WearOf_l1_0_e0 (a0 : (List SStroke)) (a1 : (List SGrindSession)) (a2 : ByteArray) (x8 : Int) (r3219 : Int) (r : (List Int)) : VS := ⟨mkA [(0, VV.tr (List.flatMap c_SStroke a0) a0.length), (1, VV.tr (List.flatMap c_SGrindSession a1) a1.length), (2, vs a2), (7, VV.rf 0 0 r.length), (8, vi x8)], [some ⟨false, 1, List.map vi r⟩], .nil⟩
def nspeculumref04_WearOf_l1_0 (k : Nat) (a0 : (List SStroke)) (a1 : (List SGrindSession)) (a2 : ByteArray) (x8 : Int) (r3219 : Int) : Nat → (List Int) → Int → Option ((List Int))
  | 0, _, _ => none
  | fuel + 1, y0z, x10 => if x10 < ((y0z.length : Nat) : Int) then (if 0 ≤ x10 ∧ x10 < (y0z.length : Int) then (if 0 ≤ x8 ∧ x8 < (a1.length : Int) then (if 0 ≤ r3219 ∧ r3219 < (a0.length : Int) then (if 0 ≤ x10 ∧ x10 < (((a0.getD r3219.toNat default).Wear).length : Int) then (nspeculumref04_WearOf_l1_0 k a0 a1 a2 x8 r3219 fuel (y0z.set x10.toNat (w64 ((y0z.getD x10.toNat 0) + (w64 (((a1.getD x8.toNat default).Minutes) * (((a0.getD r3219.toNat default).Wear).getD x10.toNat 0)))))) (w64 (x10 + 1))) else none) else none) else none) else none) else (some y0z)
theorem nspeculumref04_WearOf_l1_0_ok (k : Nat) (a0 : (List SStroke)) (a1 : (List SGrindSession)) (a2 : ByteArray) (x8 : Int) (r3219 : Int) : ∀ (fuel : Nat) (y0z : List Int) (x10 : Int) (r : (List Int)), nspeculumref04_WearOf_l1_0 k a0 a1 a2 x8 r3219 fuel y0z x10 = some r → (VLoop none Go.Proofs.Try.prog (szF Go.Proofs.Try.f31) (bodyOf Go.Proofs.Try.f31 1) (nspeculumref04_WearOf_l1_0_h a0 a1 a2 x8 r3219 y0z x10) (.exit 2) (nspeculumref04_WearOf_l1_0_e0 a0 a1 a2 x8 r3219 r)) := by
 intro fuel
 induction fuel with
 | zero => intro y0z x10 r h; rw [nspeculumref04_WearOf_l1_0.eq_1] at h; cases h
 | succ fuel ih =>
  intro y0z x10 r h
  rw [nspeculumref04_WearOf_l1_0.eq_2] at h
  rcases ifs h with ⟨h3245, h⟩ | ⟨h3245, h⟩
  ·obtain ⟨h3246, h⟩ := ifn h
   have e3247 := (show loadL Go.Proofs.Try.prog 3 (0 + x10.toNat * 1) (List.map vi y0z) = some (vi (y0z.getD x10.toNat 0)) from ld_map ag3 vi y0z 0 h3246 (by omega))
   obtain ⟨h3248, h⟩ := ifn h
   have e3249 := (show loadL Go.Proofs.Try.prog 3 (x8.toNat * 3 + 2) (List.flatMap c_SGrindSession a1) = some (vi ((a1.getD x8.toNat default).Minutes)) from (ld_flat ag3 c_SGrindSession 3 2 len_c_SGrindSession (by omega) a1 default h3248 (by omega)).trans rfl)
   obtain ⟨h3250, h⟩ := ifn h
   have e3251 := (show loadL Go.Proofs.Try.prog 37 (r3219.toNat * 2 + 1) (List.flatMap c_SStroke a0) = some (VV.tr (List.map vi ((a0.getD r3219.toNat default).Wear)) (((a0.getD r3219.toNat default).Wear).length)) from (ld_flat ag37 c_SStroke 2 1 len_c_SStroke (by omega) a0 default h3250 (by omega)).trans rfl)
   obtain ⟨h3252, h⟩ := ifn h
   have e3253 := (show loadL Go.Proofs.Try.prog 3 (x10.toNat * 1) (List.map vi ((a0.getD r3219.toNat default).Wear)) = some (vi (((a0.getD r3219.toNat default).Wear).getD x10.toNat 0)) from ld_map ag3 vi ((a0.getD r3219.toNat default).Wear) 0 h3252 (by omega))
   have e3254 := (show (0 + x10.toNat * 1) + 1 ≤ List.length (List.map vi y0z) from (by simp only [List.length_map]; omega))
   have e3255 := (ti (ti (ti (ti (an h3246 (an e3247 (ti (ti (an h3248 (ti (an e3249 (ti (ti (an h3250 (ti (an e3251 (ti (an h3252 (an e3253 (ti (ti (an h3246 (an e3254 trivial)))))))))))))))))))))))
   have h2 := ih _ _ _ h
   obtain ⟨q, hv, hq⟩ := pkR (rd := none) (P := Go.Proofs.Try.prog) (fn := Go.Proofs.Try.f31) (k := 1) (s := (nspeculumref04_WearOf_l1_0_h a0 a1 a2 x8 r3219 y0z x10)) (ans := [.reg (nN 4 []), .br true, .reg (arK5_21 y0z x10 a1 x8 a0 r3219), .reg (nN 3 [])]) (c := ⟨[(0, none), (1, none), (2, none), (7, some (VV.rf 0 0 ((y0z.set x10.toNat (w64 ((y0z.getD x10.toNat 0) + (w64 (((a1.getD x8.toNat default).Minutes) * (((a0.getD r3219.toNat default).Wear).getD x10.toNat 0)))))).length))), (8, none), (9, none), (10, none)], [some (List.map vi (y0z.set x10.toNat (w64 ((y0z.getD x10.toNat 0) + (w64 (((a1.getD x8.toNat default).Minutes) * (((a0.getD r3219.toNat default).Wear).getD x10.toNat 0)))))))], []⟩) (e := .normal) (s1 := (nspeculumref04_WearOf_l1_0_h a0 a1 a2 x8 r3219 (y0z.set x10.toNat (w64 ((y0z.getD x10.toNat 0) + (w64 (((a1.getD x8.toNat default).Minutes) * (((a0.getD r3219.toNat default).Wear).getD x10.toNat 0)))))) (w64 (x10 + 1)))) (an (an (an (ti (ti (ti (ti trivial)))) (an (decide_eq_true h3245) trivial)) (an e3255 (ti (ti (ti trivial))))) (an (an (show Wv (VV.rf 0 0 y0z.length) (VV.rf 0 0 ((y0z.set x10.toNat (w64 ((y0z.getD x10.toNat 0) + (w64 (((a1.getD x8.toNat default).Minutes) * (((a0.getD r3219.toNat default).Wear).getD x10.toNat 0)))))).length)) from (Wv.of_eq (by simp))) trivial) (an (show putT (0 + x10.toNat * 1) (List.map vi y0z) [vi (w64 ((y0z.getD x10.toNat 0) + (w64 (((a1.getD x8.toNat default).Minutes) * (((a0.getD r3219.toNat default).Wear).getD x10.toNat 0)))))] = List.map vi (y0z.set x10.toNat (w64 ((y0z.getD x10.toNat 0) + (w64 (((a1.getD x8.toNat default).Minutes) * (((a0.getD r3219.toNat default).Wear).getD x10.toNat 0)))))) from (by exact putT_vi y0z h3246 (w64 ((y0z.getD x10.toNat 0) + (w64 (((a1.getD x8.toNat default).Minutes) * (((a0.getD r3219.toNat default).Wear).getD x10.toNat 0))))) (by omega))) trivial))) (by kernel_rfl)
   exact round_next pm pn hv hq h2
  ·injection h with h; subst h
   exact round_stop (c := ⟨[(0, none), (1, none), (2, none), (7, none), (8, none)], [none], []⟩) (s1 := (nspeculumref04_WearOf_l1_0_e0 a0 a1 a2 x8 r3219 y0z)) pm pn (ans := [.reg (nN 4 []), .br false]) (by kernel_rfl) (by intro e; cases e) (an (an (ti (ti (ti (ti trivial)))) (an (decide_eq_false h3245) trivial)) (ti trivial))
def nspeculumref04_WearOf_l0_0_h (a0 : (List SStroke)) (a1 : (List SGrindSession)) (a2 : ByteArray) (y0 : List Int) (x8 : Int) : VS := ⟨mkA [(0, VV.tr (List.flatMap c_SStroke a0) a0.length), (1, VV.tr (List.flatMap c_SGrindSession a1) a1.length), (2, vs a2), (7, VV.rf 0 0 y0.length), (8, vi x8)], [some ⟨false, 1, List.map vi y0⟩], .nil⟩
def nspeculumref04_WearOf_l0_0_e0 (a0 : (List SStroke)) (a1 : (List SGrindSession)) (a2 : ByteArray) (r : (List Int)) : VS := ⟨mkA [(7, VV.rf 0 0 r.length)], [some ⟨false, 1, List.map vi r⟩], .nil⟩
def nspeculumref04_WearOf_l0_0 (k : Nat) (a0 : (List SStroke)) (a1 : (List SGrindSession)) (a2 : ByteArray) : Nat → (List Int) → Int → Option ((List Int))
  | 0, _, _ => none
  | fuel + 1, y0, x8 => if x8 < (a1.length : Int) then (if 0 ≤ x8 ∧ x8 < (a1.length : Int) then (if ((a1.getD x8.toNat default).Mirror) = a2 then ((nspeculumref04_StrokeAt k a0 ((a1.getD x8.toNat default).Stroke)).bind fun r3219 => ((nspeculumref04_WearOf_l1_0 k a0 a1 a2 x8 r3219 k y0 0).bind fun r3257 => (nspeculumref04_WearOf_l0_0 k a0 a1 a2 fuel r3257 (w64 (x8 + 1))))) else (nspeculumref04_WearOf_l0_0 k a0 a1 a2 fuel y0 (w64 (x8 + 1)))) else none) else (some y0)
theorem nspeculumref04_WearOf_l0_0_ok (k : Nat) (a0 : (List SStroke)) (a1 : (List SGrindSession)) (a2 : ByteArray) : ∀ (fuel : Nat) (y0 : List Int) (x8 : Int) (r : (List Int)), nspeculumref04_WearOf_l0_0 k a0 a1 a2 fuel y0 x8 = some r → (VLoop none Go.Proofs.Try.prog (szF Go.Proofs.Try.f31) (bodyOf Go.Proofs.Try.f31 0) (nspeculumref04_WearOf_l0_0_h a0 a1 a2 y0 x8) (.exit 0) (nspeculumref04_WearOf_l0_0_e0 a0 a1 a2 r)) := by
 intro fuel
 induction fuel with
 | zero => intro y0 x8 r h; rw [nspeculumref04_WearOf_l0_0.eq_1] at h; cases h
 | succ fuel ih =>
  intro y0 x8 r h
  rw [nspeculumref04_WearOf_l0_0.eq_2] at h
  rcases ifs h with ⟨h3213, h⟩ | ⟨h3213, h⟩
  ·obtain ⟨h3214, h⟩ := ifn h
   have e3215 := (show loadL Go.Proofs.Try.prog 9 (x8.toNat * 3 + 0) (List.flatMap c_SGrindSession a1) = some (vs ((a1.getD x8.toNat default).Mirror)) from (ld_flat ag9 c_SGrindSession 3 0 len_c_SGrindSession (by omega) a1 default h3214 (by omega)).trans rfl)
   have e3216 := (ti (ti (an h3214 (ti (an e3215 (ti (ti trivial)))))))
   rcases ifs h with ⟨h3217, h⟩ | ⟨h3217, h⟩
   ·have e3218 := (show loadL Go.Proofs.Try.prog 9 (x8.toNat * 3 + 1) (List.flatMap c_SGrindSession a1) = some (vs ((a1.getD x8.toNat default).Stroke)) from (ld_flat ag9 c_SGrindSession 3 1 len_c_SGrindSession (by omega) a1 default h3214 (by omega)).trans rfl)
    obtain ⟨r3219, h3220, h⟩ := bs h
    have e3221 := (nspeculumref04_StrokeAt_ok k a0 ((a1.getD x8.toNat default).Stroke) _ h3220)
    have e3222 := (ti (ti (ti (an h3214 (ti (an e3218 (an e3221 (ti trivial))))))))
    obtain ⟨r3257, h3256, h⟩ := bs h
    have hph3256 := nspeculumref04_WearOf_l1_0_ok k a0 a1 a2 x8 r3219 _ _ _ _ h3256
    have e3258 := (an (ti trivial) (VRun.loop hph3256))
    have h2 := ih _ _ _ h
    obtain ⟨q, hv, hq⟩ := pkR (rd := none) (P := Go.Proofs.Try.prog) (fn := Go.Proofs.Try.f31) (k := 0) (s := (nspeculumref04_WearOf_l0_0_h a0 a1 a2 y0 x8)) (ans := [.reg (nN 4 []), .br true, .reg (nN 4 (.v (vs ((a1.getD x8.toNat default).Mirror)) :: .n :: .n :: [])), .br false, .reg (nN 5 (.v (vs ((a1.getD x8.toNat default).Stroke)) :: .call (vi r3219) :: .n :: [])), .reg (.n :: []), .sub ⟨[(0, none), (1, none), (2, none), (7, none), (8, none), (9, none), (10, none)], [none], []⟩ (.exit 2) (nspeculumref04_WearOf_l1_0_e0 a0 a1 a2 x8 r3219 r3257), .reg (nN 3 [])]) (c := ⟨[(0, none), (1, none), (2, none), (7, none), (8, none)], [none], []⟩) (e := .normal) (s1 := (nspeculumref04_WearOf_l0_0_h a0 a1 a2 r3257 (w64 (x8 + 1)))) (an (an (an (ti (ti (ti (ti trivial)))) (an (decide_eq_true h3213) trivial)) (an (an (an e3216 (an (not_f (decide_eq_true h3217)) trivial)) (an e3222 (an (ti trivial) e3258))) (ti (ti (ti trivial))))) (ti trivial)) (by kernel_rfl)
    exact round_next pm pn hv hq h2
   ·have h2 := ih _ _ _ h
    obtain ⟨q, hv, hq⟩ := pkR (rd := none) (P := Go.Proofs.Try.prog) (fn := Go.Proofs.Try.f31) (k := 0) (s := (nspeculumref04_WearOf_l0_0_h a0 a1 a2 y0 x8)) (ans := [.reg (nN 4 []), .br true, .reg (nN 4 (.v (vs ((a1.getD x8.toNat default).Mirror)) :: .n :: .n :: [])), .br true, .reg (nN 3 [])]) (c := ⟨[(0, none), (1, none), (2, none), (7, none), (8, none)], [none], []⟩) (e := .normal) (s1 := (nspeculumref04_WearOf_l0_0_h a0 a1 a2 y0 (w64 (x8 + 1)))) (an (an (an (ti (ti (ti (ti trivial)))) (an (decide_eq_true h3213) trivial)) (an (an e3216 (an (not_t (decide_eq_false h3217)) trivial)) (ti (ti (ti trivial))))) (ti trivial)) (by kernel_rfl)
    exact round_next pm pn hv hq h2
  ·injection h with h; subst h
   exact round_stop (c := ⟨[(7, none)], [none], []⟩) (s1 := (nspeculumref04_WearOf_l0_0_e0 a0 a1 a2 y0)) pm pn (ans := [.reg (nN 4 []), .br false]) (by kernel_rfl) (by intro e; cases e) (an (an (ti (ti (ti (ti trivial)))) (an (decide_eq_false h3213) trivial)) (ti trivial))
def arK5_22 (z0 : (List SStroke)) : List Ans := (nN 3 (.v (VV.tr (List.map vi ((z0.getD ((0 : Int)).toNat default).Wear)) (((z0.getD ((0 : Int)).toNat default).Wear).length)) :: nN 3 []))
def nspeculumref04_WearOf (k : Nat) (a0 : (List SStroke)) (a1 : (List SGrindSession)) (a2 : ByteArray) : Option (List Int) :=
  if (0 : Int) ≤ 0 ∧ 0 < (a0.length : Int) then (if 0 ≤ (((a0.getD ((0 : Int)).toNat default).Wear).length : Int) ∧ (((a0.getD ((0 : Int)).toNat default).Wear).length : Int) ≤ 1000000000 then ((nspeculumref04_WearOf_l0_0 k a0 a1 a2 k (List.replicate (((a0.getD ((0 : Int)).toNat default).Wear).length : Int).toNat (0 : Int)) 0).bind fun r3260 => (some r3260)) else none) else none
theorem nspeculumref04_WearOf_ok (k : Nat) (a0 : (List SStroke)) (a1 : (List SGrindSession)) (a2 : ByteArray) (r : (List Int)) (h : nspeculumref04_WearOf k a0 a1 a2 = some r) : VC Go.Proofs.Try.prog 31 [VV.tr (List.flatMap c_SStroke a0) a0.length, VV.tr (List.flatMap c_SGrindSession a1) a1.length, vs a2] (VV.fw 1 (List.map vi r) r.length) := by
 unfold nspeculumref04_WearOf at h
 obtain ⟨h3113, h⟩ := ifn h
 have e3114 := (show loadL Go.Proofs.Try.prog 37 (((0 : Int)).toNat * 2 + 1) (List.flatMap c_SStroke a0) = some (VV.tr (List.map vi ((a0.getD ((0 : Int)).toNat default).Wear)) (((a0.getD ((0 : Int)).toNat default).Wear).length)) from (ld_flat ag37 c_SStroke 2 1 len_c_SStroke (by omega) a0 default h3113 (by omega)).trans rfl)
 obtain ⟨h3115, h⟩ := ifn h
 have e3116 := (show 0 ≤ (((a0.getD ((0 : Int)).toNat default).Wear).length : Int) ∧ (((a0.getD ((0 : Int)).toNat default).Wear).length : Int) = (((a0.getD ((0 : Int)).toNat default).Wear).length : Int) ∧ (8 * (((a0.getD ((0 : Int)).toNat default).Wear).length : Int).toNat) ≤ 281474976710656 ∧ (((a0.getD ((0 : Int)).toNat default).Wear).length : Int) < 1099511627776 from ⟨by omega, rfl, by omega, by omega⟩)
 have e3117 := (ti (an h3113 (ti (an e3114 (ti (an e3116 (ti trivial)))))))
 obtain ⟨r3260, h3259, h⟩ := bs h
 have hph3259 := nspeculumref04_WearOf_l0_0_ok k a0 a1 a2 _ _ _ _ h3259
 have e3261 := (an (an (an (show Wv (VV.rf 0 0 ((((a0.getD ((0 : Int)).toNat default).Wear).length : Int).toNat)) (VV.rf 0 0 ((List.replicate (((a0.getD ((0 : Int)).toNat default).Wear).length : Int).toNat (0 : Int)).length)) from (Wv.of_eq (by simp))) trivial) (an (show List.replicate (((a0.getD ((0 : Int)).toNat default).Wear).length : Int).toNat (VV.c (.int .i64 0)) = List.map vi (List.replicate (((a0.getD ((0 : Int)).toNat default).Wear).length : Int).toNat (0 : Int)) from replicate_vi _) trivial)) (VRun.loop hph3259))
 injection h with h; subst h
 exact fun_ok pm pn Go.Proofs.Try.func31 (r0 := VV.fw 1 (List.drop 0 (List.map unfr (List.map vi r3260))) r3260.length) (ans := [.reg (.n :: []), .reg (arK5_22 a0), .reg (.n :: []), .sub ⟨[(0, none), (1, none), (2, none), (7, some (VV.rf 0 0 ((List.replicate (((a0.getD ((0 : Int)).toNat default).Wear).length : Int).toNat (0 : Int)).length))), (8, none)], [some (List.map vi (List.replicate (((a0.getD ((0 : Int)).toNat default).Wear).length : Int).toNat (0 : Int)))], []⟩ (.exit 0) (nspeculumref04_WearOf_l0_0_e0 a0 a1 a2 r3260), .reg (.n :: .n :: [])]) (fr := true) (by kernel_rfl) (an (an (ti trivial) (an e3117 (an (an (ti trivial) e3261) (an (ti (ti trivial)) trivial)))) (an (show List.all (List.map vi r3260) new0 = true from (by exact new0_vi _)) trivial)) (Wv.of_eq (eqK5_5 r3260))
def nspeculumbase_Ints_l0_0_h (a0 : (List Int)) (a1 : (List Int)) (x5 : Int) : VS := ⟨mkA [(0, VV.tr (List.map vi a0) a0.length), (1, VV.tr (List.map vi a1) a1.length), (5, vi x5)], [], .nil⟩
def nspeculumbase_Ints_l0_0_e0 (a0 : (List Int)) (a1 : (List Int)) (r : Unit) : VS := ⟨mkA [(4, vb false)], [], .nil⟩
def nspeculumbase_Ints_l0_0_e1 (a0 : (List Int)) (a1 : (List Int)) (r : Unit) : VS := ⟨mkA [], [], .nil⟩
def nspeculumbase_Ints_l0_0 (k : Nat) (a0 : (List Int)) (a1 : (List Int)) : Nat → Int → Option (Sum Unit Unit)
  | 0, _ => none
  | fuel + 1, x5 => if x5 < (a0.length : Int) then (if 0 ≤ x5 ∧ x5 < (a0.length : Int) then (if 0 ≤ x5 ∧ x5 < (a1.length : Int) then (if (a0.getD x5.toNat 0) = (a1.getD x5.toNat 0) then (nspeculumbase_Ints_l0_0 k a0 a1 fuel (w64 (x5 + 1))) else (some (.inl ()))) else none) else none) else (some (.inr ()))
theorem nspeculumbase_Ints_l0_0_ok (k : Nat) (a0 : (List Int)) (a1 : (List Int)) : ∀ (fuel : Nat) (x5 : Int) (r : Sum Unit Unit), nspeculumbase_Ints_l0_0 k a0 a1 fuel x5 = some r → (match r with | .inl r => VLoop none Go.Proofs.Try.prog (szF Go.Proofs.Try.f22) (bodyOf Go.Proofs.Try.f22 0) (nspeculumbase_Ints_l0_0_h a0 a1 x5) .ret (nspeculumbase_Ints_l0_0_e0 a0 a1 r) | .inr r => VLoop none Go.Proofs.Try.prog (szF Go.Proofs.Try.f22) (bodyOf Go.Proofs.Try.f22 0) (nspeculumbase_Ints_l0_0_h a0 a1 x5) (.exit 0) (nspeculumbase_Ints_l0_0_e1 a0 a1 r)) := by
 intro fuel
 induction fuel with
 | zero => intro x5 r h; rw [nspeculumbase_Ints_l0_0.eq_1] at h; cases h
 | succ fuel ih =>
  intro x5 r h
  rw [nspeculumbase_Ints_l0_0.eq_2] at h
  rcases ifs h with ⟨h3308, h⟩ | ⟨h3308, h⟩
  ·obtain ⟨h3309, h⟩ := ifn h
   have e3310 := (show loadL Go.Proofs.Try.prog 3 (x5.toNat * 1) (List.map vi a0) = some (vi (a0.getD x5.toNat 0)) from ld_map ag3 vi a0 0 h3309 (by omega))
   obtain ⟨h3311, h⟩ := ifn h
   have e3312 := (show loadL Go.Proofs.Try.prog 3 (x5.toNat * 1) (List.map vi a1) = some (vi (a1.getD x5.toNat 0)) from ld_map ag3 vi a1 0 h3311 (by omega))
   have e3313 := (ti (ti (an h3309 (an e3310 (ti (ti (an h3311 (an e3312 (ti trivial)))))))))
   rcases ifs h with ⟨h3314, h⟩ | ⟨h3314, h⟩
   ·have h2 := ih _ _ h
    obtain ⟨q, hv, hq⟩ := pkR (rd := none) (P := Go.Proofs.Try.prog) (fn := Go.Proofs.Try.f22) (k := 0) (s := (nspeculumbase_Ints_l0_0_h a0 a1 x5)) (ans := [.reg (nN 4 []), .br true, .reg (nN 3 (.v (vi (a0.getD x5.toNat 0)) :: nN 3 (.v (vi (a1.getD x5.toNat 0)) :: .n :: []))), .br false, .reg (nN 3 [])]) (c := ⟨[(0, none), (1, none), (5, none)], [], []⟩) (e := .normal) (s1 := (nspeculumbase_Ints_l0_0_h a0 a1 (w64 (x5 + 1)))) (an (an (an (ti (ti (ti (ti trivial)))) (an (decide_eq_true h3308) trivial)) (an (an e3313 (an (not_f (decide_eq_true h3314)) trivial)) (ti (ti (ti trivial))))) (ti trivial)) (by kernel_rfl)
    cases r with
    | inl r => exact round_next pm pn hv hq h2
    | inr r =>
     exact round_next pm pn hv hq h2
   ·injection h with h; subst h
    exact round_stop (c := ⟨[(4, none)], [], []⟩) (s1 := (nspeculumbase_Ints_l0_0_e0 a0 a1 ())) pm pn (ans := [.reg (nN 4 []), .br true, .reg (nN 3 (.v (vi (a0.getD x5.toNat 0)) :: nN 3 (.v (vi (a1.getD x5.toNat 0)) :: .n :: []))), .br true, .reg (.n :: [])]) (by kernel_rfl) (by intro e; cases e) (an (an (an (ti (ti (ti (ti trivial)))) (an (decide_eq_true h3308) trivial)) (an e3313 (an (not_t (decide_eq_false h3314)) (an (ti trivial) trivial)))) (ti trivial))
  ·injection h with h; subst h
   exact round_stop (c := ⟨[], [], []⟩) (s1 := (nspeculumbase_Ints_l0_0_e1 a0 a1 ())) pm pn (ans := [.reg (nN 4 []), .br false]) (by kernel_rfl) (by intro e; cases e) (an (an (ti (ti (ti (ti trivial)))) (an (decide_eq_false h3308) trivial)) (ti trivial))
def nspeculumbase_Ints (k : Nat) (a0 : (List Int)) (a1 : (List Int)) : Option Bool :=
  if (a0.length : Int) = (a1.length : Int) then ((nspeculumbase_Ints_l0_0 k a0 a1 k 0).bind fun r3316 => (match r3316 with | .inl r3317 => (some false) | .inr r3318 => (some true))) else (some false)
theorem nspeculumbase_Ints_ok (k : Nat) (a0 : (List Int)) (a1 : (List Int)) (r : Bool) (h : nspeculumbase_Ints k a0 a1 = some r) : VC Go.Proofs.Try.prog 22 [VV.tr (List.map vi a0) a0.length, VV.tr (List.map vi a1) a1.length] (vb r) := by
 unfold nspeculumbase_Ints at h
 rcases ifs h with ⟨h3293, h⟩ | ⟨h3293, h⟩
 ·obtain ⟨r3316, h3315, h⟩ := bs h
  have hph3315 := nspeculumbase_Ints_l0_0_ok k a0 a1 _ _ _ h3315
  cases r3316 with
  | inl r3317 =>
   dsimp only at h
   have e3319 := (an (ti trivial) (VRun.loop hph3315))
   injection h with h; subst h
   exact fun_ok pm pn Go.Proofs.Try.func22 (r0 := vb false) (ans := [.reg (.n :: []), .reg (nN 5 []), .br false, .reg (.n :: []), .sub ⟨[(0, none), (1, none), (5, none)], [], []⟩ .ret (nspeculumbase_Ints_l0_0_e0 a0 a1 r3317)]) (fr := true) (by kernel_rfl) (an (an (ti trivial) (an (an (ti (ti (ti (ti (ti trivial))))) (an (not_f (decide_eq_true h3293)) trivial)) (an (ti trivial) e3319))) (ti trivial)) (Wv.refl _)
  | inr r3318 =>
   dsimp only at h
   have e3320 := (an (ti trivial) (VRun.loop hph3315))
   injection h with h; subst h
   exact fun_ok pm pn Go.Proofs.Try.func22 (r0 := vb true) (ans := [.reg (.n :: []), .reg (nN 5 []), .br false, .reg (.n :: []), .sub ⟨[(0, none), (1, none), (5, none)], [], []⟩ (.exit 0) (nspeculumbase_Ints_l0_0_e1 a0 a1 r3318), .reg (.n :: [])]) (fr := true) (by kernel_rfl) (an (an (ti trivial) (an (an (ti (ti (ti (ti (ti trivial))))) (an (not_f (decide_eq_true h3293)) trivial)) (an (an (ti trivial) e3320) (an (ti trivial) trivial)))) (ti trivial)) (Wv.refl _)
 ·injection h with h; subst h
  exact fun_ok pm pn Go.Proofs.Try.func22 (r0 := vb false) (ans := [.reg (.n :: []), .reg (nN 5 []), .br true, .reg (.n :: [])]) (fr := true) (by kernel_rfl) (an (an (ti trivial) (an (ti (ti (ti (ti (ti trivial))))) (an (not_t (decide_eq_false h3293)) (an (ti trivial) trivial)))) (ti trivial)) (Wv.refl _)
def arK5_23 (z0 : Bool) (z1 : Bool) : List Ans := (.n :: .call (vb z0) :: nN 3 (.call (vb z1) :: .n :: .b false :: nN 4 (.b false :: [])))
def arK5_24 (z0 : (List SStroke)) (z1 : (List SGrindSession)) (z2 : ((List Int) × Int)) : List Ans := (.n :: .call (VV.fr (List.flatMap c_SStroke z0) z0.length) :: .n :: .call (VV.fr (List.flatMap c_SGrindSession z1) z1.length) :: .n :: .call (VV.tu [VV.fr (List.map vi z2.1) z2.1.length, vi z2.2]) :: nN 5 [])
def arK5_25 (z0 : (List SStroke)) (z1 : (List SGrindSession)) (z2 : Int) : List Ans := (.n :: .call (VV.fr (List.flatMap c_SStroke z0) z0.length) :: .n :: .call (VV.fr (List.flatMap c_SGrindSession z1) z1.length) :: .call (vi z2) :: .n :: .n :: [])
def arK5_26 (z0 : (List Int)) (z1 : Bool) : List Ans := (nN 7 (.call (VV.fr (List.map vi z0) z0.length) :: .call (vb z1) :: .b true :: .n :: []))
def arK5_27 (z0 : Bool) (z1 : Bool) : List Ans := (.n :: .call (vb z0) :: nN 3 (.call (vb z1) :: .n :: .b false :: .n :: nS 3 (.b true :: [])))
def nspeculumlaw04_GrindSessions (k : Nat) (a0 : (List SStroke)) (a1 : (List SGrindSession)) (a2 : ByteArray) : Option Bool :=
  (nawake k).bind fun r3335 => (if r3335 = true then ((nspeculumlaw04_Light k a0).bind fun r3338 => (if r3338 = true then ((nspeculumlaw04_Few k a1).bind fun r3341 => (if r3341 = true then (if 30 < (a2.size : Int) then (some true) else ((nspeculumref04_Copy k a0).bind fun r3347 => ((nspeculumlaw04_sessions k a1).bind fun r3350 => ((ngrind_WearOf k r3347 r3350 a2).bind fun r3353 => ((nspeculumref04_CheckSessions k a0 a1).bind fun r3357 => ((ngrind_CheckSessions k r3347 r3350).bind fun r3364 => (if r3364 = r3357 then (if r3357 = 0 then ((nspeculumbase_IsName k a2).bind fun r3370 => (if r3370 = true then (if r3353.2 = 0 then ((nspeculumref04_WearOf k a0 a1 a2).bind fun r3376 => ((nspeculumbase_Ints k r3353.1 r3376).bind fun r3379 => (some r3379))) else (some false)) else (if r3353.2 = 4 then (some (decide ((r3353.1.length : Int) = 0))) else (some false)))) else (if r3353.2 = r3357 then (some (decide ((r3353.1.length : Int) = 0))) else (some false))) else (some false)))))))) else (some true))) else (some true))) else (some false))
theorem nspeculumlaw04_GrindSessions_ok (k : Nat) (a0 : (List SStroke)) (a1 : (List SGrindSession)) (a2 : ByteArray) (r : Bool) (h : nspeculumlaw04_GrindSessions k a0 a1 a2 = some r) : VC Go.Proofs.Try.prog 7 [VV.tr (List.flatMap c_SStroke a0) a0.length, VV.tr (List.flatMap c_SGrindSession a1) a1.length, vs a2] (vb r) := by
 unfold nspeculumlaw04_GrindSessions at h
 obtain ⟨r3335, h3336, h⟩ := bs h
 rcases ifs h with ⟨h3337, h⟩ | ⟨h3337, h⟩
 ·obtain ⟨r3338, h3339, h⟩ := bs h
  rcases ifs h with ⟨h3340, h⟩ | ⟨h3340, h⟩
  ·obtain ⟨r3341, h3342, h⟩ := bs h
   have e3343 := (an (not_f h3340) (nspeculumlaw04_Few_ok k a1 _ h3342))
   rcases ifs h with ⟨h3344, h⟩ | ⟨h3344, h⟩
   ·have e3345 := (ti (an (nspeculumlaw04_Light_ok k a0 _ h3339) (ti (ti (an (an (not_f h3340) trivial) (an e3343 (an (an (not_f h3340) trivial) (an (not_f h3340) (ti (an (an (not_f h3344) trivial) (an (an (not_f h3344) trivial) (an (an (not_f h3344) trivial) (an (not_f h3344) trivial)))))))))))))
    rcases ifs h with ⟨h3346, h⟩ | ⟨h3346, h⟩
    ·injection h with h; subst h
     exact fun_ok pm pn Go.Proofs.Try.func7 (r0 := vb true) (ans := [.reg (.n :: []), .reg (.call (vb r3335) :: .n :: []), .br false, .reg (arK5_23 r3338 r3341), .br true, .reg (.n :: [])]) (fr := true) (by kernel_rfl) (an (an (ti trivial) (an (an (an (nawake_ok k _ h3336) (ti trivial)) (an (not_f h3337) trivial)) (an e3345 (an (decide_eq_true h3346) (an (ti trivial) trivial))))) (ti trivial)) (Wv.refl _)
    ·obtain ⟨r3347, h3348, h⟩ := bs h
     have e3349 := (show VC Go.Proofs.Try.prog 26 [VV.tr (List.flatMap c_SStroke a0) a0.length] (VV.fr (List.flatMap c_SStroke r3347) r3347.length) from (VC.weak (nspeculumref04_Copy_ok k a0 _ h3348) (Wv.fw rfl rfl)))
     obtain ⟨r3350, h3351, h⟩ := bs h
     have e3352 := (show VC Go.Proofs.Try.prog 27 [VV.tr (List.flatMap c_SGrindSession a1) a1.length] (VV.fr (List.flatMap c_SGrindSession r3350) r3350.length) from (VC.weak (nspeculumlaw04_sessions_ok k a1 _ h3351) (Wv.fw rfl rfl)))
     obtain ⟨r3353, h3354, h⟩ := bs h
     have e3355 := (ngrind_WearOf_ok k r3347 r3350 a2 _ h3354)
     have e3356 := (ti (an e3349 (ti (an e3352 (ti (an e3355 (ti (ti (ti (ti (ti trivial)))))))))))
     obtain ⟨r3357, h3358, h⟩ := bs h
     have e3359 := (nspeculumref04_CheckSessions_ok k a0 a1 _ h3358)
     have e3361 := (show VC Go.Proofs.Try.prog 26 [VV.tr (List.flatMap c_SStroke a0) a0.length] (VV.fr (List.flatMap c_SStroke r3347) r3347.length) from (VC.weak (nspeculumref04_Copy_ok k a0 _ h3348) (Wv.fw rfl rfl)))
     have e3363 := (show VC Go.Proofs.Try.prog 27 [VV.tr (List.flatMap c_SGrindSession a1) a1.length] (VV.fr (List.flatMap c_SGrindSession r3350) r3350.length) from (VC.weak (nspeculumlaw04_sessions_ok k a1 _ h3351) (Wv.fw rfl rfl)))
     obtain ⟨r3364, h3365, h⟩ := bs h
     have e3366 := (ngrind_CheckSessions_ok k r3347 r3350 _ h3365)
     have e3367 := (ti (an e3361 (ti (an e3363 (an e3366 (ti (ti trivial)))))))
     rcases ifs h with ⟨h3368, h⟩ | ⟨h3368, h⟩
     ·rcases ifs h with ⟨h3369, h⟩ | ⟨h3369, h⟩
      ·obtain ⟨r3370, h3371, h⟩ := bs h
       have e3372 := (an (decide_eq_true h3369) (nspeculumbase_IsName_ok k a2 _ h3371))
       have e3373 := (ti (ti (ti (an (an (decide_eq_true h3369) trivial) (an e3372 (an (an (decide_eq_true h3369) trivial) (an (decide_eq_true h3369) trivial)))))))
       rcases ifs h with ⟨h3374, h⟩ | ⟨h3374, h⟩
       ·rcases ifs h with ⟨h3375, h⟩ | ⟨h3375, h⟩
        ·obtain ⟨r3376, h3377, h⟩ := bs h
         have e3378 := (an (decide_eq_true h3375) (show VC Go.Proofs.Try.prog 31 [VV.tr (List.flatMap c_SStroke a0) a0.length, VV.tr (List.flatMap c_SGrindSession a1) a1.length, vs a2] (VV.fr (List.map vi r3376) r3376.length) from (VC.weak (nspeculumref04_WearOf_ok k a0 a1 a2 _ h3377) (Wv.fw rfl rfl))))
         obtain ⟨r3379, h3380, h⟩ := bs h
         have e3381 := (an (decide_eq_true h3375) (nspeculumbase_Ints_ok k r3353.1 r3376 _ h3380))
         have e3382 := (ti (ti (ti (an (an (decide_eq_true h3375) trivial) (an (an (decide_eq_true h3375) trivial) (an (an (decide_eq_true h3375) trivial) (an (an (decide_eq_true h3375) trivial) (an e3378 (an e3381 (an (decide_eq_true h3375) (ti trivial)))))))))))
         injection h with h; subst h
         exact fun_ok pm pn Go.Proofs.Try.func7 (r0 := vb r3379) (ans := [.reg (.n :: []), .reg (.call (vb r3335) :: .n :: []), .br false, .reg (arK5_23 r3338 r3341), .br false, .reg (arK5_24 r3347 r3350 r3353), .reg (.n :: .n :: .call (vi r3357) :: .n :: []), .reg (arK5_25 r3347 r3350 r3364), .br false, .reg (nN 4 (.call (vb r3370) :: .n :: .b true :: [])), .br false, .reg (.n :: .n :: []), .br false, .reg (arK5_26 r3376 r3379)]) (fr := true) (by kernel_rfl) (an (an (ti trivial) (an (an (an (nawake_ok k _ h3336) (ti trivial)) (an (not_f h3337) trivial)) (an (an e3345 (an (decide_eq_false h3346) trivial)) (an e3356 (an (ti (ti (an e3359 (ti trivial)))) (an (an e3367 (an (not_f (decide_eq_true h3368)) trivial)) (an (an e3373 (an (not_f h3374) trivial)) (an (an (ti (ti trivial)) (an (not_f (decide_eq_true h3369)) trivial)) (an e3382 trivial))))))))) (ti trivial)) (Wv.refl _)
        ·have e3383 := (ti (ti (ti (an (decide_eq_false h3375) (an (decide_eq_false h3375) (an (decide_eq_false h3375) (an (decide_eq_false h3375) (an (decide_eq_false h3375) (an (decide_eq_false h3375) (an (decide_eq_false h3375) (ti trivial)))))))))))
         injection h with h; subst h
         exact fun_ok pm pn Go.Proofs.Try.func7 (r0 := vb false) (ans := [.reg (.n :: []), .reg (.call (vb r3335) :: .n :: []), .br false, .reg (arK5_23 r3338 r3341), .br false, .reg (arK5_24 r3347 r3350 r3353), .reg (.n :: .n :: .call (vi r3357) :: .n :: []), .reg (arK5_25 r3347 r3350 r3364), .br false, .reg (nN 4 (.call (vb r3370) :: .n :: .b true :: [])), .br false, .reg (.n :: .n :: []), .br false, .reg (nN 3 (nS 6 (.b false :: .n :: [])))]) (fr := true) (by kernel_rfl) (an (an (ti trivial) (an (an (an (nawake_ok k _ h3336) (ti trivial)) (an (not_f h3337) trivial)) (an (an e3345 (an (decide_eq_false h3346) trivial)) (an e3356 (an (ti (ti (an e3359 (ti trivial)))) (an (an e3367 (an (not_f (decide_eq_true h3368)) trivial)) (an (an e3373 (an (not_f h3374) trivial)) (an (an (ti (ti trivial)) (an (not_f (decide_eq_true h3369)) trivial)) (an e3383 trivial))))))))) (ti trivial)) (Wv.refl _)
       ·rcases ifs h with ⟨h3384, h⟩ | ⟨h3384, h⟩
        ·have e3385 := (ti (ti (ti (ti (an (an (decide_eq_true h3384) trivial) (an (an (decide_eq_true h3384) trivial) (an (an (decide_eq_true h3384) trivial) (an (decide_eq_true h3384) (ti trivial)))))))))
         injection h with h; subst h
         exact fun_ok pm pn Go.Proofs.Try.func7 (r0 := vb (decide ((r3353.1.length : Int) = 0))) (ans := [.reg (.n :: []), .reg (.call (vb r3335) :: .n :: []), .br false, .reg (arK5_23 r3338 r3341), .br false, .reg (arK5_24 r3347 r3350 r3353), .reg (.n :: .n :: .call (vi r3357) :: .n :: []), .reg (arK5_25 r3347 r3350 r3364), .br false, .reg (nN 4 (.call (vb r3370) :: .n :: .b true :: [])), .br true, .reg (.n :: []), .reg (.n :: .n :: []), .br true, .reg (nN 7 (.b true :: .n :: []))]) (fr := true) (by kernel_rfl) (an (an (ti trivial) (an (an (an (nawake_ok k _ h3336) (ti trivial)) (an (not_f h3337) trivial)) (an (an e3345 (an (decide_eq_false h3346) trivial)) (an e3356 (an (ti (ti (an e3359 (ti trivial)))) (an (an e3367 (an (not_f (decide_eq_true h3368)) trivial)) (an (an e3373 (an (not_t (bool_f h3374)) (ti trivial))) (an (ti (ti trivial)) (an (show (!(decide ((4 : Int) = 0))) = true from (not_t (decide_eq_false (by decide)))) (an e3385 trivial)))))))))) (ti trivial)) (Wv.refl _)
        ·have e3386 := (ti (ti (ti (ti (an (decide_eq_false h3384) (an (decide_eq_false h3384) (an (decide_eq_false h3384) (an (decide_eq_false h3384) (ti trivial)))))))))
         injection h with h; subst h
         exact fun_ok pm pn Go.Proofs.Try.func7 (r0 := vb false) (ans := [.reg (.n :: []), .reg (.call (vb r3335) :: .n :: []), .br false, .reg (arK5_23 r3338 r3341), .br false, .reg (arK5_24 r3347 r3350 r3353), .reg (.n :: .n :: .call (vi r3357) :: .n :: []), .reg (arK5_25 r3347 r3350 r3364), .br false, .reg (nN 4 (.call (vb r3370) :: .n :: .b true :: [])), .br true, .reg (.n :: []), .reg (.n :: .n :: []), .br true, .reg (nN 4 (nS 3 (.b false :: .n :: [])))]) (fr := true) (by kernel_rfl) (an (an (ti trivial) (an (an (an (nawake_ok k _ h3336) (ti trivial)) (an (not_f h3337) trivial)) (an (an e3345 (an (decide_eq_false h3346) trivial)) (an e3356 (an (ti (ti (an e3359 (ti trivial)))) (an (an e3367 (an (not_f (decide_eq_true h3368)) trivial)) (an (an e3373 (an (not_t (bool_f h3374)) (ti trivial))) (an (ti (ti trivial)) (an (show (!(decide ((4 : Int) = 0))) = true from (not_t (decide_eq_false (by decide)))) (an e3386 trivial)))))))))) (ti trivial)) (Wv.refl _)
      ·have e3387 := (ti (ti (ti (an (decide_eq_false h3369) (an (decide_eq_false h3369) (an (decide_eq_false h3369) (an (decide_eq_false h3369) trivial)))))))
       rcases ifs h with ⟨h3388, h⟩ | ⟨h3388, h⟩
       ·have e3389 := (ti (ti (ti (ti (an (an (decide_eq_true h3388) trivial) (an (an (decide_eq_true h3388) trivial) (an (an (decide_eq_true h3388) trivial) (an (decide_eq_true h3388) (ti trivial)))))))))
        injection h with h; subst h
        exact fun_ok pm pn Go.Proofs.Try.func7 (r0 := vb (decide ((r3353.1.length : Int) = 0))) (ans := [.reg (.n :: []), .reg (.call (vb r3335) :: .n :: []), .br false, .reg (arK5_23 r3338 r3341), .br false, .reg (arK5_24 r3347 r3350 r3353), .reg (.n :: .n :: .call (vi r3357) :: .n :: []), .reg (arK5_25 r3347 r3350 r3364), .br false, .reg (nN 3 (nS 3 (.b false :: []))), .br false, .reg (.n :: .n :: []), .br true, .reg (nN 7 (.b true :: .n :: []))]) (fr := true) (by kernel_rfl) (an (an (ti trivial) (an (an (an (nawake_ok k _ h3336) (ti trivial)) (an (not_f h3337) trivial)) (an (an e3345 (an (decide_eq_false h3346) trivial)) (an e3356 (an (ti (ti (an e3359 (ti trivial)))) (an (an e3367 (an (not_f (decide_eq_true h3368)) trivial)) (an (an e3387 (an rf trivial)) (an (ti (ti trivial)) (an (not_t (decide_eq_false h3369)) (an e3389 trivial)))))))))) (ti trivial)) (Wv.refl _)
       ·have e3390 := (ti (ti (ti (ti (an (decide_eq_false h3388) (an (decide_eq_false h3388) (an (decide_eq_false h3388) (an (decide_eq_false h3388) (ti trivial)))))))))
        injection h with h; subst h
        exact fun_ok pm pn Go.Proofs.Try.func7 (r0 := vb false) (ans := [.reg (.n :: []), .reg (.call (vb r3335) :: .n :: []), .br false, .reg (arK5_23 r3338 r3341), .br false, .reg (arK5_24 r3347 r3350 r3353), .reg (.n :: .n :: .call (vi r3357) :: .n :: []), .reg (arK5_25 r3347 r3350 r3364), .br false, .reg (nN 3 (nS 3 (.b false :: []))), .br false, .reg (.n :: .n :: []), .br true, .reg (nN 4 (nS 3 (.b false :: .n :: [])))]) (fr := true) (by kernel_rfl) (an (an (ti trivial) (an (an (an (nawake_ok k _ h3336) (ti trivial)) (an (not_f h3337) trivial)) (an (an e3345 (an (decide_eq_false h3346) trivial)) (an e3356 (an (ti (ti (an e3359 (ti trivial)))) (an (an e3367 (an (not_f (decide_eq_true h3368)) trivial)) (an (an e3387 (an rf trivial)) (an (ti (ti trivial)) (an (not_t (decide_eq_false h3369)) (an e3390 trivial)))))))))) (ti trivial)) (Wv.refl _)
     ·injection h with h; subst h
      exact fun_ok pm pn Go.Proofs.Try.func7 (r0 := vb false) (ans := [.reg (.n :: []), .reg (.call (vb r3335) :: .n :: []), .br false, .reg (arK5_23 r3338 r3341), .br false, .reg (arK5_24 r3347 r3350 r3353), .reg (.n :: .n :: .call (vi r3357) :: .n :: []), .reg (arK5_25 r3347 r3350 r3364), .br true, .reg (.n :: [])]) (fr := true) (by kernel_rfl) (an (an (ti trivial) (an (an (an (nawake_ok k _ h3336) (ti trivial)) (an (not_f h3337) trivial)) (an (an e3345 (an (decide_eq_false h3346) trivial)) (an e3356 (an (ti (ti (an e3359 (ti trivial)))) (an e3367 (an (not_t (decide_eq_false h3368)) (an (ti trivial) trivial)))))))) (ti trivial)) (Wv.refl _)
   ·have e3391 := (ti (an (nspeculumlaw04_Light_ok k a0 _ h3339) (ti (ti (an (an (not_f h3340) trivial) (an e3343 (an (an (not_f h3340) trivial) (an (not_f h3340) (ti (an (not_t (bool_f h3344)) (an (not_t (bool_f h3344)) (an (not_t (bool_f h3344)) (an (not_t (bool_f h3344)) trivial)))))))))))))
    injection h with h; subst h
    exact fun_ok pm pn Go.Proofs.Try.func7 (r0 := vb true) (ans := [.reg (.n :: []), .reg (.call (vb r3335) :: .n :: []), .br false, .reg (arK5_27 r3338 r3341), .br true, .reg (.n :: [])]) (fr := true) (by kernel_rfl) (an (an (ti trivial) (an (an (an (nawake_ok k _ h3336) (ti trivial)) (an (not_f h3337) trivial)) (an e3391 (an rt (an (ti trivial) trivial))))) (ti trivial)) (Wv.refl _)
  ·have e3392 := (ti (an (nspeculumlaw04_Light_ok k a0 _ h3339) (ti (ti (an (not_t (bool_f h3340)) (an (not_t (bool_f h3340)) (an (not_t (bool_f h3340)) (an (not_t (bool_f h3340)) (ti (an rt (an rt (an rt (an rt trivial)))))))))))))
   injection h with h; subst h
   exact fun_ok pm pn Go.Proofs.Try.func7 (r0 := vb true) (ans := [.reg (.n :: []), .reg (.call (vb r3335) :: .n :: []), .br false, .reg (.n :: .call (vb r3338) :: .n :: .n :: nS 3 (.b true :: .n :: nS 3 (.b true :: []))), .br true, .reg (.n :: [])]) (fr := true) (by kernel_rfl) (an (an (ti trivial) (an (an (an (nawake_ok k _ h3336) (ti trivial)) (an (not_f h3337) trivial)) (an e3392 (an rt (an (ti trivial) trivial))))) (ti trivial)) (Wv.refl _)
 ·injection h with h; subst h
  exact fun_ok pm pn Go.Proofs.Try.func7 (r0 := vb false) (ans := [.reg (.n :: []), .reg (.call (vb r3335) :: .n :: []), .br true, .reg (.n :: [])]) (fr := true) (by kernel_rfl) (an (an (ti trivial) (an (an (nawake_ok k _ h3336) (ti trivial)) (an (not_t (bool_f h3337)) (an (ti trivial) trivial)))) (ti trivial)) (Wv.refl _)
end Go.Proofs.Ytbaegoglpijnnaa.Vg

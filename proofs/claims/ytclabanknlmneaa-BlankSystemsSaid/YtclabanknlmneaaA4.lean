/- Written by a program out of the program: what Go functions do, as plain functions, and their contracts. -/
import Derived.Test.YtclabanknlmneaaA3
namespace Go.Proofs.Ytclabanknlmneaa.Vg
set_option maxRecDepth 100000
set_option maxHeartbeats 4000000
set_option linter.unusedVariables false
set_option linter.unusedSimpArgs false
open Go Go.Proofs.Ytclabanknlmneaa.Ev Go.Proofs.Ytclabanknlmneaa.Vv
theorem ag66 : isAggT Go.Proofs.Try.prog 66 = some true := by kernel_rfl
theorem sz66 : szOf Go.Proofs.Try.prog 66 = some 3 := by kernel_rfl
theorem eqok66 : EqOK Go.Proofs.Try.prog 66 [some (.i .i64), some (.i .i64), some (.i .i64)] := eqOK_of (by kernel_rfl) (by kernel_rfl) (eqT_struct Go.Proofs.Try.underlying66 (by kernel_rfl) (by kernel_rfl) (by kernel_rfl) (.cons (by decide +kernel) rfl (eqT_int Go.Proofs.Try.underlying3 (by kernel_rfl) (by kernel_rfl)) (.cons (by decide +kernel) rfl (eqT_int Go.Proofs.Try.underlying3 (by kernel_rfl) (by kernel_rfl)) (.cons (by decide +kernel) rfl (eqT_int Go.Proofs.Try.underlying3 (by kernel_rfl) (by kernel_rfl)) .nil))))
def nawake (k : Nat) : Option Bool := some true
theorem nawake_ok (k : Nat) (r : Bool) (h : nawake k = some r) : VC Go.Proofs.Try.prog 12 [] (vb r) := by
  injection h with h; subst h
  exact vc_awake
def arA4_0 (z0 : ((List SCoolBound) × Int)) (z1 : Int) (z2 : (List SCoolBound)) : List Ans := (nN 3 (.v (VV.ag (c_SCoolBound (z0.1.getD z1.toNat default))) :: nN 3 (.v (VV.ag (c_SCoolBound (z2.getD z1.toNat default))) :: .n :: [])))
def nspeculumlaw03_BlankSystems_l0_0_h (r1284 : ((List SCoolBound) × Int)) (r1292 : (List SCoolBound)) (x7 : Int) : VS := ⟨mkA [(3, VV.fr (List.flatMap c_SCoolBound r1284.1) r1284.1.length), (6, VV.fr (List.flatMap c_SCoolBound r1292) r1292.length), (7, vi x7)], [], .nil⟩
def nspeculumlaw03_BlankSystems_l0_0_e0 (r1284 : ((List SCoolBound) × Int)) (r1292 : (List SCoolBound)) (r : Unit) : VS := ⟨mkA [(2, vb false)], [], .nil⟩
def nspeculumlaw03_BlankSystems_l0_0_e1 (r1284 : ((List SCoolBound) × Int)) (r1292 : (List SCoolBound)) (r : Unit) : VS := ⟨mkA [], [], .nil⟩
def nspeculumlaw03_BlankSystems_l0_0 (k : Nat) (r1284 : ((List SCoolBound) × Int)) (r1292 : (List SCoolBound)) : Nat → Int → Option (Sum Unit Unit)
  | 0, _ => none
  | fuel + 1, x7 => if x7 < (r1284.1.length : Int) then (if 0 ≤ x7 ∧ x7 < (r1284.1.length : Int) then (if 0 ≤ x7 ∧ x7 < (r1292.length : Int) then (if (((r1284.1.getD x7.toNat default).From : Int) == ((r1292.getD x7.toNat default).From) && (((r1284.1.getD x7.toNat default).To : Int) == ((r1292.getD x7.toNat default).To) && (((r1284.1.getD x7.toNat default).Most : Int) == ((r1292.getD x7.toNat default).Most) && true))) = true then (nspeculumlaw03_BlankSystems_l0_0 k r1284 r1292 fuel (w64 (x7 + 1))) else (some (.inl ()))) else none) else none) else (some (.inr ()))
theorem nspeculumlaw03_BlankSystems_l0_0_ok (k : Nat) (r1284 : ((List SCoolBound) × Int)) (r1292 : (List SCoolBound)) : ∀ (fuel : Nat) (x7 : Int) (r : Sum Unit Unit), nspeculumlaw03_BlankSystems_l0_0 k r1284 r1292 fuel x7 = some r → (match r with | .inl r => VLoop none Go.Proofs.Try.prog (szF Go.Proofs.Try.f7) (bodyOf Go.Proofs.Try.f7 0) (nspeculumlaw03_BlankSystems_l0_0_h r1284 r1292 x7) .ret (nspeculumlaw03_BlankSystems_l0_0_e0 r1284 r1292 r) | .inr r => VLoop none Go.Proofs.Try.prog (szF Go.Proofs.Try.f7) (bodyOf Go.Proofs.Try.f7 0) (nspeculumlaw03_BlankSystems_l0_0_h r1284 r1292 x7) (.exit 0) (nspeculumlaw03_BlankSystems_l0_0_e1 r1284 r1292 r)) := by
 intro fuel
 induction fuel with
 | zero => intro x7 r h; rw [nspeculumlaw03_BlankSystems_l0_0.eq_1] at h; cases h
 | succ fuel ih =>
  intro x7 r h
  rw [nspeculumlaw03_BlankSystems_l0_0.eq_2] at h
  rcases ifs h with ⟨h1319, h⟩ | ⟨h1319, h⟩
  ·obtain ⟨h1320, h⟩ := ifn h
   have e1321 := (show loadL Go.Proofs.Try.prog 66 (x7.toNat * 3) (List.flatMap c_SCoolBound r1284.1) = some (VV.ag (c_SCoolBound (r1284.1.getD x7.toNat default))) from ld_whole ag66 c_SCoolBound 3 sz66 len_c_SCoolBound r1284.1 default h1320 (by omega))
   obtain ⟨h1322, h⟩ := ifn h
   have e1323 := (show loadL Go.Proofs.Try.prog 66 (x7.toNat * 3) (List.flatMap c_SCoolBound r1292) = some (VV.ag (c_SCoolBound (r1292.getD x7.toNat default))) from ld_whole ag66 c_SCoolBound 3 sz66 len_c_SCoolBound r1292 default h1322 (by omega))
   have e1324 := (show List.map kdV [Value.int .i64 ((r1284.1.getD x7.toNat default).From), Value.int .i64 ((r1284.1.getD x7.toNat default).To), Value.int .i64 ((r1284.1.getD x7.toNat default).Most)] = List.map kdV [Value.int .i64 ((r1292.getD x7.toNat default).From), Value.int .i64 ((r1292.getD x7.toNat default).To), Value.int .i64 ((r1292.getD x7.toNat default).Most)] ∧ EqOK Go.Proofs.Try.prog 66 (List.map kdV [Value.int .i64 ((r1292.getD x7.toNat default).From), Value.int .i64 ((r1292.getD x7.toNat default).To), Value.int .i64 ((r1292.getD x7.toNat default).Most)]) from ⟨rfl, eqok66⟩)
   have e1325 := (ti (ti (an h1320 (an e1321 (ti (ti (an h1322 (an e1323 (an e1324 trivial)))))))))
   rcases ifs h with ⟨h1326, h⟩ | ⟨h1326, h⟩
   ·have h2 := ih _ _ h
    obtain ⟨q, hv, hq⟩ := pkR (rd := none) (P := Go.Proofs.Try.prog) (fn := Go.Proofs.Try.f7) (k := 0) (s := (nspeculumlaw03_BlankSystems_l0_0_h r1284 r1292 x7)) (ans := [.reg (nN 4 []), .br true, .reg (arA4_0 r1284 x7 r1292), .br false, .reg (nN 3 [])]) (c := ⟨[(3, none), (6, none), (7, none)], [], []⟩) (e := .normal) (s1 := (nspeculumlaw03_BlankSystems_l0_0_h r1284 r1292 (w64 (x7 + 1)))) (an (an (an (ti (ti (ti (ti trivial)))) (an (decide_eq_true h1319) trivial)) (an (an e1325 (an (not_f h1326) trivial)) (ti (ti (ti trivial))))) (ti trivial)) (by kernel_rfl)
    cases r with
    | inl r => exact round_next pm pn hv hq h2
    | inr r =>
     exact round_next pm pn hv hq h2
   ·injection h with h; subst h
    exact round_stop (c := ⟨[(2, none)], [], []⟩) (s1 := (nspeculumlaw03_BlankSystems_l0_0_e0 r1284 r1292 ())) pm pn (ans := [.reg (nN 4 []), .br true, .reg (arA4_0 r1284 x7 r1292), .br true, .reg (.n :: [])]) (by kernel_rfl) (by intro e; cases e) (an (an (an (ti (ti (ti (ti trivial)))) (an (decide_eq_true h1319) trivial)) (an e1325 (an (not_t (bool_f h1326)) (an (ti trivial) trivial)))) (ti trivial))
  ·injection h with h; subst h
   exact round_stop (c := ⟨[], [], []⟩) (s1 := (nspeculumlaw03_BlankSystems_l0_0_e1 r1284 r1292 ())) pm pn (ans := [.reg (nN 4 []), .br false]) (by kernel_rfl) (by intro e; cases e) (an (an (ti (ti (ti (ti trivial)))) (an (decide_eq_false h1319) trivial)) (ti trivial))
def arA4_1 (z0 : SAnnealing) (z1 : ((List SCoolBound) × Int)) : List Ans := (.n :: .call (VV.ag (g_SAnnealing z0)) :: .call (VV.tu [VV.fr (List.flatMap c_SCoolBound z1.1) z1.1.length, vi z1.2]) :: nN 5 [])
def nspeculumlaw03_BlankSystems (k : Nat) (a0 : SAnnealing) : Option Bool :=
  (nawake k).bind fun r1274 => (if r1274 = true then ((nspeculumlaw03_Light k a0).bind fun r1277 => (if r1277 = true then ((nspeculumlaw03_own k a0).bind fun r1281 => ((nblank_CoolSystem k r1281).bind fun r1284 => ((nspeculumref03_CheckAnnealing k a0).bind fun r1288 => (if r1288 = 0 then ((nspeculumref03_System k a0).bind fun r1292 => (if r1284.2 = 0 then (if (r1284.1.length : Int) = (r1292.length : Int) then ((nspeculumlaw03_BlankSystems_l0_0 k r1284 r1292 k 0).bind fun r1328 => (match r1328 with | .inl r1329 => (some false) | .inr r1330 => (some true))) else (some false)) else (some false))) else (if r1284.2 = r1288 then (some (decide ((r1284.1.length : Int) = 0))) else (some false)))))) else (some true))) else (some false))
theorem nspeculumlaw03_BlankSystems_ok (k : Nat) (a0 : SAnnealing) (r : Bool) (h : nspeculumlaw03_BlankSystems k a0 = some r) : VC Go.Proofs.Try.prog 7 [VV.ag (c_SAnnealing a0)] (vb r) := by
 unfold nspeculumlaw03_BlankSystems at h
 obtain ⟨r1274, h1275, h⟩ := bs h
 rcases ifs h with ⟨h1276, h⟩ | ⟨h1276, h⟩
 ·obtain ⟨r1277, h1278, h⟩ := bs h
  have e1279 := (ti (an (nspeculumlaw03_Light_ok k a0 _ h1278) (ti trivial)))
  rcases ifs h with ⟨h1280, h⟩ | ⟨h1280, h⟩
  ·obtain ⟨r1281, h1282, h⟩ := bs h
   have e1283 := (show VC Go.Proofs.Try.prog 26 [VV.ag (c_SAnnealing a0)] (VV.ag (g_SAnnealing r1281)) from (VC.weak (nspeculumlaw03_own_ok k a0 _ h1282) (Wv.agL (.cons (Wv.refl _) (.cons (Wv.refl _) (.cons (Wv.fw rfl rfl) (.cons (Wv.fw rfl rfl) .nil)))))))
   obtain ⟨r1284, h1285, h⟩ := bs h
   have e1286 := (show VC Go.Proofs.Try.prog 34 [VV.ag (c_SAnnealing r1281)] (VV.tu [VV.fr (List.flatMap c_SCoolBound r1284.1) r1284.1.length, vi r1284.2]) from (VC.weak (nblank_CoolSystem_ok k r1281 _ h1285) (Wv.tuL (.cons (Wv.fw rfl rfl) (.cons (Wv.refl _) .nil)))))
   have e1287 := (ti (an e1283 (an e1286 (ti (ti (ti (ti (ti trivial))))))))
   obtain ⟨r1288, h1289, h⟩ := bs h
   have e1290 := (nspeculumref03_CheckAnnealing_ok k a0 _ h1289)
   rcases ifs h with ⟨h1291, h⟩ | ⟨h1291, h⟩
   ·obtain ⟨r1292, h1293, h⟩ := bs h
    have e1294 := (show VC Go.Proofs.Try.prog 35 [VV.ag (c_SAnnealing a0)] (VV.fr (List.flatMap c_SCoolBound r1292) r1292.length) from (VC.weak (nspeculumref03_System_ok k a0 _ h1293) (Wv.fw rfl rfl)))
    rcases ifs h with ⟨h1295, h⟩ | ⟨h1295, h⟩
    ·have e1296 := (an (not_f (decide_eq_true h1295)) trivial)
     have e1297 := (an (not_f (decide_eq_true h1295)) trivial)
     have e1298 := (an (not_f (decide_eq_true h1295)) trivial)
     have e1299 := (an (not_f (decide_eq_true h1295)) trivial)
     have e1300 := (an (not_f (decide_eq_true h1295)) trivial)
     have e1301 := (ti (ti (ti (an e1296 (an e1297 (an e1298 (an e1299 (an e1300 (an (not_f (decide_eq_true h1295)) trivial)))))))))
     rcases ifs h with ⟨h1302, h⟩ | ⟨h1302, h⟩
     ·obtain ⟨r1328, h1327, h⟩ := bs h
      have hph1327 := nspeculumlaw03_BlankSystems_l0_0_ok k r1284 r1292 _ _ _ h1327
      cases r1328 with
      | inl r1329 =>
       dsimp only at h
       have e1331 := (an (ti trivial) (VRun.loop hph1327))
       injection h with h; subst h
       exact fun_ok pm pn Go.Proofs.Try.func7 (r0 := vb false) (ans := [.reg (.n :: .n :: []), .reg (.call (vb r1274) :: .n :: []), .br false, .reg (.n :: .call (vb r1277) :: .n :: []), .br false, .reg (arA4_1 r1281 r1284), .reg (.n :: .call (vi r1288) :: .n :: []), .reg (.n :: .n :: []), .br false, .reg (.n :: .call (VV.fr (List.flatMap c_SCoolBound r1292) r1292.length) :: .n :: []), .reg (nN 8 (.b false :: [])), .br false, .reg (.n :: []), .sub ⟨[(3, none), (6, none), (7, none)], [], []⟩ .ret (nspeculumlaw03_BlankSystems_l0_0_e0 r1284 r1292 r1329)]) (fr := true) (by kernel_rfl) (an (an (ti (ti trivial)) (an (an (an (nawake_ok k _ h1275) (ti trivial)) (an (not_f h1276) trivial)) (an (an e1279 (an (not_f h1280) trivial)) (an e1287 (an (an (ti (an e1290 (ti trivial))) (an (ti (ti trivial)) (an (not_f (decide_eq_true h1291)) trivial))) (an (ti (an e1294 (ti trivial))) (an (an e1301 (an (not_f (decide_eq_true h1302)) trivial)) (an (ti trivial) e1331)))))))) (ti trivial)) (Wv.refl _)
      | inr r1330 =>
       dsimp only at h
       have e1332 := (an (ti trivial) (VRun.loop hph1327))
       injection h with h; subst h
       exact fun_ok pm pn Go.Proofs.Try.func7 (r0 := vb true) (ans := [.reg (.n :: .n :: []), .reg (.call (vb r1274) :: .n :: []), .br false, .reg (.n :: .call (vb r1277) :: .n :: []), .br false, .reg (arA4_1 r1281 r1284), .reg (.n :: .call (vi r1288) :: .n :: []), .reg (.n :: .n :: []), .br false, .reg (.n :: .call (VV.fr (List.flatMap c_SCoolBound r1292) r1292.length) :: .n :: []), .reg (nN 8 (.b false :: [])), .br false, .reg (.n :: []), .sub ⟨[(3, none), (6, none), (7, none)], [], []⟩ (.exit 0) (nspeculumlaw03_BlankSystems_l0_0_e1 r1284 r1292 r1330), .reg (.n :: [])]) (fr := true) (by kernel_rfl) (an (an (ti (ti trivial)) (an (an (an (nawake_ok k _ h1275) (ti trivial)) (an (not_f h1276) trivial)) (an (an e1279 (an (not_f h1280) trivial)) (an e1287 (an (an (ti (an e1290 (ti trivial))) (an (ti (ti trivial)) (an (not_f (decide_eq_true h1291)) trivial))) (an (ti (an e1294 (ti trivial))) (an (an e1301 (an (not_f (decide_eq_true h1302)) trivial)) (an (an (ti trivial) e1332) (an (ti trivial) trivial))))))))) (ti trivial)) (Wv.refl _)
     ·injection h with h; subst h
      exact fun_ok pm pn Go.Proofs.Try.func7 (r0 := vb false) (ans := [.reg (.n :: .n :: []), .reg (.call (vb r1274) :: .n :: []), .br false, .reg (.n :: .call (vb r1277) :: .n :: []), .br false, .reg (arA4_1 r1281 r1284), .reg (.n :: .call (vi r1288) :: .n :: []), .reg (.n :: .n :: []), .br false, .reg (.n :: .call (VV.fr (List.flatMap c_SCoolBound r1292) r1292.length) :: .n :: []), .reg (nN 8 (.b false :: [])), .br true, .reg (.n :: [])]) (fr := true) (by kernel_rfl) (an (an (ti (ti trivial)) (an (an (an (nawake_ok k _ h1275) (ti trivial)) (an (not_f h1276) trivial)) (an (an e1279 (an (not_f h1280) trivial)) (an e1287 (an (an (ti (an e1290 (ti trivial))) (an (ti (ti trivial)) (an (not_f (decide_eq_true h1291)) trivial))) (an (ti (an e1294 (ti trivial))) (an e1301 (an (not_t (decide_eq_false h1302)) (an (ti trivial) trivial))))))))) (ti trivial)) (Wv.refl _)
    ·have e1333 := (ti (ti (ti (an (not_t (decide_eq_false h1295)) (an (not_t (decide_eq_false h1295)) (an (not_t (decide_eq_false h1295)) (an (not_t (decide_eq_false h1295)) (an (not_t (decide_eq_false h1295)) (an (not_t (decide_eq_false h1295)) trivial)))))))))
     injection h with h; subst h
     exact fun_ok pm pn Go.Proofs.Try.func7 (r0 := vb false) (ans := [.reg (.n :: .n :: []), .reg (.call (vb r1274) :: .n :: []), .br false, .reg (.n :: .call (vb r1277) :: .n :: []), .br false, .reg (arA4_1 r1281 r1284), .reg (.n :: .call (vi r1288) :: .n :: []), .reg (.n :: .n :: []), .br false, .reg (.n :: .call (VV.fr (List.flatMap c_SCoolBound r1292) r1292.length) :: .n :: []), .reg (nN 3 (nS 5 (.b true :: []))), .br true, .reg (.n :: [])]) (fr := true) (by kernel_rfl) (an (an (ti (ti trivial)) (an (an (an (nawake_ok k _ h1275) (ti trivial)) (an (not_f h1276) trivial)) (an (an e1279 (an (not_f h1280) trivial)) (an e1287 (an (an (ti (an e1290 (ti trivial))) (an (ti (ti trivial)) (an (not_f (decide_eq_true h1291)) trivial))) (an (ti (an e1294 (ti trivial))) (an e1333 (an rt (an (ti trivial) trivial))))))))) (ti trivial)) (Wv.refl _)
   ·rcases ifs h with ⟨h1334, h⟩ | ⟨h1334, h⟩
    ·have e1335 := (ti (ti (ti (ti (an (an (decide_eq_true h1334) trivial) (an (an (decide_eq_true h1334) trivial) (an (an (decide_eq_true h1334) trivial) (an (decide_eq_true h1334) (ti trivial)))))))))
     injection h with h; subst h
     exact fun_ok pm pn Go.Proofs.Try.func7 (r0 := vb (decide ((r1284.1.length : Int) = 0))) (ans := [.reg (.n :: .n :: []), .reg (.call (vb r1274) :: .n :: []), .br false, .reg (.n :: .call (vb r1277) :: .n :: []), .br false, .reg (arA4_1 r1281 r1284), .reg (.n :: .call (vi r1288) :: .n :: []), .reg (.n :: .n :: []), .br true, .reg (nN 7 (.b true :: .n :: []))]) (fr := true) (by kernel_rfl) (an (an (ti (ti trivial)) (an (an (an (nawake_ok k _ h1275) (ti trivial)) (an (not_f h1276) trivial)) (an (an e1279 (an (not_f h1280) trivial)) (an e1287 (an (ti (an e1290 (ti trivial))) (an (ti (ti trivial)) (an (not_t (decide_eq_false h1291)) (an e1335 trivial)))))))) (ti trivial)) (Wv.refl _)
    ·have e1336 := (ti (ti (ti (ti (an (decide_eq_false h1334) (an (decide_eq_false h1334) (an (decide_eq_false h1334) (an (decide_eq_false h1334) (ti trivial)))))))))
     injection h with h; subst h
     exact fun_ok pm pn Go.Proofs.Try.func7 (r0 := vb false) (ans := [.reg (.n :: .n :: []), .reg (.call (vb r1274) :: .n :: []), .br false, .reg (.n :: .call (vb r1277) :: .n :: []), .br false, .reg (arA4_1 r1281 r1284), .reg (.n :: .call (vi r1288) :: .n :: []), .reg (.n :: .n :: []), .br true, .reg (nN 4 (nS 3 (.b false :: .n :: [])))]) (fr := true) (by kernel_rfl) (an (an (ti (ti trivial)) (an (an (an (nawake_ok k _ h1275) (ti trivial)) (an (not_f h1276) trivial)) (an (an e1279 (an (not_f h1280) trivial)) (an e1287 (an (ti (an e1290 (ti trivial))) (an (ti (ti trivial)) (an (not_t (decide_eq_false h1291)) (an e1336 trivial)))))))) (ti trivial)) (Wv.refl _)
  ·injection h with h; subst h
   exact fun_ok pm pn Go.Proofs.Try.func7 (r0 := vb true) (ans := [.reg (.n :: .n :: []), .reg (.call (vb r1274) :: .n :: []), .br false, .reg (.n :: .call (vb r1277) :: .n :: []), .br true, .reg (.n :: [])]) (fr := true) (by kernel_rfl) (an (an (ti (ti trivial)) (an (an (an (nawake_ok k _ h1275) (ti trivial)) (an (not_f h1276) trivial)) (an e1279 (an (not_t (bool_f h1280)) (an (ti trivial) trivial))))) (ti trivial)) (Wv.refl _)
 ·injection h with h; subst h
  exact fun_ok pm pn Go.Proofs.Try.func7 (r0 := vb false) (ans := [.reg (.n :: .n :: []), .reg (.call (vb r1274) :: .n :: []), .br true, .reg (.n :: [])]) (fr := true) (by kernel_rfl) (an (an (ti (ti trivial)) (an (an (nawake_ok k _ h1275) (ti trivial)) (an (not_t (bool_f h1276)) (an (ti trivial) trivial)))) (ti trivial)) (Wv.refl _)
end Go.Proofs.Ytclabanknlmneaa.Vg

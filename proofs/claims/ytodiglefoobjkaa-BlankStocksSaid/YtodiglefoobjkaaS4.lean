import Derived.Test.YtodiglefoobjkaaS3
namespace Go.Proofs.Ytodiglefoobjkaa.Vg
set_option maxRecDepth 100000
set_option maxHeartbeats 4000000
set_option linter.unusedVariables false
set_option linter.unusedSimpArgs false
open Go Go.Proofs.Ytodiglefoobjkaa.Ev Go.Proofs.Ytodiglefoobjkaa.Vv
open List (flatMap length_cons length_nil length_map length_append map_cons map_nil length_replicate)
def nawake (k : Nat) : Option Bool := some true
theorem nawake_ok (k : Nat) (r : Bool) (h : nawake k = some r) : VC Try.prog 4 [] (vb r) := by
 injection h with h; subst h
 exact vc_awake
def nspeculumbase_Ints_l0_0_h (a0 : (List Int)) (a1 : (List Int)) (x5 : Int) : VS := ⟨mkA [(0, VV.tr (List.map vi a0) a0.length), (1, VV.tr (List.map vi a1) a1.length), (5, vi x5)], [], .nil⟩
def nspeculumbase_Ints_l0_0_e0 (a0 : (List Int)) (a1 : (List Int)) (r : Unit) : VS := ⟨mkA [(4, vb false)], [], .nil⟩
def nspeculumbase_Ints_l0_0_e1 (a0 : (List Int)) (a1 : (List Int)) (r : Unit) : VS := ⟨mkA [], [], .nil⟩
def nspeculumbase_Ints_l0_0 (k : Nat) (a0 : (List Int)) (a1 : (List Int)) : Nat -> Int -> Option (Sum Unit Unit)
 | 0, _ => none
 | fuel + 1, x5 => if x5 < (a0.length : Int) then (if 0 <= x5 /\ x5 < (a0.length : Int) then (if 0 <= x5 /\ x5 < (a1.length : Int) then (if (a0.getD x5.toNat 0) = (a1.getD x5.toNat 0) then (nspeculumbase_Ints_l0_0 k a0 a1 fuel (w64 (x5 + 1))) else (some (.inl ()))) else none) else none) else (some (.inr ()))
theorem nspeculumbase_Ints_l0_0_ok (k : Nat) (a0 : (List Int)) (a1 : (List Int)) : ∀ (fuel : Nat) (x5 : Int) (r : Sum Unit Unit), nspeculumbase_Ints_l0_0 k a0 a1 fuel x5 = some r -> (match r with | .inl r => VLoop none Try.prog (szF Try.f15) (bodyOf Try.f15 0) (nspeculumbase_Ints_l0_0_h a0 a1 x5) .ret (nspeculumbase_Ints_l0_0_e0 a0 a1 r) | .inr r => VLoop none Try.prog (szF Try.f15) (bodyOf Try.f15 0) (nspeculumbase_Ints_l0_0_h a0 a1 x5) (.exit 0) (nspeculumbase_Ints_l0_0_e1 a0 a1 r)) := by
 intro fuel
 induction fuel with
 | zero => intro x5 r h; rw [nspeculumbase_Ints_l0_0.eq_1] at h; cases h
 | succ fuel ih =>
  intro x5 r h
  rw [nspeculumbase_Ints_l0_0.eq_2] at h
  rcases ifs h with ⟨h4422, h⟩ | ⟨h4422, h⟩
  ·obtain ⟨h4423, h⟩ := ifn h
   have e4424 := (show loadL Try.prog 3 (x5.toNat * 1) (List.map vi a0) = some (vi (a0.getD x5.toNat 0)) from ld_map ag3 vi a0 0 h4423 (by omega))
   obtain ⟨h4425, h⟩ := ifn h
   have e4426 := (show loadL Try.prog 3 (x5.toNat * 1) (List.map vi a1) = some (vi (a1.getD x5.toNat 0)) from ld_map ag3 vi a1 0 h4425 (by omega))
   have e4427 := (ti (ti (an h4423 (an e4424 (ti (ti (an h4425 (an e4426 (ti trivial)))))))))
   rcases ifs h with ⟨h4428, h⟩ | ⟨h4428, h⟩
   ·have h2 := ih _ _ h
    obtain ⟨q, hv, hq⟩ := pkR (rd := none) (P := Try.prog) (fn := Try.f15) (k := 0) (s := (nspeculumbase_Ints_l0_0_h a0 a1 x5)) (ans := [.reg (nN 4 []), .br true, .reg (nN 3 (.v (vi (a0.getD x5.toNat 0)) :: nN 3 (.v (vi (a1.getD x5.toNat 0)) :: .n :: []))), .br false, .reg (nN 3 [])]) (c := ⟨[(0, none), (1, none), (5, none)], [], []⟩) (e := .normal) (s1 := (nspeculumbase_Ints_l0_0_h a0 a1 (w64 (x5 + 1)))) (an (an (an (ti (ti (ti (ti trivial)))) (an (decide_eq_true h4422) trivial)) (an (an e4427 (an (not_f (decide_eq_true h4428)) trivial)) (ti (ti (ti trivial))))) (ti trivial)) (by kernel_rfl)
    cases r with
    | inl r => exact round_next pm pn hv hq h2
    | inr r =>
     exact round_next pm pn hv hq h2
   ·injection h with h; subst h
    exact round_stop (c := ⟨[(4, none)], [], []⟩) (s1 := (nspeculumbase_Ints_l0_0_e0 a0 a1 ())) pm pn (ans := [.reg (nN 4 []), .br true, .reg (nN 3 (.v (vi (a0.getD x5.toNat 0)) :: nN 3 (.v (vi (a1.getD x5.toNat 0)) :: .n :: []))), .br true, .reg (.n :: [])]) (by kernel_rfl) (by intro e; cases e) (an (an (an (ti (ti (ti (ti trivial)))) (an (decide_eq_true h4422) trivial)) (an e4427 (an (not_t (decide_eq_false h4428)) (an (ti trivial) trivial)))) (ti trivial))
  ·injection h with h; subst h
   exact round_stop (c := ⟨[], [], []⟩) (s1 := (nspeculumbase_Ints_l0_0_e1 a0 a1 ())) pm pn (ans := [.reg (nN 4 []), .br false]) (by kernel_rfl) (by intro e; cases e) (an (an (ti (ti (ti (ti trivial)))) (an (decide_eq_false h4422) trivial)) (ti trivial))
def nspeculumbase_Ints (k : Nat) (a0 : (List Int)) (a1 : (List Int)) : Option Bool :=
 if (a0.length : Int) = (a1.length : Int) then ((nspeculumbase_Ints_l0_0 k a0 a1 k 0).bind fun r4430 => (match r4430 with | .inl r4431 => (some false) | .inr r4432 => (some true))) else (some false)
theorem nspeculumbase_Ints_ok (k : Nat) (a0 : (List Int)) (a1 : (List Int)) (r : Bool) (h : nspeculumbase_Ints k a0 a1 = some r) : VC Try.prog 15 [VV.tr (List.map vi a0) a0.length, VV.tr (List.map vi a1) a1.length] (vb r) := by
 unfold nspeculumbase_Ints at h
 rcases ifs h with ⟨h4407, h⟩ | ⟨h4407, h⟩
 ·obtain ⟨r4430, h4429, h⟩ := bs h
  have hph4429 := nspeculumbase_Ints_l0_0_ok k a0 a1 _ _ _ h4429
  cases r4430 with
  | inl r4431 =>
   dsimp only at h
   have e4433 := (an (ti trivial) (VRun.loop hph4429))
   injection h with h; subst h
   exact fun_ok pm pn Try.func15 (r0 := vb false) (ans := [.reg (.n :: []), .reg (nN 5 []), .br false, .reg (.n :: []), .sub ⟨[(0, none), (1, none), (5, none)], [], []⟩ .ret (nspeculumbase_Ints_l0_0_e0 a0 a1 r4431)]) (fr := true) (by kernel_rfl) (an (an (ti trivial) (an (an (ti (ti (ti (ti (ti trivial))))) (an (not_f (decide_eq_true h4407)) trivial)) (an (ti trivial) e4433))) (ti trivial)) (Wv.refl _)
  | inr r4432 =>
   dsimp only at h
   have e4434 := (an (ti trivial) (VRun.loop hph4429))
   injection h with h; subst h
   exact fun_ok pm pn Try.func15 (r0 := vb true) (ans := [.reg (.n :: []), .reg (nN 5 []), .br false, .reg (.n :: []), .sub ⟨[(0, none), (1, none), (5, none)], [], []⟩ (.exit 0) (nspeculumbase_Ints_l0_0_e1 a0 a1 r4432), .reg (.n :: [])]) (fr := true) (by kernel_rfl) (an (an (ti trivial) (an (an (ti (ti (ti (ti (ti trivial))))) (an (not_f (decide_eq_true h4407)) trivial)) (an (an (ti trivial) e4434) (an (ti trivial) trivial)))) (ti trivial)) (Wv.refl _)
 ·injection h with h; subst h
  exact fun_ok pm pn Try.func15 (r0 := vb false) (ans := [.reg (.n :: []), .reg (nN 5 []), .br true, .reg (.n :: [])]) (fr := true) (by kernel_rfl) (an (an (ti trivial) (an (ti (ti (ti (ti (ti trivial))))) (an (not_t (decide_eq_false h4407)) (an (ti trivial) trivial)))) (ti trivial)) (Wv.refl _)
def arS4_0 (z0 : ((List Int) × Int)) (z1 : Int) (z2 : (List SGlassBatch)) : List Ans := (nN 4 (.v (vi (z0.1.getD z1.toNat 0)) :: nN 5 (.v (vi ((z2.getD z1.toNat default).Count)) :: .n :: .n :: [])))
def nspeculumlaw03_BlankStocks_l0_0_h (a0 : (List SGlassBatch)) (r4491 : ((List Int) × Int)) (x13 : Int) (x14 : Int) : VS := ⟨mkA [(0, VV.tr (flatMap c_SGlassBatch a0) a0.length), (7, VV.fr (List.map vi r4491.1) r4491.1.length), (13, vi x13), (14, vi x14)], [], .nil⟩
def nspeculumlaw03_BlankStocks_l0_0_e0 (a0 : (List SGlassBatch)) (r4491 : ((List Int) × Int)) (r : Int) : VS := ⟨mkA [(13, vi r)], [], .nil⟩
def nspeculumlaw03_BlankStocks_l0_0 (k : Nat) (a0 : (List SGlassBatch)) (r4491 : ((List Int) × Int)) : Nat -> Int -> Int -> Option (Int)
 | 0, _, _ => none
 | fuel + 1, x13, x14 => if x14 < (a0.length : Int) then (if 0 <= x14 /\ x14 < (r4491.1.length : Int) then (if 0 <= x14 /\ x14 < (a0.length : Int) then (nspeculumlaw03_BlankStocks_l0_0 k a0 r4491 fuel (w64 ((w64 (x13 + (r4491.1.getD x14.toNat 0))) - ((a0.getD x14.toNat default).Count))) (w64 (x14 + 1))) else none) else none) else (some x13)
theorem nspeculumlaw03_BlankStocks_l0_0_ok (k : Nat) (a0 : (List SGlassBatch)) (r4491 : ((List Int) × Int)) : ∀ (fuel : Nat) (x13 : Int) (x14 : Int) (r : Int), nspeculumlaw03_BlankStocks_l0_0 k a0 r4491 fuel x13 x14 = some r -> (VLoop none Try.prog (szF Try.f3) (bodyOf Try.f3 0) (nspeculumlaw03_BlankStocks_l0_0_h a0 r4491 x13 x14) (.exit 0) (nspeculumlaw03_BlankStocks_l0_0_e0 a0 r4491 r)) := by
 intro fuel
 induction fuel with
 | zero => intro x13 x14 r h; rw [nspeculumlaw03_BlankStocks_l0_0.eq_1] at h; cases h
 | succ fuel ih =>
  intro x13 x14 r h
  rw [nspeculumlaw03_BlankStocks_l0_0.eq_2] at h
  rcases ifs h with ⟨h4563, h⟩ | ⟨h4563, h⟩
  ·obtain ⟨h4564, h⟩ := ifn h
   have e4565 := (show loadL Try.prog 3 (x14.toNat * 1) (List.map vi r4491.1) = some (vi (r4491.1.getD x14.toNat 0)) from ld_map ag3 vi r4491.1 0 h4564 (by omega))
   obtain ⟨h4566, h⟩ := ifn h
   have e4567 := (show loadL Try.prog 3 (x14.toNat * 4 + 3) (flatMap c_SGlassBatch a0) = some (vi ((a0.getD x14.toNat default).Count)) from (ld_flat ag3 c_SGlassBatch 4 3 len_c_SGlassBatch (by omega) a0 default h4566 (by omega)).trans rfl)
   have e4568 := (ti (ti (ti (an h4564 (an e4565 (ti (ti (ti (an h4566 (ti (an e4567 (ti (ti trivial)))))))))))))
   have h2 := ih _ _ _ h
   obtain ⟨q, hv, hq⟩ := pkR (rd := none) (P := Try.prog) (fn := Try.f3) (k := 0) (s := (nspeculumlaw03_BlankStocks_l0_0_h a0 r4491 x13 x14)) (ans := [.reg (nN 4 []), .br true, .reg (arS4_0 r4491 x14 a0), .reg (nN 3 [])]) (c := ⟨[(0, none), (7, none), (13, none), (14, none)], [], []⟩) (e := .normal) (s1 := (nspeculumlaw03_BlankStocks_l0_0_h a0 r4491 (w64 ((w64 (x13 + (r4491.1.getD x14.toNat 0))) - ((a0.getD x14.toNat default).Count))) (w64 (x14 + 1)))) (an (an (an (ti (ti (ti (ti trivial)))) (an (decide_eq_true h4563) trivial)) (an e4568 (ti (ti (ti trivial))))) (ti trivial)) (by kernel_rfl)
   exact round_next pm pn hv hq h2
  ·injection h with h; subst h
   exact round_stop (c := ⟨[(13, none)], [], []⟩) (s1 := (nspeculumlaw03_BlankStocks_l0_0_e0 a0 r4491 x13)) pm pn (ans := [.reg (nN 4 []), .br false]) (by kernel_rfl) (by intro e; cases e) (an (an (ti (ti (ti (ti trivial)))) (an (decide_eq_false h4563) trivial)) (ti trivial))
def arS4_1 (z0 : (List SGlassBatch)) (z1 : (List SGlassPromise)) (z2 : ((List Int) × Int)) : List Ans := (.n :: .call (VV.fr (flatMap c_SGlassBatch z0) z0.length) :: .n :: .call (VV.fr (flatMap c_SGlassPromise z1) z1.length) :: .call (VV.tu [VV.fr (List.map vi z2.1) z2.1.length, vi z2.2]) :: nN 5 [])
def arS4_2 (z0 : (List SGlassBatch)) (z1 : (List SGlassPromise)) (z2 : (ByteArray × Int)) : List Ans := (.n :: .call (VV.fr (flatMap c_SGlassBatch z0) z0.length) :: .n :: .call (VV.fr (flatMap c_SGlassPromise z1) z1.length) :: .n :: .call (VV.tu [vs z2.1, vi z2.2]) :: nN 5 [])
def arS4_3 (z0 : (List SGlassBatch)) (z1 : Int) (z2 : Int) (z3 : (List SGlassPromise)) (z4 : Int) : List Ans := (.n :: .call (VV.fr (flatMap c_SGlassBatch z0) z0.length) :: .call (vi z1) :: .n :: .call (vi z2) :: nN 3 (.call (VV.fr (flatMap c_SGlassBatch z0) z0.length) :: .n :: .call (VV.fr (flatMap c_SGlassPromise z3) z3.length) :: .call (vi z4) :: .n :: .n :: .b false :: []))
def arS4_4 (z0 : (List Int)) (z1 : Bool) : List Ans := (nN 6 (.call (VV.fr (List.map vi z0) z0.length) :: .call (vb z1) :: .n :: .b false :: nN 4 (.b false :: nN 4 (.b false :: []))))
def arS4_5 (z0 : (List Int)) (z1 : Bool) : List Ans := (nN 6 (.call (VV.fr (List.map vi z0) z0.length) :: .call (vb z1) :: .n :: .b false :: nN 4 (.b false :: .n :: nS 3 (.b true :: []))))
def arS4_6 (z0 : (List Int)) (z1 : Bool) : List Ans := (nN 6 (.call (VV.fr (List.map vi z0) z0.length) :: .call (vb z1) :: .n :: .b false :: .n :: nS 3 (.b true :: .n :: nS 3 (.b true :: []))))
def arS4_7  : List Ans := (nN 4 (nS 3 (.b false :: .n :: nS 3 (.b false :: .n :: .skip :: .skip :: .b false :: .n :: []))))
def arS4_8 (z0 : (List SGlassBatch)) (z1 : Int) (z2 : Int) : List Ans := (.n :: .call (VV.fr (flatMap c_SGlassBatch z0) z0.length) :: .call (vi z1) :: .n :: .call (vi z2) :: .n :: .n :: nS 7 (.b true :: []))
def nspeculumlaw03_BlankStocks (k : Nat) (a0 : (List SGlassBatch)) (a1 : (List SGlassPromise)) (a2 : A24) : Option Bool :=
 (nawake k).bind fun r4478 => (if r4478 = true then ((nspeculumlaw03_short k a0 a1).bind fun r4481 => (if r4481 = true then ((nspeculumlaw03_stock k a0).bind fun r4485 => ((nspeculumlaw03_promises k a1).bind fun r4488 => ((nblank_LeftOf k r4485 r4488).bind fun r4491 => ((nblank_FirstBatch k r4485 r4488 a2).bind fun r4499 => ((nspeculumref03_CheckPromises k a0 a1).bind fun r4503 => ((nblank_CheckBatches k r4485).bind fun r4508 => ((nspeculumref03_CheckBatches k a0).bind fun r4511 => (if r4508 = r4511 then ((nblank_CheckPromises k r4485 r4488).bind fun r4521 => (if r4521 = r4503 then (if r4503 = 0 then ((nspeculumref03_FirstBatch k a0 a1 a2).bind fun r4529 => (if r4491.2 = 0 then ((nspeculumref03_LeftOf k a0 a1).bind fun r4537 => ((nspeculumbase_Ints k r4491.1 r4537).bind fun r4540 => (if r4540 = true then (if r4499.2 = r4529.2 then (if r4499.1 = r4529.1 then ((nspeculumlaw03_BlankStocks_l0_0 k a0 r4491 k (a1.length : Int) 0).bind fun r4570 => (some (decide (r4570 = 0)))) else (some false)) else (some false)) else (some false)))) else (some false))) else (if r4491.2 = r4503 then (if r4499.2 = r4503 then (if (r4491.1.length : Int) = 0 then (some (decide (r4499.1 = (⟨#[]⟩ : ByteArray)))) else (some false)) else (some false)) else (some false))) else (some false))) else (some false))))))))) else (some true))) else (some false))
theorem nspeculumlaw03_BlankStocks_ok (k : Nat) (a0 : (List SGlassBatch)) (a1 : (List SGlassPromise)) (a2 : A24) (r : Bool) (h : nspeculumlaw03_BlankStocks k a0 a1 a2 = some r) : VC Try.prog 3 [VV.tr (flatMap c_SGlassBatch a0) a0.length, VV.tr (flatMap c_SGlassPromise a1) a1.length, VV.ag (c_A24 a2)] (vb r) := by
 unfold nspeculumlaw03_BlankStocks at h
 obtain ⟨r4478, h4479, h⟩ := bs h
 rcases ifs h with ⟨h4480, h⟩ | ⟨h4480, h⟩
 ·obtain ⟨r4481, h4482, h⟩ := bs h
  have e4483 := (nspeculumlaw03_short_ok k a0 a1 _ h4482)
  rcases ifs h with ⟨h4484, h⟩ | ⟨h4484, h⟩
  ·obtain ⟨r4485, h4486, h⟩ := bs h
   have e4487 := (show VC Try.prog 7 [VV.tr (flatMap c_SGlassBatch a0) a0.length] (VV.fr (flatMap c_SGlassBatch r4485) r4485.length) from (VC.weak (nspeculumlaw03_stock_ok k a0 _ h4486) (Wv.fw rfl rfl)))
   obtain ⟨r4488, h4489, h⟩ := bs h
   have e4490 := (show VC Try.prog 8 [VV.tr (flatMap c_SGlassPromise a1) a1.length] (VV.fr (flatMap c_SGlassPromise r4488) r4488.length) from (VC.weak (nspeculumlaw03_promises_ok k a1 _ h4489) (Wv.fw rfl rfl)))
   obtain ⟨r4491, h4492, h⟩ := bs h
   have e4493 := (show VC Try.prog 6 [VV.tr (flatMap c_SGlassBatch r4485) r4485.length, VV.tr (flatMap c_SGlassPromise r4488) r4488.length] (VV.tu [VV.fr (List.map vi r4491.1) r4491.1.length, vi r4491.2]) from (VC.weak (nblank_LeftOf_ok k r4485 r4488 _ h4492) (Wv.tuL (.cons (Wv.fw rfl rfl) (.cons (Wv.refl _) .nil)))))
   have e4494 := (ti (an e4487 (ti (an e4490 (an e4493 (ti (ti (ti (ti (ti trivial))))))))))
   have e4496 := (show VC Try.prog 7 [VV.tr (flatMap c_SGlassBatch a0) a0.length] (VV.fr (flatMap c_SGlassBatch r4485) r4485.length) from (VC.weak (nspeculumlaw03_stock_ok k a0 _ h4486) (Wv.fw rfl rfl)))
   have e4498 := (show VC Try.prog 8 [VV.tr (flatMap c_SGlassPromise a1) a1.length] (VV.fr (flatMap c_SGlassPromise r4488) r4488.length) from (VC.weak (nspeculumlaw03_promises_ok k a1 _ h4489) (Wv.fw rfl rfl)))
   obtain ⟨r4499, h4500, h⟩ := bs h
   have e4501 := (nblank_FirstBatch_ok k r4485 r4488 a2 _ h4500)
   have e4502 := (ti (an e4496 (ti (an e4498 (ti (an e4501 (ti (ti (ti (ti (ti trivial)))))))))))
   obtain ⟨r4503, h4504, h⟩ := bs h
   have e4505 := (nspeculumref03_CheckPromises_ok k a0 a1 _ h4504)
   have e4507 := (show VC Try.prog 7 [VV.tr (flatMap c_SGlassBatch a0) a0.length] (VV.fr (flatMap c_SGlassBatch r4485) r4485.length) from (VC.weak (nspeculumlaw03_stock_ok k a0 _ h4486) (Wv.fw rfl rfl)))
   obtain ⟨r4508, h4509, h⟩ := bs h
   have e4510 := (nblank_CheckBatches_ok k r4485 _ h4509)
   obtain ⟨r4511, h4512, h⟩ := bs h
   have e4513 := (nspeculumref03_CheckBatches_ok k a0 _ h4512)
   rcases ifs h with ⟨h4514, h⟩ | ⟨h4514, h⟩
   ·have e4515 := (an (not_f (decide_eq_true h4514)) trivial)
    have e4517 := (an (not_f (decide_eq_true h4514)) (show VC Try.prog 7 [VV.tr (flatMap c_SGlassBatch a0) a0.length] (VV.fr (flatMap c_SGlassBatch r4485) r4485.length) from (VC.weak (nspeculumlaw03_stock_ok k a0 _ h4486) (Wv.fw rfl rfl))))
    have e4518 := (an (not_f (decide_eq_true h4514)) trivial)
    have e4520 := (an (not_f (decide_eq_true h4514)) (show VC Try.prog 8 [VV.tr (flatMap c_SGlassPromise a1) a1.length] (VV.fr (flatMap c_SGlassPromise r4488) r4488.length) from (VC.weak (nspeculumlaw03_promises_ok k a1 _ h4489) (Wv.fw rfl rfl))))
    obtain ⟨r4521, h4522, h⟩ := bs h
    have e4523 := (an (not_f (decide_eq_true h4514)) (nblank_CheckPromises_ok k r4485 r4488 _ h4522))
    have e4524 := (an (not_f (decide_eq_true h4514)) trivial)
    have e4525 := (an (not_f (decide_eq_true h4514)) trivial)
    have e4526 := (ti (an e4507 (an e4510 (ti (an e4513 (ti (ti (an e4515 (an e4517 (an e4518 (an e4520 (an e4523 (an e4524 (an e4525 (an (not_f (decide_eq_true h4514)) trivial)))))))))))))))
    rcases ifs h with ⟨h4527, h⟩ | ⟨h4527, h⟩
    ·rcases ifs h with ⟨h4528, h⟩ | ⟨h4528, h⟩
     ·obtain ⟨r4529, h4530, h⟩ := bs h
      have e4531 := (nspeculumref03_FirstBatch_ok k a0 a1 a2 _ h4530)
      have e4532 := (ti (ti (ti (an e4531 (ti (ti (ti (ti (ti trivial)))))))))
      rcases ifs h with ⟨h4533, h⟩ | ⟨h4533, h⟩
      ·have e4534 := (an (not_f (decide_eq_true h4533)) trivial)
       have e4535 := (an (not_f (decide_eq_true h4533)) trivial)
       have e4536 := (an (not_f (decide_eq_true h4533)) trivial)
       obtain ⟨r4537, h4538, h⟩ := bs h
       have e4539 := (an (not_f (decide_eq_true h4533)) (show VC Try.prog 16 [VV.tr (flatMap c_SGlassBatch a0) a0.length, VV.tr (flatMap c_SGlassPromise a1) a1.length] (VV.fr (List.map vi r4537) r4537.length) from (VC.weak (nspeculumref03_LeftOf_ok k a0 a1 _ h4538) (Wv.fw rfl rfl))))
       obtain ⟨r4540, h4541, h⟩ := bs h
       have e4542 := (an (not_f (decide_eq_true h4533)) (nspeculumbase_Ints_ok k r4491.1 r4537 _ h4541))
       have e4543 := (an (not_f (decide_eq_true h4533)) trivial)
       rcases ifs h with ⟨h4544, h⟩ | ⟨h4544, h⟩
       ·rcases ifs h with ⟨h4545, h⟩ | ⟨h4545, h⟩
        ·have e4546 := (an (not_f (decide_eq_true h4545)) trivial)
         have e4547 := (an (not_f (decide_eq_true h4545)) trivial)
         have e4548 := (an (not_f (decide_eq_true h4545)) trivial)
         have e4549 := (ti (ti (ti (an e4534 (an e4535 (an e4536 (an e4539 (an e4542 (an e4543 (an (not_f (decide_eq_true h4533)) (ti (an (an (not_f h4544) trivial) (an (an (not_f h4544) trivial) (an (an (not_f h4544) trivial) (an (not_f h4544) (ti (an e4546 (an e4547 (an e4548 (an (not_f (decide_eq_true h4545)) trivial))))))))))))))))))))
         rcases ifs h with ⟨h4550, h⟩ | ⟨h4550, h⟩
         ·obtain ⟨r4570, h4569, h⟩ := bs h
          have hph4569 := nspeculumlaw03_BlankStocks_l0_0_ok k a0 r4491 _ _ _ _ h4569
          have e4571 := (an (ti trivial) (VRun.loop hph4569))
          injection h with h; subst h
          exact fun_ok pm pn Try.func3 (r0 := vb (decide (r4570 = 0))) (ans := [.reg (.n :: .n :: []), .reg (.call (vb r4478) :: .n :: []), .br false, .reg (.n :: .n :: .call (vb r4481) :: .n :: []), .br false, .reg (arS4_1 r4485 r4488 r4491), .reg (arS4_2 r4485 r4488 r4499), .reg (.n :: .n :: .call (vi r4503) :: .n :: []), .reg (arS4_3 r4485 r4508 r4511 r4488 r4521), .br false, .reg (.n :: .n :: []), .br false, .reg (nN 3 (.call (VV.tu [vs r4529.1, vi r4529.2]) :: nN 5 [])), .reg (arS4_4 r4537 r4540), .br false, .reg (nN 3 []), .reg (.n :: []), .sub ⟨[(0, none), (7, none), (13, none), (14, none)], [], []⟩ (.exit 0) (nspeculumlaw03_BlankStocks_l0_0_e0 a0 r4491 r4570), .reg (nN 3 [])]) (fr := true) (by kernel_rfl) (an (an (ti (ti trivial)) (an (an (an (nawake_ok k _ h4479) (ti trivial)) (an (not_f h4480) trivial)) (an (an (ti (ti (an e4483 (ti trivial)))) (an (not_f h4484) trivial)) (an e4494 (an e4502 (an (ti (ti (an e4505 (ti trivial)))) (an (an e4526 (an (not_f (decide_eq_true h4527)) trivial)) (an (an (ti (ti trivial)) (an (not_f (decide_eq_true h4528)) trivial)) (an e4532 (an (an e4549 (an (not_f (decide_eq_true h4550)) trivial)) (an (ti (ti (ti trivial))) (an (an (ti trivial) e4571) (an (ti (ti (ti trivial))) trivial))))))))))))) (ti trivial)) (Wv.refl _)
         ·injection h with h; subst h
          exact fun_ok pm pn Try.func3 (r0 := vb false) (ans := [.reg (.n :: .n :: []), .reg (.call (vb r4478) :: .n :: []), .br false, .reg (.n :: .n :: .call (vb r4481) :: .n :: []), .br false, .reg (arS4_1 r4485 r4488 r4491), .reg (arS4_2 r4485 r4488 r4499), .reg (.n :: .n :: .call (vi r4503) :: .n :: []), .reg (arS4_3 r4485 r4508 r4511 r4488 r4521), .br false, .reg (.n :: .n :: []), .br false, .reg (nN 3 (.call (VV.tu [vs r4529.1, vi r4529.2]) :: nN 5 [])), .reg (arS4_4 r4537 r4540), .br true, .reg (.n :: [])]) (fr := true) (by kernel_rfl) (an (an (ti (ti trivial)) (an (an (an (nawake_ok k _ h4479) (ti trivial)) (an (not_f h4480) trivial)) (an (an (ti (ti (an e4483 (ti trivial)))) (an (not_f h4484) trivial)) (an e4494 (an e4502 (an (ti (ti (an e4505 (ti trivial)))) (an (an e4526 (an (not_f (decide_eq_true h4527)) trivial)) (an (an (ti (ti trivial)) (an (not_f (decide_eq_true h4528)) trivial)) (an e4532 (an e4549 (an (not_t (decide_eq_false h4550)) (an (ti trivial) trivial)))))))))))) (ti trivial)) (Wv.refl _)
        ·have e4572 := (ti (ti (ti (an e4534 (an e4535 (an e4536 (an e4539 (an e4542 (an e4543 (an (not_f (decide_eq_true h4533)) (ti (an (an (not_f h4544) trivial) (an (an (not_f h4544) trivial) (an (an (not_f h4544) trivial) (an (not_f h4544) (ti (an (not_t (decide_eq_false h4545)) (an (not_t (decide_eq_false h4545)) (an (not_t (decide_eq_false h4545)) (an (not_t (decide_eq_false h4545)) trivial))))))))))))))))))))
         injection h with h; subst h
         exact fun_ok pm pn Try.func3 (r0 := vb false) (ans := [.reg (.n :: .n :: []), .reg (.call (vb r4478) :: .n :: []), .br false, .reg (.n :: .n :: .call (vb r4481) :: .n :: []), .br false, .reg (arS4_1 r4485 r4488 r4491), .reg (arS4_2 r4485 r4488 r4499), .reg (.n :: .n :: .call (vi r4503) :: .n :: []), .reg (arS4_3 r4485 r4508 r4511 r4488 r4521), .br false, .reg (.n :: .n :: []), .br false, .reg (nN 3 (.call (VV.tu [vs r4529.1, vi r4529.2]) :: nN 5 [])), .reg (arS4_5 r4537 r4540), .br true, .reg (.n :: [])]) (fr := true) (by kernel_rfl) (an (an (ti (ti trivial)) (an (an (an (nawake_ok k _ h4479) (ti trivial)) (an (not_f h4480) trivial)) (an (an (ti (ti (an e4483 (ti trivial)))) (an (not_f h4484) trivial)) (an e4494 (an e4502 (an (ti (ti (an e4505 (ti trivial)))) (an (an e4526 (an (not_f (decide_eq_true h4527)) trivial)) (an (an (ti (ti trivial)) (an (not_f (decide_eq_true h4528)) trivial)) (an e4532 (an e4572 (an rt (an (ti trivial) trivial)))))))))))) (ti trivial)) (Wv.refl _)
       ·have e4573 := (ti (ti (ti (an e4534 (an e4535 (an e4536 (an e4539 (an e4542 (an e4543 (an (not_f (decide_eq_true h4533)) (ti (an (not_t (bool_f h4544)) (an (not_t (bool_f h4544)) (an (not_t (bool_f h4544)) (an (not_t (bool_f h4544)) (ti (an rt (an rt (an rt (an rt trivial))))))))))))))))))))
        injection h with h; subst h
        exact fun_ok pm pn Try.func3 (r0 := vb false) (ans := [.reg (.n :: .n :: []), .reg (.call (vb r4478) :: .n :: []), .br false, .reg (.n :: .n :: .call (vb r4481) :: .n :: []), .br false, .reg (arS4_1 r4485 r4488 r4491), .reg (arS4_2 r4485 r4488 r4499), .reg (.n :: .n :: .call (vi r4503) :: .n :: []), .reg (arS4_3 r4485 r4508 r4511 r4488 r4521), .br false, .reg (.n :: .n :: []), .br false, .reg (nN 3 (.call (VV.tu [vs r4529.1, vi r4529.2]) :: nN 5 [])), .reg (arS4_6 r4537 r4540), .br true, .reg (.n :: [])]) (fr := true) (by kernel_rfl) (an (an (ti (ti trivial)) (an (an (an (nawake_ok k _ h4479) (ti trivial)) (an (not_f h4480) trivial)) (an (an (ti (ti (an e4483 (ti trivial)))) (an (not_f h4484) trivial)) (an e4494 (an e4502 (an (ti (ti (an e4505 (ti trivial)))) (an (an e4526 (an (not_f (decide_eq_true h4527)) trivial)) (an (an (ti (ti trivial)) (an (not_f (decide_eq_true h4528)) trivial)) (an e4532 (an e4573 (an rt (an (ti trivial) trivial)))))))))))) (ti trivial)) (Wv.refl _)
      ·have e4574 := (ti (ti (ti (an (not_t (decide_eq_false h4533)) (an (not_t (decide_eq_false h4533)) (an (not_t (decide_eq_false h4533)) (an (not_t (decide_eq_false h4533)) (an (not_t (decide_eq_false h4533)) (an (not_t (decide_eq_false h4533)) (an (not_t (decide_eq_false h4533)) (ti (an rt (an rt (an rt (an rt (ti (an rt (an rt (an rt (an rt trivial))))))))))))))))))))
       injection h with h; subst h
       exact fun_ok pm pn Try.func3 (r0 := vb false) (ans := [.reg (.n :: .n :: []), .reg (.call (vb r4478) :: .n :: []), .br false, .reg (.n :: .n :: .call (vb r4481) :: .n :: []), .br false, .reg (arS4_1 r4485 r4488 r4491), .reg (arS4_2 r4485 r4488 r4499), .reg (.n :: .n :: .call (vi r4503) :: .n :: []), .reg (arS4_3 r4485 r4508 r4511 r4488 r4521), .br false, .reg (.n :: .n :: []), .br false, .reg (nN 3 (.call (VV.tu [vs r4529.1, vi r4529.2]) :: nN 5 [])), .reg (nN 3 (nS 6 (.b true :: .n :: nS 3 (.b true :: .n :: nS 3 (.b true :: []))))), .br true, .reg (.n :: [])]) (fr := true) (by kernel_rfl) (an (an (ti (ti trivial)) (an (an (an (nawake_ok k _ h4479) (ti trivial)) (an (not_f h4480) trivial)) (an (an (ti (ti (an e4483 (ti trivial)))) (an (not_f h4484) trivial)) (an e4494 (an e4502 (an (ti (ti (an e4505 (ti trivial)))) (an (an e4526 (an (not_f (decide_eq_true h4527)) trivial)) (an (an (ti (ti trivial)) (an (not_f (decide_eq_true h4528)) trivial)) (an e4532 (an e4574 (an rt (an (ti trivial) trivial)))))))))))) (ti trivial)) (Wv.refl _)
     ·rcases ifs h with ⟨h4575, h⟩ | ⟨h4575, h⟩
      ·rcases ifs h with ⟨h4576, h⟩ | ⟨h4576, h⟩
       ·rcases ifs h with ⟨h4577, h⟩ | ⟨h4577, h⟩
        ·have e4578 := (ti (ti (ti (ti (an (an (decide_eq_true h4575) trivial) (an (an (decide_eq_true h4575) trivial) (an (an (decide_eq_true h4575) trivial) (an (decide_eq_true h4575) (ti (an (an (decide_eq_true h4576) trivial) (an (an (decide_eq_true h4576) trivial) (an (an (decide_eq_true h4576) trivial) (an (decide_eq_true h4576) (ti (an (an (decide_eq_true h4577) trivial) (an (an (decide_eq_true h4577) trivial) (an (decide_eq_true h4577) (ti trivial))))))))))))))))))
         injection h with h; subst h
         exact fun_ok pm pn Try.func3 (r0 := vb (decide (r4499.1 = (⟨#[]⟩ : ByteArray)))) (ans := [.reg (.n :: .n :: []), .reg (.call (vb r4478) :: .n :: []), .br false, .reg (.n :: .n :: .call (vb r4481) :: .n :: []), .br false, .reg (arS4_1 r4485 r4488 r4491), .reg (arS4_2 r4485 r4488 r4499), .reg (.n :: .n :: .call (vi r4503) :: .n :: []), .reg (arS4_3 r4485 r4508 r4511 r4488 r4521), .br false, .reg (.n :: .n :: []), .br true, .reg (nN 7 (.b true :: nN 4 (.b true :: nN 3 (.b true :: .n :: []))))]) (fr := true) (by kernel_rfl) (an (an (ti (ti trivial)) (an (an (an (nawake_ok k _ h4479) (ti trivial)) (an (not_f h4480) trivial)) (an (an (ti (ti (an e4483 (ti trivial)))) (an (not_f h4484) trivial)) (an e4494 (an e4502 (an (ti (ti (an e4505 (ti trivial)))) (an (an e4526 (an (not_f (decide_eq_true h4527)) trivial)) (an (ti (ti trivial)) (an (not_t (decide_eq_false h4528)) (an e4578 trivial)))))))))) (ti trivial)) (Wv.refl _)
        ·have e4579 := (ti (ti (ti (ti (an (an (decide_eq_true h4575) trivial) (an (an (decide_eq_true h4575) trivial) (an (an (decide_eq_true h4575) trivial) (an (decide_eq_true h4575) (ti (an (an (decide_eq_true h4576) trivial) (an (an (decide_eq_true h4576) trivial) (an (an (decide_eq_true h4576) trivial) (an (decide_eq_true h4576) (ti (an (decide_eq_false h4577) (an (decide_eq_false h4577) (an (decide_eq_false h4577) (ti trivial))))))))))))))))))
         injection h with h; subst h
         exact fun_ok pm pn Try.func3 (r0 := vb false) (ans := [.reg (.n :: .n :: []), .reg (.call (vb r4478) :: .n :: []), .br false, .reg (.n :: .n :: .call (vb r4481) :: .n :: []), .br false, .reg (arS4_1 r4485 r4488 r4491), .reg (arS4_2 r4485 r4488 r4499), .reg (.n :: .n :: .call (vi r4503) :: .n :: []), .reg (arS4_3 r4485 r4508 r4511 r4488 r4521), .br false, .reg (.n :: .n :: []), .br true, .reg (nN 7 (.b true :: nN 4 (.b true :: .n :: .skip :: .skip :: .b false :: .n :: [])))]) (fr := true) (by kernel_rfl) (an (an (ti (ti trivial)) (an (an (an (nawake_ok k _ h4479) (ti trivial)) (an (not_f h4480) trivial)) (an (an (ti (ti (an e4483 (ti trivial)))) (an (not_f h4484) trivial)) (an e4494 (an e4502 (an (ti (ti (an e4505 (ti trivial)))) (an (an e4526 (an (not_f (decide_eq_true h4527)) trivial)) (an (ti (ti trivial)) (an (not_t (decide_eq_false h4528)) (an e4579 trivial)))))))))) (ti trivial)) (Wv.refl _)
       ·have e4580 := (ti (ti (ti (ti (an (an (decide_eq_true h4575) trivial) (an (an (decide_eq_true h4575) trivial) (an (an (decide_eq_true h4575) trivial) (an (decide_eq_true h4575) (ti (an (decide_eq_false h4576) (an (decide_eq_false h4576) (an (decide_eq_false h4576) (an (decide_eq_false h4576) (ti (an rf (an rf (an rf (ti trivial))))))))))))))))))
        injection h with h; subst h
        exact fun_ok pm pn Try.func3 (r0 := vb false) (ans := [.reg (.n :: .n :: []), .reg (.call (vb r4478) :: .n :: []), .br false, .reg (.n :: .n :: .call (vb r4481) :: .n :: []), .br false, .reg (arS4_1 r4485 r4488 r4491), .reg (arS4_2 r4485 r4488 r4499), .reg (.n :: .n :: .call (vi r4503) :: .n :: []), .reg (arS4_3 r4485 r4508 r4511 r4488 r4521), .br false, .reg (.n :: .n :: []), .br true, .reg (nN 7 (.b true :: .n :: nS 3 (.b false :: .n :: .skip :: .skip :: .b false :: .n :: [])))]) (fr := true) (by kernel_rfl) (an (an (ti (ti trivial)) (an (an (an (nawake_ok k _ h4479) (ti trivial)) (an (not_f h4480) trivial)) (an (an (ti (ti (an e4483 (ti trivial)))) (an (not_f h4484) trivial)) (an e4494 (an e4502 (an (ti (ti (an e4505 (ti trivial)))) (an (an e4526 (an (not_f (decide_eq_true h4527)) trivial)) (an (ti (ti trivial)) (an (not_t (decide_eq_false h4528)) (an e4580 trivial)))))))))) (ti trivial)) (Wv.refl _)
      ·have e4581 := (ti (ti (ti (ti (an (decide_eq_false h4575) (an (decide_eq_false h4575) (an (decide_eq_false h4575) (an (decide_eq_false h4575) (ti (an rf (an rf (an rf (an rf (ti (an rf (an rf (an rf (ti trivial))))))))))))))))))
       injection h with h; subst h
       exact fun_ok pm pn Try.func3 (r0 := vb false) (ans := [.reg (.n :: .n :: []), .reg (.call (vb r4478) :: .n :: []), .br false, .reg (.n :: .n :: .call (vb r4481) :: .n :: []), .br false, .reg (arS4_1 r4485 r4488 r4491), .reg (arS4_2 r4485 r4488 r4499), .reg (.n :: .n :: .call (vi r4503) :: .n :: []), .reg (arS4_3 r4485 r4508 r4511 r4488 r4521), .br false, .reg (.n :: .n :: []), .br true, .reg arS4_7]) (fr := true) (by kernel_rfl) (an (an (ti (ti trivial)) (an (an (an (nawake_ok k _ h4479) (ti trivial)) (an (not_f h4480) trivial)) (an (an (ti (ti (an e4483 (ti trivial)))) (an (not_f h4484) trivial)) (an e4494 (an e4502 (an (ti (ti (an e4505 (ti trivial)))) (an (an e4526 (an (not_f (decide_eq_true h4527)) trivial)) (an (ti (ti trivial)) (an (not_t (decide_eq_false h4528)) (an e4581 trivial)))))))))) (ti trivial)) (Wv.refl _)
    ·injection h with h; subst h
     exact fun_ok pm pn Try.func3 (r0 := vb false) (ans := [.reg (.n :: .n :: []), .reg (.call (vb r4478) :: .n :: []), .br false, .reg (.n :: .n :: .call (vb r4481) :: .n :: []), .br false, .reg (arS4_1 r4485 r4488 r4491), .reg (arS4_2 r4485 r4488 r4499), .reg (.n :: .n :: .call (vi r4503) :: .n :: []), .reg (arS4_3 r4485 r4508 r4511 r4488 r4521), .br true, .reg (.n :: [])]) (fr := true) (by kernel_rfl) (an (an (ti (ti trivial)) (an (an (an (nawake_ok k _ h4479) (ti trivial)) (an (not_f h4480) trivial)) (an (an (ti (ti (an e4483 (ti trivial)))) (an (not_f h4484) trivial)) (an e4494 (an e4502 (an (ti (ti (an e4505 (ti trivial)))) (an e4526 (an (not_t (decide_eq_false h4527)) (an (ti trivial) trivial))))))))) (ti trivial)) (Wv.refl _)
   ·have e4582 := (ti (an e4507 (an e4510 (ti (an e4513 (ti (ti (an (not_t (decide_eq_false h4514)) (an (not_t (decide_eq_false h4514)) (an (not_t (decide_eq_false h4514)) (an (not_t (decide_eq_false h4514)) (an (not_t (decide_eq_false h4514)) (an (not_t (decide_eq_false h4514)) (an (not_t (decide_eq_false h4514)) (an (not_t (decide_eq_false h4514)) trivial)))))))))))))))
    injection h with h; subst h
    exact fun_ok pm pn Try.func3 (r0 := vb false) (ans := [.reg (.n :: .n :: []), .reg (.call (vb r4478) :: .n :: []), .br false, .reg (.n :: .n :: .call (vb r4481) :: .n :: []), .br false, .reg (arS4_1 r4485 r4488 r4491), .reg (arS4_2 r4485 r4488 r4499), .reg (.n :: .n :: .call (vi r4503) :: .n :: []), .reg (arS4_8 r4485 r4508 r4511), .br true, .reg (.n :: [])]) (fr := true) (by kernel_rfl) (an (an (ti (ti trivial)) (an (an (an (nawake_ok k _ h4479) (ti trivial)) (an (not_f h4480) trivial)) (an (an (ti (ti (an e4483 (ti trivial)))) (an (not_f h4484) trivial)) (an e4494 (an e4502 (an (ti (ti (an e4505 (ti trivial)))) (an e4582 (an rt (an (ti trivial) trivial))))))))) (ti trivial)) (Wv.refl _)
  ·injection h with h; subst h
   exact fun_ok pm pn Try.func3 (r0 := vb true) (ans := [.reg (.n :: .n :: []), .reg (.call (vb r4478) :: .n :: []), .br false, .reg (.n :: .n :: .call (vb r4481) :: .n :: []), .br true, .reg (.n :: [])]) (fr := true) (by kernel_rfl) (an (an (ti (ti trivial)) (an (an (an (nawake_ok k _ h4479) (ti trivial)) (an (not_f h4480) trivial)) (an (ti (ti (an e4483 (ti trivial)))) (an (not_t (bool_f h4484)) (an (ti trivial) trivial))))) (ti trivial)) (Wv.refl _)
 ·injection h with h; subst h
  exact fun_ok pm pn Try.func3 (r0 := vb false) (ans := [.reg (.n :: .n :: []), .reg (.call (vb r4478) :: .n :: []), .br true, .reg (.n :: [])]) (fr := true) (by kernel_rfl) (an (an (ti (ti trivial)) (an (an (nawake_ok k _ h4479) (ti trivial)) (an (not_t (bool_f h4480)) (an (ti trivial) trivial)))) (ti trivial)) (Wv.refl _)
end Go.Proofs.Ytodiglefoobjkaa.Vg

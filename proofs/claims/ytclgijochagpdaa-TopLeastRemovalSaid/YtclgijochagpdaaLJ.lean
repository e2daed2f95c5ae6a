import Derived.Test.YtclgijochagpdaaLG
namespace Go.Proofs.Ytclgijochagpdaa.Vg
set_option maxRecDepth 100000
set_option maxHeartbeats 4000000
set_option linter.unusedVariables false
set_option linter.unusedSimpArgs false
open Go Go.Proofs.Ytclgijochagpdaa.Ev Go.Proofs.Ytclgijochagpdaa.Vv
open List (flatMap length_cons length_nil length_map length_append map_cons map_nil length_replicate)
structure SFigureTolerance where
 Peak : Int
 Slope : Int
 deriving Inhabited
def c_SFigureTolerance (x : SFigureTolerance) : List VV := [vi x.Peak, vi x.Slope]
theorem unfr_c_SFigureTolerance (xs : List SFigureTolerance) : (xs.flatMap c_SFigureTolerance).map unfr = xs.flatMap c_SFigureTolerance := unfr_flat (fun _ => rfl) xs
theorem ag39 : isAggT Try.prog 39 = some true := by kernel_rfl
theorem sz39 : szOf Try.prog 39 = some 2 := by kernel_rfl
theorem eqok43 : EqOK Try.prog 43 [some (.i .i64), some (.i .i64)] := eqOK_of (by kernel_rfl) (by kernel_rfl) (eqT_array (len := 2) Try.underlying43 (by kernel_rfl) (by kernel_rfl) (eqT_int Try.underlying3 (by kernel_rfl) (by kernel_rfl)))
theorem eqLJ_0  : [vi 2, VV.tr (flatMap c_SHeightReading ([(⟨0, 1, (⟨5, 7⟩ : SRange)⟩ : SHeightReading)] : List SHeightReading)) (([(⟨0, 1, (⟨5, 7⟩ : SRange)⟩ : SHeightReading)] : List SHeightReading).length)] = [vi 2, VV.tr [vi 0, vi 1, vi 5, vi 7] 1] := by first | rfl | (simp only [unfr_vi, map_cons, map_nil, un_i, un_tr, length_cons, length_nil, unfr_c_SHeightReading]; done) | (simp only [unfr_vi, map_cons, map_nil, un_i, un_tr, length_cons, length_nil, unfr_c_SHeightReading]; rfl) | (simp only [unfr_vi, map_cons, map_nil, un_i, un_tr, length_cons, length_nil, unfr_c_SHeightReading, c_SHeightReading, length_cons, length_nil, length_append]; done)
theorem eqLJ_2 (z0 : (List SRange)) (z1 : Int) : [VV.tr (List.map vi ([(z0.getD z1.toNat default).Lo, (z0.getD z1.toNat default).Hi] : List Int)) (([(z0.getD z1.toNat default).Lo, (z0.getD z1.toNat default).Hi] : List Int).length)] = [VV.tr [vi ((z0.getD z1.toNat default).Lo), vi ((z0.getD z1.toNat default).Hi)] 2] := by first | rfl | (simp only [unfr_vi, map_cons, map_nil, un_i, un_tr, length_map, length_cons, length_nil]; done) | (simp only [unfr_vi, map_cons, map_nil, un_i, un_tr, length_map, length_cons, length_nil]; rfl) | (simp only [unfr_vi, map_cons, map_nil, un_i, un_tr, length_map, length_cons, length_nil, length_cons, length_nil, length_append]; done)
def nfigure_CheckEnclosure_l0_0_h (a0 : (List SRange)) (x11 : Int) : VS := ⟨mkA [(9, VV.tr (flatMap c_SRange a0) a0.length), (10, vi (a0.length : Int)), (11, vi x11)], [], .nil⟩
def nfigure_CheckEnclosure_l0_0_e0 (a0 : (List SRange)) (r : Int) : VS := ⟨mkA [(2, vi r)], [], .nil⟩
def nfigure_CheckEnclosure_l0_0_e1 (a0 : (List SRange)) (r : Unit) : VS := ⟨mkA [], [], .nil⟩
def nfigure_CheckEnclosure_l0_0 (k : Nat) (a0 : (List SRange)) : Nat -> Int -> Option (Sum Int Unit)
 | 0, _ => none
 | fuel + 1, x11 => if x11 < (a0.length : Int) then (if 0 <= x11 /\ x11 < (a0.length : Int) then ((nfigure_areHeights k ([(a0.getD x11.toNat default).Lo, (a0.getD x11.toNat default).Hi] : List Int)).bind fun r3364 => (if r3364 = true then (if ((a0.getD x11.toNat default).Hi) < ((a0.getD x11.toNat default).Lo) then (some (.inl 9)) else (nfigure_CheckEnclosure_l0_0 k a0 fuel (w64 (x11 + 1)))) else (some (.inl 2)))) else none) else (some (.inr ()))
theorem nfigure_CheckEnclosure_l0_0_ok (k : Nat) (a0 : (List SRange)) : ∀ (fuel : Nat) (x11 : Int) (r : Sum Int Unit), nfigure_CheckEnclosure_l0_0 k a0 fuel x11 = some r -> (match r with | .inl r => VLoop none Try.prog (szF Try.f46) (bodyOf Try.f46 0) (nfigure_CheckEnclosure_l0_0_h a0 x11) .ret (nfigure_CheckEnclosure_l0_0_e0 a0 r) | .inr r => VLoop none Try.prog (szF Try.f46) (bodyOf Try.f46 0) (nfigure_CheckEnclosure_l0_0_h a0 x11) (.exit 0) (nfigure_CheckEnclosure_l0_0_e1 a0 r)) := by
 intro fuel
 induction fuel with
 | zero => intro x11 r h; rw [nfigure_CheckEnclosure_l0_0.eq_1] at h; cases h
 | succ fuel ih =>
  intro x11 r h
  rw [nfigure_CheckEnclosure_l0_0.eq_2] at h
  rcases ifs h with ⟨h3361, h⟩ | ⟨h3361, h⟩
  ·obtain ⟨h3362, h⟩ := ifn h
   have e3363 := (show loadL Try.prog 39 (x11.toNat * 2) (flatMap c_SRange a0) = some (VV.ag (c_SRange (a0.getD x11.toNat default))) from ld_whole ag39 c_SRange 2 sz39 len_c_SRange a0 default h3362 (by omega))
   obtain ⟨r3364, h3365, h⟩ := bs h
   have e3366 := (VC.args (nfigure_areHeights_ok k ([(a0.getD x11.toNat default).Lo, (a0.getD x11.toNat default).Hi] : List Int) _ h3365) (eqLJ_2 a0 x11))
   rcases ifs h with ⟨h3367, h⟩ | ⟨h3367, h⟩
   ·rcases ifs h with ⟨h3368, h⟩ | ⟨h3368, h⟩
    ·injection h with h; subst h
     exact round_stop (c := ⟨[(2, none)], [], []⟩) (s1 := (nfigure_CheckEnclosure_l0_0_e0 a0 9)) pm pn (ans := [.reg (.n :: []), .br true, .reg (.n :: .v (VV.ag (c_SRange (a0.getD x11.toNat default))) :: .n :: .n :: []), .reg (nN 4 (.v VV.any :: .call (vb r3364) :: .n :: [])), .br false, .reg (nN 5 []), .br true, .reg (.n :: [])]) (by kernel_rfl) (by intro e; cases e) (an (an (ti trivial) (an (an (decide_eq_true h3361) trivial) (an (an h3362 (an e3363 (ti (ti trivial)))) (an (an (ti (ti (ti (ti (ti (an e3366 (ti trivial))))))) (an (not_f h3367) trivial)) (an (ti (ti (ti (ti (ti trivial))))) (an (decide_eq_true h3368) (an (ti trivial) trivial))))))) (ti trivial))
    ·have h2 := ih _ _ h
     obtain ⟨q, hv, hq⟩ := pkR (rd := none) (P := Try.prog) (fn := Try.f46) (k := 0) (s := (nfigure_CheckEnclosure_l0_0_h a0 x11)) (ans := [.reg (.n :: []), .br true, .reg (.n :: .v (VV.ag (c_SRange (a0.getD x11.toNat default))) :: .n :: .n :: []), .reg (nN 4 (.v VV.any :: .call (vb r3364) :: .n :: [])), .br false, .reg (nN 5 []), .br false, .reg (.n :: .n :: [])]) (c := ⟨[(9, none), (10, none), (11, none)], [], []⟩) (e := .normal) (s1 := (nfigure_CheckEnclosure_l0_0_h a0 (w64 (x11 + 1)))) (an (an (ti trivial) (an (an (decide_eq_true h3361) trivial) (an (an (an h3362 (an e3363 (ti (ti trivial)))) (an (an (ti (ti (ti (ti (ti (an e3366 (ti trivial))))))) (an (not_f h3367) trivial)) (an (ti (ti (ti (ti (ti trivial))))) (an (decide_eq_false h3368) trivial)))) (ti (ti trivial))))) (ti trivial)) (by kernel_rfl)
     cases r with
     | inl r => exact round_next pm pn hv hq h2
     | inr r =>
      exact round_next pm pn hv hq h2
   ·injection h with h; subst h
    exact round_stop (c := ⟨[(2, none)], [], []⟩) (s1 := (nfigure_CheckEnclosure_l0_0_e0 a0 2)) pm pn (ans := [.reg (.n :: []), .br true, .reg (.n :: .v (VV.ag (c_SRange (a0.getD x11.toNat default))) :: .n :: .n :: []), .reg (nN 4 (.v VV.any :: .call (vb r3364) :: .n :: [])), .br true, .reg (.n :: [])]) (by kernel_rfl) (by intro e; cases e) (an (an (ti trivial) (an (an (decide_eq_true h3361) trivial) (an (an h3362 (an e3363 (ti (ti trivial)))) (an (ti (ti (ti (ti (ti (an e3366 (ti trivial))))))) (an (not_t (bool_f h3367)) (an (ti trivial) trivial)))))) (ti trivial))
  ·injection h with h; subst h
   exact round_stop (c := ⟨[], [], []⟩) (s1 := (nfigure_CheckEnclosure_l0_0_e1 a0 ())) pm pn (ans := [.reg (.n :: []), .br false]) (by kernel_rfl) (by intro e; cases e) (an (an (ti trivial) (an (decide_eq_false h3361) trivial)) (ti trivial))
def nfigure_CheckEnclosure (k : Nat) (a0 : (List SRange)) : Option Int :=
 (nfigure_isWithin k (a0.length : Int) 1 40).bind fun r3341 => (if r3341 = true then ((nfigure_CheckEnclosure_l0_0 k a0 k 0).bind fun r3370 => (match r3370 with | .inl r3371 => (some r3371) | .inr r3372 => (some 0))) else (some 10))
theorem nfigure_CheckEnclosure_ok (k : Nat) (a0 : (List SRange)) (r : Int) (h : nfigure_CheckEnclosure k a0 = some r) : VC Try.prog 46 [VV.tr (flatMap c_SRange a0) a0.length] (vi r) := by
 unfold nfigure_CheckEnclosure at h
 obtain ⟨r3341, h3342, h⟩ := bs h
 have e3343 := (nfigure_isWithin_ok k (a0.length : Int) 1 40 _ h3342)
 rcases ifs h with ⟨h3344, h⟩ | ⟨h3344, h⟩
 ·obtain ⟨r3370, h3369, h⟩ := bs h
  have hph3369 := nfigure_CheckEnclosure_l0_0_ok k a0 _ _ _ h3369
  cases r3370 with
  | inl r3371 =>
   dsimp only at h
   have e3373 := (an (ti trivial) (VRun.loop hph3369))
   injection h with h; subst h
   exact fun_ok pm pn Try.func46 (r0 := vi r3371) (ans := [.reg (.n :: []), .reg (.n :: .n :: .call (vb r3341) :: .n :: []), .br false, .reg (nN 3 []), .sub ⟨[(9, none), (10, none), (11, none)], [], []⟩ .ret (nfigure_CheckEnclosure_l0_0_e0 a0 r3371)]) (fr := true) (by kernel_rfl) (an (an (ti trivial) (an (an (ti (ti (an e3343 (ti trivial)))) (an (not_f h3344) trivial)) (an (ti (ti (ti trivial))) e3373))) (ti trivial)) (Wv.refl _)
  | inr r3372 =>
   dsimp only at h
   have e3374 := (an (ti trivial) (VRun.loop hph3369))
   injection h with h; subst h
   exact fun_ok pm pn Try.func46 (r0 := vi 0) (ans := [.reg (.n :: []), .reg (.n :: .n :: .call (vb r3341) :: .n :: []), .br false, .reg (nN 3 []), .sub ⟨[(9, none), (10, none), (11, none)], [], []⟩ (.exit 0) (nfigure_CheckEnclosure_l0_0_e1 a0 r3372), .reg (.n :: [])]) (fr := true) (by kernel_rfl) (an (an (ti trivial) (an (an (ti (ti (an e3343 (ti trivial)))) (an (not_f h3344) trivial)) (an (an (ti (ti (ti trivial))) e3374) (an (ti trivial) trivial)))) (ti trivial)) (Wv.refl _)
 ·injection h with h; subst h
  exact fun_ok pm pn Try.func46 (r0 := vi 10) (ans := [.reg (.n :: []), .reg (.n :: .n :: .call (vb r3341) :: .n :: []), .br true, .reg (.n :: [])]) (fr := true) (by kernel_rfl) (an (an (ti trivial) (an (ti (ti (an e3343 (ti trivial)))) (an (not_t (bool_f h3344)) (an (ti trivial) trivial)))) (ti trivial)) (Wv.refl _)
def nfigure_CheckTolerance (k : Nat) (a0 : SFigureTolerance) : Option Int :=
 (nfigure_isWithin k a0.Peak 0 200000).bind fun r3389 => (if r3389 = true then ((nfigure_isWithin k a0.Slope 0 200000).bind fun r3393 => (if r3393 = true then (some 0) else (some 2))) else (some 2))
theorem nfigure_CheckTolerance_ok (k : Nat) (a0 : SFigureTolerance) (r : Int) (h : nfigure_CheckTolerance k a0 = some r) : VC Try.prog 47 [VV.ag (c_SFigureTolerance a0)] (vi r) := by
 unfold nfigure_CheckTolerance at h
 obtain ⟨r3389, h3390, h⟩ := bs h
 have e3391 := (nfigure_isWithin_ok k a0.Peak 0 200000 _ h3390)
 rcases ifs h with ⟨h3392, h⟩ | ⟨h3392, h⟩
 ·obtain ⟨r3393, h3394, h⟩ := bs h
  have e3395 := (an (not_f h3392) (nfigure_isWithin_ok k a0.Slope 0 200000 _ h3394))
  have e3396 := (ti (ti (an e3391 (ti (ti (an (an (not_f h3392) trivial) (an (an (not_f h3392) trivial) (an e3395 (an (an (not_f h3392) trivial) (an (not_f h3392) trivial))))))))))
  rcases ifs h with ⟨h3397, h⟩ | ⟨h3397, h⟩
  ·injection h with h; subst h
   exact fun_ok pm pn Try.func47 (r0 := vi 0) (ans := [.reg (.n :: .n :: []), .reg (.n :: .n :: .call (vb r3389) :: nN 4 (.call (vb r3393) :: .n :: .b false :: [])), .br false, .reg (.n :: [])]) (fr := true) (by kernel_rfl) (an (an (ti (ti trivial)) (an (an e3396 (an (not_f h3397) trivial)) (an (ti trivial) trivial))) (ti trivial)) (Wv.refl _)
  ·injection h with h; subst h
   exact fun_ok pm pn Try.func47 (r0 := vi 2) (ans := [.reg (.n :: .n :: []), .reg (.n :: .n :: .call (vb r3389) :: nN 4 (.call (vb r3393) :: .n :: .b false :: [])), .br true, .reg (.n :: [])]) (fr := true) (by kernel_rfl) (an (an (ti (ti trivial)) (an e3396 (an (not_t (bool_f h3397)) (an (ti trivial) trivial)))) (ti trivial)) (Wv.refl _)
 ·have e3398 := (ti (ti (an e3391 (ti (ti (an (not_t (bool_f h3392)) (an (not_t (bool_f h3392)) (an (not_t (bool_f h3392)) (an (not_t (bool_f h3392)) (an (not_t (bool_f h3392)) trivial))))))))))
  injection h with h; subst h
  exact fun_ok pm pn Try.func47 (r0 := vi 2) (ans := [.reg (.n :: .n :: []), .reg (.n :: .n :: .call (vb r3389) :: .n :: .n :: nS 4 (.b true :: [])), .br true, .reg (.n :: [])]) (fr := true) (by kernel_rfl) (an (an (ti (ti trivial)) (an e3398 (an rt (an (ti trivial) trivial)))) (ti trivial)) (Wv.refl _)
def nfigure_checkAcceptance (k : Nat) (a0 : (List SRange)) (a1 : SFigureTolerance) : Option Int :=
 (nfigure_CheckEnclosure k a0).bind fun r3402 => (if r3402 = 0 then ((nfigure_CheckTolerance k a1).bind fun r3406 => (some r3406)) else (some r3402))
theorem nfigure_checkAcceptance_ok (k : Nat) (a0 : (List SRange)) (a1 : SFigureTolerance) (r : Int) (h : nfigure_checkAcceptance k a0 a1 = some r) : VC Try.prog 28 [VV.tr (flatMap c_SRange a0) a0.length, VV.ag (c_SFigureTolerance a1)] (vi r) := by
 unfold nfigure_checkAcceptance at h
 obtain ⟨r3402, h3403, h⟩ := bs h
 have e3404 := (nfigure_CheckEnclosure_ok k a0 _ h3403)
 rcases ifs h with ⟨h3405, h⟩ | ⟨h3405, h⟩
 ·obtain ⟨r3406, h3407, h⟩ := bs h
  have e3408 := (nfigure_CheckTolerance_ok k a1 _ h3407)
  injection h with h; subst h
  exact fun_ok pm pn Try.func28 (r0 := vi r3406) (ans := [.reg (.n :: .n :: []), .reg (.n :: .call (vi r3402) :: .n :: []), .reg (.n :: .n :: []), .br false, .reg (.n :: .call (vi r3406) :: .n :: [])]) (fr := true) (by kernel_rfl) (an (an (ti (ti trivial)) (an (an (ti (an e3404 (ti trivial))) (an (ti (ti trivial)) (an (not_f (decide_eq_true h3405)) trivial))) (an (ti (an e3408 (ti trivial))) trivial))) (ti trivial)) (Wv.refl _)
 ·injection h with h; subst h
  exact fun_ok pm pn Try.func28 (r0 := vi r3402) (ans := [.reg (.n :: .n :: []), .reg (.n :: .call (vi r3402) :: .n :: []), .reg (.n :: .n :: []), .br true, .reg (.n :: .n :: [])]) (fr := true) (by kernel_rfl) (an (an (ti (ti trivial)) (an (ti (an e3404 (ti trivial))) (an (ti (ti trivial)) (an (not_t (decide_eq_false h3405)) (an (ti (ti trivial)) trivial))))) (ti trivial)) (Wv.refl _)
def arLJ_0 (z0 : (List SRange)) (z1 : Int) (z2 : Int) : List Ans := (nN 4 (.v (vi ((z0.getD z1.toNat default).Lo)) :: nN 4 (.v (vi ((z0.getD z2.toNat default).Hi)) :: .n :: .n :: [])))
def nfigure_leastApart (k : Nat) (a0 : (List SRange)) (a1 : Int) (a2 : Int) : Option Int :=
 if 0 <= a1 /\ a1 < (a0.length : Int) then (if 0 <= a2 /\ a2 < (a0.length : Int) then (some (w64 (((a0.getD a1.toNat default).Lo) - ((a0.getD a2.toNat default).Hi)))) else none) else none
theorem nfigure_leastApart_ok (k : Nat) (a0 : (List SRange)) (a1 : Int) (a2 : Int) (r : Int) (h : nfigure_leastApart k a0 a1 a2 = some r) : VC Try.prog 54 [VV.tr (flatMap c_SRange a0) a0.length, vi a1, vi a2] (vi r) := by
 unfold nfigure_leastApart at h
 obtain ⟨h3421, h⟩ := ifn h
 have e3422 := (show loadL Try.prog 3 (a1.toNat * 2 + 0) (flatMap c_SRange a0) = some (vi ((a0.getD a1.toNat default).Lo)) from (ld_flat ag3 c_SRange 2 0 len_c_SRange (by omega) a0 default h3421 (by omega)).trans rfl)
 obtain ⟨h3423, h⟩ := ifn h
 have e3424 := (show loadL Try.prog 3 (a2.toNat * 2 + 1) (flatMap c_SRange a0) = some (vi ((a0.getD a2.toNat default).Hi)) from (ld_flat ag3 c_SRange 2 1 len_c_SRange (by omega) a0 default h3423 (by omega)).trans rfl)
 have e3425 := (ti (ti (an h3421 (ti (an e3422 (ti (ti (an h3423 (ti (an e3424 (ti (ti trivial))))))))))))
 injection h with h; subst h
 exact fun_ok pm pn Try.func54 (r0 := vi (w64 (((a0.getD a1.toNat default).Lo) - ((a0.getD a2.toNat default).Hi)))) (ans := [.reg (.n :: []), .reg (arLJ_0 a0 a1 a2)]) (fr := true) (by kernel_rfl) (an (an (ti trivial) (an e3425 trivial)) (ti trivial)) (Wv.refl _)
def nfigure_size (k : Nat) (a0 : Int) : Option Int :=
 some (maxI a0 (w64 (0 - a0)))
theorem nfigure_size_ok (k : Nat) (a0 : Int) (r : Int) (h : nfigure_size k a0 = some r) : VC Try.prog 55 [vi a0] (vi r) := by
 unfold nfigure_size at h
 injection h with h; subst h
 exact fun_ok pm pn Try.func55 (r0 := vi (maxI a0 (w64 (0 - a0)))) (ans := [.reg (.n :: []), .reg (nN 5 [])]) (fr := true) (by kernel_rfl) (an (an (ti trivial) (an (ti (ti (ti (ti (ti trivial))))) trivial)) (ti trivial)) (Wv.refl _)
def nfigure_bound (k : Nat) (a0 : SFigureTolerance) (a1 : Int) (a2 : Int) : Option Int :=
 (nfigure_size k (w64 (a1 - a2))).bind fun r3433 => (some (minI a0.Peak (w64 (a0.Slope * r3433))))
theorem nfigure_bound_ok (k : Nat) (a0 : SFigureTolerance) (a1 : Int) (a2 : Int) (r : Int) (h : nfigure_bound k a0 a1 a2 = some r) : VC Try.prog 50 [VV.ag (c_SFigureTolerance a0), vi a1, vi a2] (vi r) := by
 unfold nfigure_bound at h
 obtain ⟨r3433, h3434, h⟩ := bs h
 have e3435 := (nfigure_size_ok k (w64 (a1 - a2)) _ h3434)
 have e3436 := (ti (ti (ti (ti (ti (ti (ti (an e3435 (ti (ti (ti trivial)))))))))))
 injection h with h; subst h
 exact fun_ok pm pn Try.func50 (r0 := vi (minI a0.Peak (w64 (a0.Slope * r3433)))) (ans := [.reg (.n :: .n :: []), .reg (nN 7 (.call (vi r3433) :: nN 3 []))]) (fr := true) (by kernel_rfl) (an (an (ti (ti trivial)) (an e3436 trivial)) (ti trivial)) (Wv.refl _)
def nfigure_refuses (k : Nat) (a0 : (List SRange)) (a1 : SFigureTolerance) (a2 : Int) (a3 : Int) : Option Bool :=
 (nfigure_leastApart k a0 a2 a3).bind fun r3440 => ((nfigure_bound k a1 a2 a3).bind fun r3443 => (some (decide (r3443 < r3440))))
theorem nfigure_refuses_ok (k : Nat) (a0 : (List SRange)) (a1 : SFigureTolerance) (a2 : Int) (a3 : Int) (r : Bool) (h : nfigure_refuses k a0 a1 a2 a3 = some r) : VC Try.prog 48 [VV.tr (flatMap c_SRange a0) a0.length, VV.ag (c_SFigureTolerance a1), vi a2, vi a3] (vb r) := by
 unfold nfigure_refuses at h
 obtain ⟨r3440, h3441, h⟩ := bs h
 have e3442 := (nfigure_leastApart_ok k a0 a2 a3 _ h3441)
 obtain ⟨r3443, h3444, h⟩ := bs h
 have e3445 := (ti (ti (ti (an e3442 (ti (ti (ti (an (nfigure_bound_ok k a1 a2 a3 _ h3444) (ti (ti trivial))))))))))
 injection h with h; subst h
 exact fun_ok pm pn Try.func48 (r0 := vb (decide (r3443 < r3440))) (ans := [.reg (.n :: .n :: []), .reg (nN 3 (.call (vi r3440) :: nN 3 (.call (vi r3443) :: .n :: .n :: [])))]) (fr := true) (by kernel_rfl) (an (an (ti (ti trivial)) (an e3445 trivial)) (ti trivial)) (Wv.refl _)
def arLJ_1 (z0 : (List SRange)) (z1 : Int) (z2 : Int) : List Ans := (nN 4 (.v (vi ((z0.getD z1.toNat default).Hi)) :: nN 4 (.v (vi ((z0.getD z2.toNat default).Lo)) :: .n :: .n :: [])))
def nfigure_mostApart (k : Nat) (a0 : (List SRange)) (a1 : Int) (a2 : Int) : Option Int :=
 if 0 <= a1 /\ a1 < (a0.length : Int) then (if 0 <= a2 /\ a2 < (a0.length : Int) then (some (w64 (((a0.getD a1.toNat default).Hi) - ((a0.getD a2.toNat default).Lo)))) else none) else none
theorem nfigure_mostApart_ok (k : Nat) (a0 : (List SRange)) (a1 : Int) (a2 : Int) (r : Int) (h : nfigure_mostApart k a0 a1 a2 = some r) : VC Try.prog 49 [VV.tr (flatMap c_SRange a0) a0.length, vi a1, vi a2] (vi r) := by
 unfold nfigure_mostApart at h
 obtain ⟨h3455, h⟩ := ifn h
 have e3456 := (show loadL Try.prog 3 (a1.toNat * 2 + 1) (flatMap c_SRange a0) = some (vi ((a0.getD a1.toNat default).Hi)) from (ld_flat ag3 c_SRange 2 1 len_c_SRange (by omega) a0 default h3455 (by omega)).trans rfl)
 obtain ⟨h3457, h⟩ := ifn h
 have e3458 := (show loadL Try.prog 3 (a2.toNat * 2 + 0) (flatMap c_SRange a0) = some (vi ((a0.getD a2.toNat default).Lo)) from (ld_flat ag3 c_SRange 2 0 len_c_SRange (by omega) a0 default h3457 (by omega)).trans rfl)
 have e3459 := (ti (ti (an h3455 (ti (an e3456 (ti (ti (an h3457 (ti (an e3458 (ti (ti trivial))))))))))))
 injection h with h; subst h
 exact fun_ok pm pn Try.func49 (r0 := vi (w64 (((a0.getD a1.toNat default).Hi) - ((a0.getD a2.toNat default).Lo)))) (ans := [.reg (.n :: []), .reg (arLJ_1 a0 a1 a2)]) (fr := true) (by kernel_rfl) (an (an (ti trivial) (an e3459 trivial)) (ti trivial)) (Wv.refl _)
def nfigure_judge_r0 (k : Nat) (a0 : (List SRange)) (a1 : SFigureTolerance) (r3496 : Int) : List (Int × Int) -> Int -> Int -> Int -> Int -> Option (Sum (Int × Int × Int × Int) (Int × Int × Int × Int))
 | [], b2_0, b3_0, b3_1, b4_0 => some (.inl (b2_0, b3_0, b3_1, b4_0))
 | x :: xs, b2_0, b3_0, b3_1, b4_0 => (nfigure_refuses k a0 a1 x.1 x.2).bind fun r3521 => (if r3521 = true then (some (.inr ((-1), x.1, x.2, b4_0))) else ((nfigure_mostApart k a0 x.1 x.2).bind fun r3525 => ((nfigure_bound k a1 x.1 x.2).bind fun r3528 => (if r3528 < r3525 then (nfigure_judge_r0 k a0 a1 r3496 xs b2_0 b3_0 b3_1 0) else (nfigure_judge_r0 k a0 a1 r3496 xs b2_0 b3_0 b3_1 b4_0)))))
theorem nfigure_judge_r0_ok (k : Nat) (a0 : (List SRange)) (a1 : SFigureTolerance) (r3496 : Int) : ∀ (xs : List (Int × Int)) (b2_0 : Int) (b3_0 : Int) (b3_1 : Int) (b4_0 : Int) (r : Sum (Int × Int × Int × Int) (Int × Int × Int × Int)), nfigure_judge_r0 k a0 a1 r3496 xs b2_0 b3_0 b3_1 b4_0 = some r -> (match r with | .inl r => VRange Try.prog (szF Try.f29) (.tmp 11) [12, 13] (rAssign Try.f29 0) (rBody Try.f29 0) (xs.map encP) ⟨mkA [(2, VV.pt 0 0), (3, VV.pt 1 0), (4, VV.pt 2 0), (5, VV.pt 3 0), (6, VV.pt 4 0), (11, VV.fn 53 [VV.tp [vi r3496] 0])], [some ⟨true, 1, [VV.tr (flatMap c_SRange a0) a0.length]⟩, some ⟨true, 1, c_SFigureTolerance a1⟩, some ⟨true, 1, [vi b2_0]⟩, some ⟨true, 1, [vi b3_0, vi b3_1]⟩, some ⟨true, 1, [vi b4_0]⟩], .nil⟩ .normal ⟨mkA [(2, VV.pt 0 0), (3, VV.pt 1 0), (4, VV.pt 2 0), (5, VV.pt 3 0), (6, VV.pt 4 0), (11, VV.fn 53 [VV.tp [vi r3496] 0])], [some ⟨true, 1, [VV.tr (flatMap c_SRange a0) a0.length]⟩, some ⟨true, 1, c_SFigureTolerance a1⟩, some ⟨true, 1, [vi r.1]⟩, some ⟨true, 1, [vi r.2.1, vi r.2.2.1]⟩, some ⟨true, 1, [vi r.2.2.2]⟩], .nil⟩ | .inr r => VRange Try.prog (szF Try.f29) (.tmp 11) [12, 13] (rAssign Try.f29 0) (rBody Try.f29 0) (xs.map encP) ⟨mkA [(2, VV.pt 0 0), (3, VV.pt 1 0), (4, VV.pt 2 0), (5, VV.pt 3 0), (6, VV.pt 4 0), (11, VV.fn 53 [VV.tp [vi r3496] 0])], [some ⟨true, 1, [VV.tr (flatMap c_SRange a0) a0.length]⟩, some ⟨true, 1, c_SFigureTolerance a1⟩, some ⟨true, 1, [vi b2_0]⟩, some ⟨true, 1, [vi b3_0, vi b3_1]⟩, some ⟨true, 1, [vi b4_0]⟩], .nil⟩ .ret ⟨mkA [(2, VV.pt 0 0), (3, VV.pt 1 0), (4, VV.pt 2 0), (5, VV.pt 3 0), (6, VV.pt 4 0), (11, VV.fn 53 [VV.tp [vi r3496] 0])], [some ⟨true, 1, [VV.tr (flatMap c_SRange a0) a0.length]⟩, some ⟨true, 1, c_SFigureTolerance a1⟩, some ⟨true, 1, [vi r.1]⟩, some ⟨true, 1, [vi r.2.1, vi r.2.2.1]⟩, some ⟨true, 1, [vi r.2.2.2]⟩], .nil⟩) := by
 intro xs
 induction xs with
 | nil => intro b2_0 b3_0 b3_1 b4_0 r h; rw [nfigure_judge_r0.eq_1] at h; injection h with h; subst h; exact .nil
 | cons x xs ih =>
  intro b2_0 b3_0 b3_1 b4_0 r h
  rw [nfigure_judge_r0.eq_2] at h
  obtain ⟨r3521, h3522, h⟩ := bs h
  have e3523 := (nfigure_refuses_ok k a0 a1 x.1 x.2 _ h3522)
  rcases ifs h with ⟨h3524, h⟩ | ⟨h3524, h⟩
  ·injection h with h; subst h
   have hr := rd_all (P := Try.prog) (sz := szF Try.f29) (assign := rAssign Try.f29 0) (body := rBody Try.f29 0) (s := (⟨mkA [(2, VV.pt 0 0), (3, VV.pt 1 0), (4, VV.pt 2 0), (5, VV.pt 3 0), (6, VV.pt 4 0), (11, VV.fn 53 [VV.tp [vi r3496] 0])], [some ⟨true, 1, [VV.tr (flatMap c_SRange a0) a0.length]⟩, some ⟨true, 1, c_SFigureTolerance a1⟩, some ⟨true, 1, [vi b2_0]⟩, some ⟨true, 1, [vi b3_0, vi b3_1]⟩, some ⟨true, 1, [vi b4_0]⟩], .nil⟩ : VS)) (ps := [12, 13]) (x := (encP x)) (sa := (stOf Try.prog (szF Try.f29) (rAssign Try.f29 0) [.reg (.n :: []), .reg (.n :: [])] (VS.enter (⟨mkA [(2, VV.pt 0 0), (3, VV.pt 1 0), (4, VV.pt 2 0), (5, VV.pt 3 0), (6, VV.pt 4 0), (11, VV.fn 53 [VV.tp [vi r3496] 0])], [some ⟨true, 1, [VV.tr (flatMap c_SRange a0) a0.length]⟩, some ⟨true, 1, c_SFigureTolerance a1⟩, some ⟨true, 1, [vi b2_0]⟩, some ⟨true, 1, [vi b3_0, vi b3_1]⟩, some ⟨true, 1, [vi b4_0]⟩], .nil⟩ : VS) [12, 13] (encP x)))) (s1 := stOf Try.prog (szF Try.f29) (rBody Try.f29 0) [.reg (nN 4 (.call (vb r3521) :: [])), .br true, .reg (nN 5 [])] (stOf Try.prog (szF Try.f29) (rAssign Try.f29 0) [.reg (.n :: []), .reg (.n :: [])] (VS.enter (⟨mkA [(2, VV.pt 0 0), (3, VV.pt 1 0), (4, VV.pt 2 0), (5, VV.pt 3 0), (6, VV.pt 4 0), (11, VV.fn 53 [VV.tp [vi r3496] 0])], [some ⟨true, 1, [VV.tr (flatMap c_SRange a0) a0.length]⟩, some ⟨true, 1, c_SFigureTolerance a1⟩, some ⟨true, 1, [vi b2_0]⟩, some ⟨true, 1, [vi b3_0, vi b3_1]⟩, some ⟨true, 1, [vi b4_0]⟩], .nil⟩ : VS) [12, 13] (encP x)))) (s2 := ⟨.nil, [some ⟨true, 1, [VV.tr (flatMap c_SRange a0) a0.length]⟩, some ⟨true, 1, c_SFigureTolerance a1⟩, some ⟨true, 1, [vi (-1)]⟩, some ⟨true, 1, [vi x.1, vi x.2]⟩, some ⟨true, 1, [vi b4_0]⟩], (mkA [(2, VV.pt 0 0), (3, VV.pt 1 0), (4, VV.pt 2 0), (5, VV.pt 3 0), (6, VV.pt 4 0), (11, VV.fn 53 [VV.tp [vi r3496] 0])])⟩) (a1 := [.reg (.n :: []), .reg (.n :: [])]) (a2 := [.reg (nN 4 (.call (vb r3521) :: [])), .br true, .reg (nN 5 [])]) (c := ⟨[], [none, none, none, none, none], []⟩) (e := .ret) (q1 := (((True) /\ True) /\ ((True) /\ True))) (q2 := fun l => (((True) /\ (True) /\ (True) /\ (True) /\ (VC Try.prog 48 [VV.tr (flatMap c_SRange a0) a0.length, VV.ag (c_SFigureTolerance a1), vi x.1, vi x.2] (vb r3521)) /\ True) /\ ((r3521 = true) /\ (((True) /\ (True) /\ (True) /\ (True) /\ (True) /\ True) /\ (True))))) (p := ((True) /\ ((True)))) pm pn (fun l => by kernel_rfl) (an (ti trivial) (ti trivial)) (fun l => by kernel_rfl) (fun l => (an (ti (ti (ti (ti (an e3523 trivial))))) (an h3524 (an (ti (ti (ti (ti (ti trivial))))) trivial)))) (by kernel_rfl) ⟨trivial, trivial⟩
   exact VRange.ret (by kernel_rfl) rfl hr.1 hr.2
  ·obtain ⟨r3525, h3526, h⟩ := bs h
   have e3527 := (nfigure_mostApart_ok k a0 x.1 x.2 _ h3526)
   obtain ⟨r3528, h3529, h⟩ := bs h
   have e3530 := (ti (ti (ti (an e3527 (ti (ti (ti (an (nfigure_bound_ok k a1 x.1 x.2 _ h3529) (ti trivial)))))))))
   rcases ifs h with ⟨h3531, h⟩ | ⟨h3531, h⟩
   ·have h2 := ih _ _ _ _ _ h
    have hr := rd_all (P := Try.prog) (sz := szF Try.f29) (assign := rAssign Try.f29 0) (body := rBody Try.f29 0) (s := (⟨mkA [(2, VV.pt 0 0), (3, VV.pt 1 0), (4, VV.pt 2 0), (5, VV.pt 3 0), (6, VV.pt 4 0), (11, VV.fn 53 [VV.tp [vi r3496] 0])], [some ⟨true, 1, [VV.tr (flatMap c_SRange a0) a0.length]⟩, some ⟨true, 1, c_SFigureTolerance a1⟩, some ⟨true, 1, [vi b2_0]⟩, some ⟨true, 1, [vi b3_0, vi b3_1]⟩, some ⟨true, 1, [vi b4_0]⟩], .nil⟩ : VS)) (ps := [12, 13]) (x := (encP x)) (sa := (stOf Try.prog (szF Try.f29) (rAssign Try.f29 0) [.reg (.n :: []), .reg (.n :: [])] (VS.enter (⟨mkA [(2, VV.pt 0 0), (3, VV.pt 1 0), (4, VV.pt 2 0), (5, VV.pt 3 0), (6, VV.pt 4 0), (11, VV.fn 53 [VV.tp [vi r3496] 0])], [some ⟨true, 1, [VV.tr (flatMap c_SRange a0) a0.length]⟩, some ⟨true, 1, c_SFigureTolerance a1⟩, some ⟨true, 1, [vi b2_0]⟩, some ⟨true, 1, [vi b3_0, vi b3_1]⟩, some ⟨true, 1, [vi b4_0]⟩], .nil⟩ : VS) [12, 13] (encP x)))) (s1 := stOf Try.prog (szF Try.f29) (rBody Try.f29 0) [.reg (nN 4 (.call (vb r3521) :: [])), .br false, .reg (nN 3 (.call (vi r3525) :: nN 3 (.call (vi r3528) :: .n :: []))), .br true, .reg (.n :: [])] (stOf Try.prog (szF Try.f29) (rAssign Try.f29 0) [.reg (.n :: []), .reg (.n :: [])] (VS.enter (⟨mkA [(2, VV.pt 0 0), (3, VV.pt 1 0), (4, VV.pt 2 0), (5, VV.pt 3 0), (6, VV.pt 4 0), (11, VV.fn 53 [VV.tp [vi r3496] 0])], [some ⟨true, 1, [VV.tr (flatMap c_SRange a0) a0.length]⟩, some ⟨true, 1, c_SFigureTolerance a1⟩, some ⟨true, 1, [vi b2_0]⟩, some ⟨true, 1, [vi b3_0, vi b3_1]⟩, some ⟨true, 1, [vi b4_0]⟩], .nil⟩ : VS) [12, 13] (encP x)))) (s2 := ⟨.nil, [some ⟨true, 1, [VV.tr (flatMap c_SRange a0) a0.length]⟩, some ⟨true, 1, c_SFigureTolerance a1⟩, some ⟨true, 1, [vi b2_0]⟩, some ⟨true, 1, [vi b3_0, vi b3_1]⟩, some ⟨true, 1, [vi 0]⟩], (mkA [(2, VV.pt 0 0), (3, VV.pt 1 0), (4, VV.pt 2 0), (5, VV.pt 3 0), (6, VV.pt 4 0), (11, VV.fn 53 [VV.tp [vi r3496] 0])])⟩) (a1 := [.reg (.n :: []), .reg (.n :: [])]) (a2 := [.reg (nN 4 (.call (vb r3521) :: [])), .br false, .reg (nN 3 (.call (vi r3525) :: nN 3 (.call (vi r3528) :: .n :: []))), .br true, .reg (.n :: [])]) (c := ⟨[], [none, none, none, none, none], []⟩) (e := .normal) (q1 := (((True) /\ True) /\ ((True) /\ True))) (q2 := fun l => ((((True) /\ (True) /\ (True) /\ (True) /\ (VC Try.prog 48 [VV.tr (flatMap c_SRange a0) a0.length, VV.ag (c_SFigureTolerance a1), vi x.1, vi x.2] (vb r3521)) /\ True) /\ ((r3521 = false) /\ (True))) /\ (((True) /\ (True) /\ (True) /\ (VC Try.prog 49 [VV.tr (flatMap c_SRange a0) a0.length, vi x.1, vi x.2] (vi r3525)) /\ (True) /\ (True) /\ (True) /\ (VC Try.prog 50 [VV.ag (c_SFigureTolerance a1), vi x.1, vi x.2] (vi r3528)) /\ (True) /\ True) /\ (((decide (r3528 < r3525)) = true) /\ ((True) /\ True))))) (p := ((True) /\ ((True)))) pm pn (fun l => by kernel_rfl) (an (ti trivial) (ti trivial)) (fun l => by kernel_rfl) (fun l => (an (an (ti (ti (ti (ti (an e3523 trivial))))) (an (bool_f h3524) trivial)) (an e3530 (an (decide_eq_true h3531) (ti trivial))))) (by kernel_rfl) ⟨trivial, trivial⟩
    cases r with
    | inl r =>
     exact VRange.next (by kernel_rfl) rfl hr.1 hr.2 (by kernel_rfl) h2
    | inr r =>
     exact VRange.next (by kernel_rfl) rfl hr.1 hr.2 (by kernel_rfl) h2
   ·have h2 := ih _ _ _ _ _ h
    have hr := rd_all (P := Try.prog) (sz := szF Try.f29) (assign := rAssign Try.f29 0) (body := rBody Try.f29 0) (s := (⟨mkA [(2, VV.pt 0 0), (3, VV.pt 1 0), (4, VV.pt 2 0), (5, VV.pt 3 0), (6, VV.pt 4 0), (11, VV.fn 53 [VV.tp [vi r3496] 0])], [some ⟨true, 1, [VV.tr (flatMap c_SRange a0) a0.length]⟩, some ⟨true, 1, c_SFigureTolerance a1⟩, some ⟨true, 1, [vi b2_0]⟩, some ⟨true, 1, [vi b3_0, vi b3_1]⟩, some ⟨true, 1, [vi b4_0]⟩], .nil⟩ : VS)) (ps := [12, 13]) (x := (encP x)) (sa := (stOf Try.prog (szF Try.f29) (rAssign Try.f29 0) [.reg (.n :: []), .reg (.n :: [])] (VS.enter (⟨mkA [(2, VV.pt 0 0), (3, VV.pt 1 0), (4, VV.pt 2 0), (5, VV.pt 3 0), (6, VV.pt 4 0), (11, VV.fn 53 [VV.tp [vi r3496] 0])], [some ⟨true, 1, [VV.tr (flatMap c_SRange a0) a0.length]⟩, some ⟨true, 1, c_SFigureTolerance a1⟩, some ⟨true, 1, [vi b2_0]⟩, some ⟨true, 1, [vi b3_0, vi b3_1]⟩, some ⟨true, 1, [vi b4_0]⟩], .nil⟩ : VS) [12, 13] (encP x)))) (s1 := stOf Try.prog (szF Try.f29) (rBody Try.f29 0) [.reg (nN 4 (.call (vb r3521) :: [])), .br false, .reg (nN 3 (.call (vi r3525) :: nN 3 (.call (vi r3528) :: .n :: []))), .br false] (stOf Try.prog (szF Try.f29) (rAssign Try.f29 0) [.reg (.n :: []), .reg (.n :: [])] (VS.enter (⟨mkA [(2, VV.pt 0 0), (3, VV.pt 1 0), (4, VV.pt 2 0), (5, VV.pt 3 0), (6, VV.pt 4 0), (11, VV.fn 53 [VV.tp [vi r3496] 0])], [some ⟨true, 1, [VV.tr (flatMap c_SRange a0) a0.length]⟩, some ⟨true, 1, c_SFigureTolerance a1⟩, some ⟨true, 1, [vi b2_0]⟩, some ⟨true, 1, [vi b3_0, vi b3_1]⟩, some ⟨true, 1, [vi b4_0]⟩], .nil⟩ : VS) [12, 13] (encP x)))) (s2 := ⟨.nil, [some ⟨true, 1, [VV.tr (flatMap c_SRange a0) a0.length]⟩, some ⟨true, 1, c_SFigureTolerance a1⟩, some ⟨true, 1, [vi b2_0]⟩, some ⟨true, 1, [vi b3_0, vi b3_1]⟩, some ⟨true, 1, [vi b4_0]⟩], (mkA [(2, VV.pt 0 0), (3, VV.pt 1 0), (4, VV.pt 2 0), (5, VV.pt 3 0), (6, VV.pt 4 0), (11, VV.fn 53 [VV.tp [vi r3496] 0])])⟩) (a1 := [.reg (.n :: []), .reg (.n :: [])]) (a2 := [.reg (nN 4 (.call (vb r3521) :: [])), .br false, .reg (nN 3 (.call (vi r3525) :: nN 3 (.call (vi r3528) :: .n :: []))), .br false]) (c := ⟨[], [none, none, none, none, none], []⟩) (e := .normal) (q1 := (((True) /\ True) /\ ((True) /\ True))) (q2 := fun l => ((((True) /\ (True) /\ (True) /\ (True) /\ (VC Try.prog 48 [VV.tr (flatMap c_SRange a0) a0.length, VV.ag (c_SFigureTolerance a1), vi x.1, vi x.2] (vb r3521)) /\ True) /\ ((r3521 = false) /\ (True))) /\ (((True) /\ (True) /\ (True) /\ (VC Try.prog 49 [VV.tr (flatMap c_SRange a0) a0.length, vi x.1, vi x.2] (vi r3525)) /\ (True) /\ (True) /\ (True) /\ (VC Try.prog 50 [VV.ag (c_SFigureTolerance a1), vi x.1, vi x.2] (vi r3528)) /\ (True) /\ True) /\ (((decide (r3528 < r3525)) = false) /\ (True))))) (p := ((True) /\ ((True)))) pm pn (fun l => by kernel_rfl) (an (ti trivial) (ti trivial)) (fun l => by kernel_rfl) (fun l => (an (an (ti (ti (ti (ti (an e3523 trivial))))) (an (bool_f h3524) trivial)) (an e3530 (an (decide_eq_false h3531) trivial)))) (by kernel_rfl) ⟨trivial, trivial⟩
    cases r with
    | inl r =>
     exact VRange.next (by kernel_rfl) rfl hr.1 hr.2 (by kernel_rfl) h2
    | inr r =>
     exact VRange.next (by kernel_rfl) rfl hr.1 hr.2 (by kernel_rfl) h2
theorem eqLJ_3 (z0 : Int × Int × Int × Int) : VV.tu [vi z0.2.2.2, VV.ag [vi 0, vi 0]] = VV.tu [vi z0.2.2.2, VV.ag (c_A43 (⟨0, 0⟩ : A43))] := by first | rfl | (simp only [unfr_vi, map_cons, map_nil, un_i, unfr_c_A43]; done) | (simp only [unfr_vi, map_cons, map_nil, un_i, unfr_c_A43]; rfl) | (simp only [unfr_vi, map_cons, map_nil, un_i, unfr_c_A43, length_cons, length_nil, length_append]; done)
theorem eqLJ_4 (z0 : Int × Int × Int × Int) : VV.tu [vi z0.1, VV.ag [vi z0.2.1, vi z0.2.2.1]] = VV.tu [vi z0.1, VV.ag (c_A43 (⟨z0.2.1, z0.2.2.1⟩ : A43))] := by first | rfl | (simp only [unfr_vi, map_cons, map_nil, un_i, unfr_c_A43]; done) | (simp only [unfr_vi, map_cons, map_nil, un_i, unfr_c_A43]; rfl) | (simp only [unfr_vi, map_cons, map_nil, un_i, unfr_c_A43, length_cons, length_nil, length_append]; done)
def nfigure_judge (k : Nat) (a0 : (List SRange)) (a1 : SFigureTolerance) : Option (Int × A43) :=
 (nfigure_pairs k (a0.length : Int)).bind fun r3496 => (if r3496 <= 1000000000 then ((nfigure_judge_r0 k a0 a1 r3496 (pairsL r3496) 0 0 0 1).bind fun r3534 => (match r3534 with | .inl r3535 => (some (r3535.2.2.2, (⟨0, 0⟩ : A43))) | .inr r3536 => (some (r3536.1, (⟨r3536.2.1, r3536.2.2.1⟩ : A43))))) else none)
theorem nfigure_judge_ok (k : Nat) (a0 : (List SRange)) (a1 : SFigureTolerance) (r : (Int × A43)) (h : nfigure_judge k a0 a1 = some r) : VC Try.prog 29 [VV.tr (flatMap c_SRange a0) a0.length, VV.ag (c_SFigureTolerance a1)] (VV.tu [vi r.1, VV.ag (c_A43 r.2)]) := by
 unfold nfigure_judge at h
 obtain ⟨r3496, h3497, h⟩ := bs h
 have e3498 := (nfigure_pairs_ok k (a0.length : Int) _ h3497)
 obtain ⟨h3532, h⟩ := ifn h
 obtain ⟨r3534, h3533, h⟩ := bs h
 have hph3533 := nfigure_judge_r0_ok k a0 a1 r3496 _ _ _ _ _ _ h3533
 cases r3534 with
 | inl r3535 =>
  dsimp only at h
  have e3537 : ((((True)) /\ ((True))) /\ VRun none Try.prog (szF Try.f29) (.rangeFunc (.tmp 11) #[12, 13] (rAssign Try.f29 0) (rBody Try.f29 0)) ⟨mkA [(2, VV.pt 0 0), (3, VV.pt 1 0), (4, VV.pt 2 0), (5, VV.pt 3 0), (6, VV.pt 4 0), (11, VV.fn 53 [VV.tp [vi r3496] 0])], [some ⟨true, 1, [VV.tr (flatMap c_SRange a0) a0.length]⟩, some ⟨true, 1, c_SFigureTolerance a1⟩, some ⟨true, 1, [vi 0]⟩, some ⟨true, 1, [vi 0, vi 0]⟩, some ⟨true, 1, [vi 1]⟩], .nil⟩ .normal ⟨mkA [(2, VV.pt 0 0), (3, VV.pt 1 0), (4, VV.pt 2 0), (5, VV.pt 3 0), (6, VV.pt 4 0), (11, VV.fn 53 [VV.tp [vi r3496] 0])], [some ⟨true, 1, [VV.tr (flatMap c_SRange a0) a0.length]⟩, some ⟨true, 1, c_SFigureTolerance a1⟩, some ⟨true, 1, [vi r3535.1]⟩, some ⟨true, 1, [vi r3535.2.1, vi r3535.2.2.1]⟩, some ⟨true, 1, [vi r3535.2.2.2]⟩], .nil⟩) := ⟨⟨trivial, trivial⟩, VRun.range pn rfl (by kernel_rfl) (it_pairs h3532) (by kernel_rfl) (of_decide_eq_true (by kernel_rfl)) (by decide) hph3533⟩
  injection h with h; subst h
  exact fun_ok pm pn Try.func29 (r0 := VV.tu [vi r3535.2.2.2, VV.ag [vi 0, vi 0]]) (ans := [.reg (nN 4 []), .reg (.n :: .n :: []), .reg (.n :: .n :: .call (VV.fn 53 [VV.tp [vi r3496] 0]) :: []), .sub ⟨[(2, none), (3, none), (4, none), (5, none), (6, none), (11, none)], [none, none, none, none, none], []⟩ .normal ⟨mkA [(2, VV.pt 0 0), (3, VV.pt 1 0), (4, VV.pt 2 0), (5, VV.pt 3 0), (6, VV.pt 4 0), (11, VV.fn 53 [VV.tp [vi r3496] 0])], [some ⟨true, 1, [VV.tr (flatMap c_SRange a0) a0.length]⟩, some ⟨true, 1, c_SFigureTolerance a1⟩, some ⟨true, 1, [vi r3535.1]⟩, some ⟨true, 1, [vi r3535.2.1, vi r3535.2.2.1]⟩, some ⟨true, 1, [vi r3535.2.2.2]⟩], .nil⟩, .reg (nN 4 [])]) (fr := true) (by kernel_rfl) (an (an (ti (ti (ti (ti trivial)))) (an (ti (ti trivial)) (an (an (ti (ti (an e3498 trivial))) e3537) (an (ti (ti (ti (ti trivial)))) trivial)))) (an (ti trivial) (an (ti (ti (ti trivial))) trivial))) (Wv.of_eq (eqLJ_3 r3535))
 | inr r3536 =>
  dsimp only at h
  have e3538 : ((((True)) /\ ((True))) /\ VRun none Try.prog (szF Try.f29) (.rangeFunc (.tmp 11) #[12, 13] (rAssign Try.f29 0) (rBody Try.f29 0)) ⟨mkA [(2, VV.pt 0 0), (3, VV.pt 1 0), (4, VV.pt 2 0), (5, VV.pt 3 0), (6, VV.pt 4 0), (11, VV.fn 53 [VV.tp [vi r3496] 0])], [some ⟨true, 1, [VV.tr (flatMap c_SRange a0) a0.length]⟩, some ⟨true, 1, c_SFigureTolerance a1⟩, some ⟨true, 1, [vi 0]⟩, some ⟨true, 1, [vi 0, vi 0]⟩, some ⟨true, 1, [vi 1]⟩], .nil⟩ .ret ⟨mkA [(2, VV.pt 0 0), (3, VV.pt 1 0), (4, VV.pt 2 0), (5, VV.pt 3 0), (6, VV.pt 4 0), (11, VV.fn 53 [VV.tp [vi r3496] 0])], [some ⟨true, 1, [VV.tr (flatMap c_SRange a0) a0.length]⟩, some ⟨true, 1, c_SFigureTolerance a1⟩, some ⟨true, 1, [vi r3536.1]⟩, some ⟨true, 1, [vi r3536.2.1, vi r3536.2.2.1]⟩, some ⟨true, 1, [vi r3536.2.2.2]⟩], .nil⟩) := ⟨⟨trivial, trivial⟩, VRun.range pn rfl (by kernel_rfl) (it_pairs h3532) (by kernel_rfl) (of_decide_eq_true (by kernel_rfl)) (by decide) hph3533⟩
  injection h with h; subst h
  exact fun_ok pm pn Try.func29 (r0 := VV.tu [vi r3536.1, VV.ag [vi r3536.2.1, vi r3536.2.2.1]]) (ans := [.reg (nN 4 []), .reg (.n :: .n :: []), .reg (.n :: .n :: .call (VV.fn 53 [VV.tp [vi r3496] 0]) :: []), .sub ⟨[(2, none), (3, none), (4, none), (5, none), (6, none), (11, none)], [none, none, none, none, none], []⟩ .ret ⟨mkA [(2, VV.pt 0 0), (3, VV.pt 1 0), (4, VV.pt 2 0), (5, VV.pt 3 0), (6, VV.pt 4 0), (11, VV.fn 53 [VV.tp [vi r3496] 0])], [some ⟨true, 1, [VV.tr (flatMap c_SRange a0) a0.length]⟩, some ⟨true, 1, c_SFigureTolerance a1⟩, some ⟨true, 1, [vi r3536.1]⟩, some ⟨true, 1, [vi r3536.2.1, vi r3536.2.2.1]⟩, some ⟨true, 1, [vi r3536.2.2.2]⟩], .nil⟩]) (fr := true) (by kernel_rfl) (an (an (ti (ti (ti (ti trivial)))) (an (ti (ti trivial)) (an (ti (ti (an e3498 trivial))) e3538))) (an (ti trivial) (an (ti (ti (ti trivial))) trivial))) (Wv.of_eq (eqLJ_4 r3536))
theorem eqLJ_5 (z0 : Int) : VV.tu [vi 0, VV.ag [vi 0, vi 0], vi z0] = VV.tu [vi 0, VV.ag (c_A43 (⟨0, 0⟩ : A43)), vi z0] := by first | rfl | (simp only [unfr_vi, map_cons, map_nil, un_i, unfr_c_A43]; done) | (simp only [unfr_vi, map_cons, map_nil, un_i, unfr_c_A43]; rfl) | (simp only [unfr_vi, map_cons, map_nil, un_i, unfr_c_A43, length_cons, length_nil, length_append]; done)
def nfigure_Judge (k : Nat) (a0 : (List SRange)) (a1 : SFigureTolerance) : Option (Int × A43 × Int) :=
 (nfigure_checkAcceptance k a0 a1).bind fun r3542 => (if r3542 = 0 then ((nfigure_judge k a0 a1).bind fun r3546 => (some (r3546.1, r3546.2, 0))) else (some (0, (⟨0, 0⟩ : A43), r3542)))
theorem nfigure_Judge_ok (k : Nat) (a0 : (List SRange)) (a1 : SFigureTolerance) (r : (Int × A43 × Int)) (h : nfigure_Judge k a0 a1 = some r) : VC Try.prog 13 [VV.tr (flatMap c_SRange a0) a0.length, VV.ag (c_SFigureTolerance a1)] (VV.tu [vi r.1, VV.ag (c_A43 r.2.1), vi r.2.2]) := by
 unfold nfigure_Judge at h
 obtain ⟨r3542, h3543, h⟩ := bs h
 have e3544 := (nfigure_checkAcceptance_ok k a0 a1 _ h3543)
 rcases ifs h with ⟨h3545, h⟩ | ⟨h3545, h⟩
 ·obtain ⟨r3546, h3547, h⟩ := bs h
  have e3548 := (ti (ti (an (nfigure_judge_ok k a0 a1 _ h3547) (ti (ti (ti (ti (ti (ti trivial)))))))))
  injection h with h; subst h
  exact fun_ok pm pn Try.func13 (r0 := VV.tu [vi r3546.1, VV.ag (c_A43 r3546.2), vi 0]) (ans := [.reg (nN 4 []), .reg (.n :: .n :: .call (vi r3542) :: .n :: []), .reg (.n :: .n :: []), .br false, .reg (.n :: .n :: .call (VV.tu [vi r3546.1, VV.ag (c_A43 r3546.2)]) :: nN 6 []), .reg (nN 5 [])]) (fr := true) (by kernel_rfl) (an (an (ti (ti (ti (ti trivial)))) (an (an (ti (ti (an e3544 (ti trivial)))) (an (ti (ti trivial)) (an (not_f (decide_eq_true h3545)) trivial))) (an e3548 (an (ti (ti (ti (ti (ti trivial))))) trivial)))) (ti (an (ti (ti (ti trivial))) (ti trivial)))) (Wv.refl _)
 ·injection h with h; subst h
  exact fun_ok pm pn Try.func13 (r0 := VV.tu [vi 0, VV.ag [vi 0, vi 0], vi r3542]) (ans := [.reg (nN 4 []), .reg (.n :: .n :: .call (vi r3542) :: .n :: []), .reg (.n :: .n :: []), .br true, .reg (nN 5 [])]) (fr := true) (by kernel_rfl) (an (an (ti (ti (ti (ti trivial)))) (an (ti (ti (an e3544 (ti trivial)))) (an (ti (ti trivial)) (an (not_t (decide_eq_false h3545)) (an (ti (ti (ti (ti (ti trivial))))) trivial))))) (ti (an (ti (ti (ti trivial))) (ti trivial)))) (Wv.of_eq (eqLJ_5 r3542))
theorem eqLJ_6 (z0 : ((List SRange) × (List Int) × Int)) : [VV.tr (flatMap c_SRange z0.1) z0.1.length, VV.ag (c_SFigureTolerance (⟨7, 7⟩ : SFigureTolerance))] = [VV.tr (flatMap c_SRange z0.1) z0.1.length, VV.ag [vi 7, vi 7]] := by first | rfl | (simp only [unfr_vi, map_cons, map_nil, un_i, un_tr, length_cons, length_nil, unfr_c_SRange, unfr_c_SFigureTolerance]; done) | (simp only [unfr_vi, map_cons, map_nil, un_i, un_tr, length_cons, length_nil, unfr_c_SRange, unfr_c_SFigureTolerance]; rfl) | (simp only [unfr_vi, map_cons, map_nil, un_i, un_tr, length_cons, length_nil, unfr_c_SRange, unfr_c_SFigureTolerance, c_SRange, c_SFigureTolerance, length_cons, length_nil, length_append]; done)
theorem eqLJ_7 (z0 : ((List SRange) × (List Int) × Int)) : [VV.tr (flatMap c_SRange z0.1) z0.1.length, VV.ag (c_SFigureTolerance (⟨4, 9⟩ : SFigureTolerance))] = [VV.tr (flatMap c_SRange z0.1) z0.1.length, VV.ag [vi 4, vi 9]] := by first | rfl | (simp only [unfr_vi, map_cons, map_nil, un_i, un_tr, length_cons, length_nil, unfr_c_SRange, unfr_c_SFigureTolerance]; done) | (simp only [unfr_vi, map_cons, map_nil, un_i, un_tr, length_cons, length_nil, unfr_c_SRange, unfr_c_SFigureTolerance]; rfl) | (simp only [unfr_vi, map_cons, map_nil, un_i, un_tr, length_cons, length_nil, unfr_c_SRange, unfr_c_SFigureTolerance, c_SRange, c_SFigureTolerance, length_cons, length_nil, length_append]; done)
def arLJ_2 (z0 : ((List SRange) × (List Int) × Int)) : List Ans := (.n :: .n :: .v VV.any :: .call (VV.tu [VV.fr (flatMap c_SRange z0.1) z0.1.length, VV.fr (List.map vi z0.2.1) z0.2.1.length, vi z0.2.2]) :: nN 7 [])
def arLJ_3 (z0 : (Int × A43 × Int)) : List Ans := (.n :: .n :: .call (VV.tu [vi z0.1, VV.ag (c_A43 z0.2.1), vi z0.2.2]) :: nN 8 [])
def arLJ_4  : List Ans := (nN 5 (.b true :: nN 3 (.b true :: nN 3 (.b true :: nN 3 (.b true :: nN 4 (.b true :: .n :: []))))))
def arLJ_5  : List Ans := (nN 5 (.b true :: nN 3 (.b true :: nN 3 (.b true :: nN 3 (.b true :: .n :: nS 3 (.b false :: .n :: []))))))
def arLJ_6  : List Ans := (nN 5 (.b true :: nN 3 (.b true :: nN 3 (.b true :: .n :: .skip :: .skip :: .b false :: .n :: nS 3 (.b false :: .n :: [])))))
def arLJ_7  : List Ans := (nN 5 (.b true :: nN 3 (.b true :: .n :: .skip :: .skip :: .b false :: .n :: .skip :: .skip :: .b false :: .n :: nS 3 (.b false :: .n :: []))))
def arLJ_8  : List Ans := (nN 5 (.b true :: .n :: .skip :: .skip :: .b false :: .n :: .skip :: .skip :: .b false :: .n :: .skip :: .skip :: .b false :: .n :: nS 3 (.b false :: .n :: [])))
def arLJ_9  : List Ans := (nN 3 (.skip :: .skip :: .b false :: .n :: .skip :: .skip :: .b false :: .n :: .skip :: .skip :: .b false :: .n :: .skip :: .skip :: .b false :: .n :: nS 3 (.b false :: .n :: [])))
def nspeculumtop_judges (k : Nat)  : Option Bool :=
 (nprofile_Enclosure k 2 ([(⟨0, 1, (⟨5, 7⟩ : SRange)⟩ : SHeightReading)] : List SHeightReading)).bind fun r3569 => ((nfigure_Judge k r3569.1 (⟨7, 7⟩ : SFigureTolerance)).bind fun r3573 => ((nfigure_Judge k r3569.1 (⟨4, 9⟩ : SFigureTolerance)).bind fun r3577 => (if r3569.2.2 = 0 then (if r3573.2.2 = 0 then (if r3577.2.2 = 0 then (if r3573.1 = 1 then (if r3577.1 = (-1) then (some ((r3577.2.1.e0 : Int) == 1 && ((r3577.2.1.e1 : Int) == 0 && true))) else (some false)) else (some false)) else (some false)) else (some false)) else (some false))))
theorem nspeculumtop_judges_ok (k : Nat)  (r : Bool) (h : nspeculumtop_judges k  = some r) : VC Try.prog 4 [] (vb r) := by
 unfold nspeculumtop_judges at h
 obtain ⟨r3569, h3570, h⟩ := bs h
 have e3571 := (VC.args (nprofile_Enclosure_ok k 2 ([(⟨0, 1, (⟨5, 7⟩ : SRange)⟩ : SHeightReading)] : List SHeightReading) _ h3570) eqLJ_0)
 have e3572 := (ti (ti (ti (an e3571 (ti (ti (ti (ti (ti (ti (ti trivial)))))))))))
 obtain ⟨r3573, h3574, h⟩ := bs h
 have e3575 := (VC.args (nfigure_Judge_ok k r3569.1 (⟨7, 7⟩ : SFigureTolerance) _ h3574) (eqLJ_6 r3569))
 have e3576 := (ti (ti (an e3575 (ti (ti (ti (ti (ti (ti (ti (ti trivial)))))))))))
 obtain ⟨r3577, h3578, h⟩ := bs h
 have e3579 := (VC.args (nfigure_Judge_ok k r3569.1 (⟨4, 9⟩ : SFigureTolerance) _ h3578) (eqLJ_7 r3569))
 have e3580 := (ti (ti (an e3579 (ti (ti (ti (ti (ti (ti (ti (ti trivial)))))))))))
 rcases ifs h with ⟨h3581, h⟩ | ⟨h3581, h⟩
 ·rcases ifs h with ⟨h3582, h⟩ | ⟨h3582, h⟩
  ·rcases ifs h with ⟨h3583, h⟩ | ⟨h3583, h⟩
   ·rcases ifs h with ⟨h3584, h⟩ | ⟨h3584, h⟩
    ·rcases ifs h with ⟨h3585, h⟩ | ⟨h3585, h⟩
     ·have e3586 := (an (decide_eq_true h3585) (show List.map kdV [Value.int .i64 r3577.2.1.e0, Value.int .i64 r3577.2.1.e1] = List.map kdV [Value.int .i64 1, Value.int .i64 0] /\ EqOK Try.prog 43 (List.map kdV [Value.int .i64 1, Value.int .i64 0]) from ⟨rfl, eqok43⟩))
      have e3587 := (ti (ti (ti (an (an (decide_eq_true h3581) trivial) (an (an (decide_eq_true h3581) trivial) (an (decide_eq_true h3581) (ti (an (an (decide_eq_true h3582) trivial) (an (an (decide_eq_true h3582) trivial) (an (decide_eq_true h3582) (ti (an (an (decide_eq_true h3583) trivial) (an (an (decide_eq_true h3583) trivial) (an (decide_eq_true h3583) (ti (an (an (decide_eq_true h3584) trivial) (an (an (decide_eq_true h3584) trivial) (an (decide_eq_true h3584) (ti (an (an (decide_eq_true h3585) trivial) (an (an (decide_eq_true h3585) trivial) (an e3586 (an (decide_eq_true h3585) (ti trivial))))))))))))))))))))))))
      injection h with h; subst h
      exact fun_ok pm pn Try.func4 (r0 := vb ((r3577.2.1.e0 : Int) == 1 && ((r3577.2.1.e1 : Int) == 0 && true))) (ans := [.reg (.n :: []), .reg (arLJ_2 r3569), .reg (arLJ_3 r3573), .reg (arLJ_3 r3577), .reg arLJ_4]) (fr := true) (by kernel_rfl) (an (an (ti trivial) (an e3572 (an e3576 (an e3580 (an e3587 trivial))))) (ti trivial)) (Wv.refl _)
     ·have e3588 := (ti (ti (ti (an (an (decide_eq_true h3581) trivial) (an (an (decide_eq_true h3581) trivial) (an (decide_eq_true h3581) (ti (an (an (decide_eq_true h3582) trivial) (an (an (decide_eq_true h3582) trivial) (an (decide_eq_true h3582) (ti (an (an (decide_eq_true h3583) trivial) (an (an (decide_eq_true h3583) trivial) (an (decide_eq_true h3583) (ti (an (an (decide_eq_true h3584) trivial) (an (an (decide_eq_true h3584) trivial) (an (decide_eq_true h3584) (ti (an (decide_eq_false h3585) (an (decide_eq_false h3585) (an (decide_eq_false h3585) (an (decide_eq_false h3585) (ti trivial))))))))))))))))))))))))
      injection h with h; subst h
      exact fun_ok pm pn Try.func4 (r0 := vb false) (ans := [.reg (.n :: []), .reg (arLJ_2 r3569), .reg (arLJ_3 r3573), .reg (arLJ_3 r3577), .reg arLJ_5]) (fr := true) (by kernel_rfl) (an (an (ti trivial) (an e3572 (an e3576 (an e3580 (an e3588 trivial))))) (ti trivial)) (Wv.refl _)
    ·have e3589 := (ti (ti (ti (an (an (decide_eq_true h3581) trivial) (an (an (decide_eq_true h3581) trivial) (an (decide_eq_true h3581) (ti (an (an (decide_eq_true h3582) trivial) (an (an (decide_eq_true h3582) trivial) (an (decide_eq_true h3582) (ti (an (an (decide_eq_true h3583) trivial) (an (an (decide_eq_true h3583) trivial) (an (decide_eq_true h3583) (ti (an (decide_eq_false h3584) (an (decide_eq_false h3584) (an (decide_eq_false h3584) (ti (an rf (an rf (an rf (an rf (ti trivial))))))))))))))))))))))))
     injection h with h; subst h
     exact fun_ok pm pn Try.func4 (r0 := vb false) (ans := [.reg (.n :: []), .reg (arLJ_2 r3569), .reg (arLJ_3 r3573), .reg (arLJ_3 r3577), .reg arLJ_6]) (fr := true) (by kernel_rfl) (an (an (ti trivial) (an e3572 (an e3576 (an e3580 (an e3589 trivial))))) (ti trivial)) (Wv.refl _)
   ·have e3590 := (ti (ti (ti (an (an (decide_eq_true h3581) trivial) (an (an (decide_eq_true h3581) trivial) (an (decide_eq_true h3581) (ti (an (an (decide_eq_true h3582) trivial) (an (an (decide_eq_true h3582) trivial) (an (decide_eq_true h3582) (ti (an (decide_eq_false h3583) (an (decide_eq_false h3583) (an (decide_eq_false h3583) (ti (an rf (an rf (an rf (ti (an rf (an rf (an rf (an rf (ti trivial))))))))))))))))))))))))
    injection h with h; subst h
    exact fun_ok pm pn Try.func4 (r0 := vb false) (ans := [.reg (.n :: []), .reg (arLJ_2 r3569), .reg (arLJ_3 r3573), .reg (arLJ_3 r3577), .reg arLJ_7]) (fr := true) (by kernel_rfl) (an (an (ti trivial) (an e3572 (an e3576 (an e3580 (an e3590 trivial))))) (ti trivial)) (Wv.refl _)
  ·have e3591 := (ti (ti (ti (an (an (decide_eq_true h3581) trivial) (an (an (decide_eq_true h3581) trivial) (an (decide_eq_true h3581) (ti (an (decide_eq_false h3582) (an (decide_eq_false h3582) (an (decide_eq_false h3582) (ti (an rf (an rf (an rf (ti (an rf (an rf (an rf (ti (an rf (an rf (an rf (an rf (ti trivial))))))))))))))))))))))))
   injection h with h; subst h
   exact fun_ok pm pn Try.func4 (r0 := vb false) (ans := [.reg (.n :: []), .reg (arLJ_2 r3569), .reg (arLJ_3 r3573), .reg (arLJ_3 r3577), .reg arLJ_8]) (fr := true) (by kernel_rfl) (an (an (ti trivial) (an e3572 (an e3576 (an e3580 (an e3591 trivial))))) (ti trivial)) (Wv.refl _)
 ·have e3592 := (ti (ti (ti (an (decide_eq_false h3581) (an (decide_eq_false h3581) (an (decide_eq_false h3581) (ti (an rf (an rf (an rf (ti (an rf (an rf (an rf (ti (an rf (an rf (an rf (ti (an rf (an rf (an rf (an rf (ti trivial))))))))))))))))))))))))
  injection h with h; subst h
  exact fun_ok pm pn Try.func4 (r0 := vb false) (ans := [.reg (.n :: []), .reg (arLJ_2 r3569), .reg (arLJ_3 r3573), .reg (arLJ_3 r3577), .reg arLJ_9]) (fr := true) (by kernel_rfl) (an (an (ti trivial) (an e3572 (an e3576 (an e3580 (an e3592 trivial))))) (ti trivial)) (Wv.refl _)
end Go.Proofs.Ytclgijochagpdaa.Vg

import Derived.Test.YtbgajdbpdhipiaaBC
namespace Go.Proofs.Ytbgajdbpdhipiaa.Vg
set_option maxRecDepth 100000
set_option maxHeartbeats 4000000
set_option linter.unusedVariables false
set_option linter.unusedSimpArgs false
open Go Go.Proofs.Ytbgajdbpdhipiaa.Ev Go.Proofs.Ytbgajdbpdhipiaa.Vv
open List (flatMap length_cons length_nil length_map length_append map_cons map_nil length_replicate)
def Qvr (k : Nat) : Option Bool := some true
theorem Qbo (k : Nat) (r : Bool) (h : Qvr k = some r) : VC Try.prog 5 [] (vb r) := by
 injection h with h; subst h
 exact Qyi
def Qml (z0 : (List Int)) (z1 : (Int × Int)) : List Ans := (nN 7 (.call (VV.fr (List.map vi z0) z0.length) :: .call (VV.tu [vi z1.1, vi z1.2]) :: nN 5 []))
def Qpt (z0 : (Qbd × Int × Int)) : List Ans := (nN 6 (.call (VV.tu [VV.ag (Qc9 z0.1), vi z0.2.1, vi z0.2.2]) :: nN 8 []))
def Xt (k : Nat) (a0 : Qex) (a1 : (List Int)) : Option Bool :=
 (Qvr k).bind fun r3543 => (if r3543 = true then ((Yd k a0).bind fun r3546 => (if r3546 = true then (if 5 < (a0.Targets.length : Int) then (some true) else (if 8 < (a1.length : Int) then (some true) else ((Jl k a1).bind fun r3553 => ((Y8 k a0.Mount a0.Targets a0.At r3553).bind fun r3556 => (if r3556.2 = 0 then ((Qbe k a0.Mount a0.Targets a0.At).bind fun r3561 => ((Qac k a0.Mount a0.Targets a0.At r3561.1.Potentials).bind fun r3565 => (if r3561.2.2 = 0 then (if r3565.2 = 0 then (if r3565.1 = r3561.2.1 then (if r3556.1 < r3561.2.1 then (some false) else ((Y2 k r3556.1 10000000000).bind fun r3582 => ((Y2 k r3561.2.1 10000000000).bind fun r3585 => (some (decide (r3585 <= r3582)))))) else (some false)) else (some false)) else (some false)))) else (some true)))))) else (some true))) else (some false))
theorem Qbv (k : Nat) (a0 : Qex) (a1 : (List Int)) (r : Bool) (h : Xt k a0 a1 = some r) : VC Try.prog 3 [VV.ag (Qfh a0), VV.tr (List.map vi a1) a1.length] (vb r) := by
 unfold Xt at h
 obtain ⟨r3543, h3544, h⟩ := bs h
 rcases ifs h with ⟨h3545, h⟩ | ⟨h3545, h⟩
 ·obtain ⟨r3546, h3547, h⟩ := bs h
  rcases ifs h with ⟨h3548, h⟩ | ⟨h3548, h⟩
  ·rcases ifs h with ⟨h3549, h⟩ | ⟨h3549, h⟩
   ·have e3550 := (ti (an (Qar k a0 _ h3547) (ti (ti (an (an (Q5 h3548) tt) (an (an (Q5 h3548) tt) (an (an (Q5 h3548) tt) (an (an (Q5 h3548) tt) (an (Q5 h3548) (ti (an (dt h3549) (an (dt h3549) (an (dt h3549) (an (dt h3549) tt))))))))))))))
    injection h with h; subst h
    exact Qk pm pn Try.func3 (r0 := vb true) (ans := [.reg (.n :: .n :: []), .reg (.call (vb r3543) :: .n :: []), .br false, .reg (.n :: .call (vb r3546) :: nN 6 (.b false :: .n :: nS 3 (.b true :: []))), .br true, .reg (.n :: [])]) (fr := true) (by kernel_rfl) (an (an (ti (ti tt)) (an (an (an (Qbo k _ h3544) (ti tt)) (an (Q5 h3545) tt)) (an e3550 (an rt (an (ti tt) tt))))) (ti tt)) (Wv.refl _)
   ·have e3551 := (ti (an (Qar k a0 _ h3547) (ti (ti (an (an (Q5 h3548) tt) (an (an (Q5 h3548) tt) (an (an (Q5 h3548) tt) (an (an (Q5 h3548) tt) (an (Q5 h3548) (ti (an (an (df h3549) tt) (an (an (df h3549) tt) (an (an (df h3549) tt) (an (df h3549) tt))))))))))))))
    rcases ifs h with ⟨h3552, h⟩ | ⟨h3552, h⟩
    ·injection h with h; subst h
     exact Qk pm pn Try.func3 (r0 := vb true) (ans := [.reg (.n :: .n :: []), .reg (.call (vb r3543) :: .n :: []), .br false, .reg (.n :: .call (vb r3546) :: nN 6 (.b false :: nN 4 (.b false :: []))), .br true, .reg (.n :: [])]) (fr := true) (by kernel_rfl) (an (an (ti (ti tt)) (an (an (an (Qbo k _ h3544) (ti tt)) (an (Q5 h3545) tt)) (an e3551 (an (dt h3552) (an (ti tt) tt))))) (ti tt)) (Wv.refl _)
    ·obtain ⟨r3553, h3554, h⟩ := bs h
     have e3555 := (show VC Try.prog 8 [VV.tr (List.map vi a1) a1.length] (VV.fr (List.map vi r3553) r3553.length) from (VC.weak (Qep k a1 _ h3554) (Wv.fw rfl rfl)))
     obtain ⟨r3556, h3557, h⟩ := bs h
     have e3558 := (Qga k a0.Mount a0.Targets a0.At r3553 _ h3557)
     have e3559 := (ti (ti (ti (ti (ti (ti (ti (an e3555 (an e3558 (ti (ti (ti (ti (ti tt))))))))))))))
     rcases ifs h with ⟨h3560, h⟩ | ⟨h3560, h⟩
     ·obtain ⟨r3561, h3562, h⟩ := bs h
      have e3563 := (Qjk k a0.Mount a0.Targets a0.At _ h3562)
      have e3564 := (ti (ti (ti (ti (ti (ti (an e3563 (ti (ti (ti (ti (ti (ti (ti (ti tt)))))))))))))))
      obtain ⟨r3565, h3566, h⟩ := bs h
      have e3567 := (Qgz k a0.Mount a0.Targets a0.At r3561.1.Potentials _ h3566)
      have e3568 := (ti (ti (ti (ti (ti (ti (ti (ti (an e3567 (ti (ti (ti (ti (ti tt))))))))))))))
      rcases ifs h with ⟨h3569, h⟩ | ⟨h3569, h⟩
      ·have e3570 := (an (Q5 (dt h3569)) tt)
       have e3571 := (an (Q5 (dt h3569)) tt)
       rcases ifs h with ⟨h3572, h⟩ | ⟨h3572, h⟩
       ·have e3573 := (an (Q5 (dt h3572)) tt)
        have e3574 := (an (Q5 (dt h3572)) tt)
        have e3575 := (an (Q5 (dt h3572)) tt)
        rcases ifs h with ⟨h3576, h⟩ | ⟨h3576, h⟩
        ·have e3577 := (an (Q5 (dt h3576)) tt)
         have e3578 := (an (Q5 (dt h3576)) tt)
         have e3579 := (an (Q5 (dt h3576)) tt)
         have e3580 := (ti (ti (ti (an e3570 (an e3571 (an (Q5 (dt h3569)) (ti (an e3573 (an e3574 (an e3575 (an (Q5 (dt h3572)) (ti (an e3577 (an e3578 (an e3579 (an (Q5 (dt h3576)) tt))))))))))))))))
         rcases ifs h with ⟨h3581, h⟩ | ⟨h3581, h⟩
         ·injection h with h; subst h
          exact Qk pm pn Try.func3 (r0 := vb false) (ans := [.reg (.n :: .n :: []), .reg (.call (vb r3543) :: .n :: []), .br false, .reg (.n :: .call (vb r3546) :: nN 6 (.b false :: nN 4 (.b false :: []))), .br false, .reg (Qml r3553 r3556), .reg (.n :: .n :: []), .br false, .reg (Qpt r3561), .reg (nN 8 (.call (VV.tu [vi r3565.1, vi r3565.2]) :: nN 5 [])), .reg (nN 5 (.b false :: nN 4 (.b false :: nN 4 (.b false :: [])))), .br true, .reg (.n :: [])]) (fr := true) (by kernel_rfl) (an (an (ti (ti tt)) (an (an (an (Qbo k _ h3544) (ti tt)) (an (Q5 h3545) tt)) (an (an e3551 (an (df h3552) tt)) (an e3559 (an (an (ti (ti tt)) (an (Q5 (dt h3560)) tt)) (an e3564 (an e3568 (an e3580 (an (dt h3581) (an (ti tt) tt)))))))))) (ti tt)) (Wv.refl _)
         ·obtain ⟨r3582, h3583, h⟩ := bs h
          have e3584 := (Qcg k r3556.1 10000000000 _ h3583)
          obtain ⟨r3585, h3586, h⟩ := bs h
          have e3587 := (Qcg k r3561.2.1 10000000000 _ h3586)
          injection h with h; subst h
          exact Qk pm pn Try.func3 (r0 := vb (decide (r3585 <= r3582))) (ans := [.reg (.n :: .n :: []), .reg (.call (vb r3543) :: .n :: []), .br false, .reg (.n :: .call (vb r3546) :: nN 6 (.b false :: nN 4 (.b false :: []))), .br false, .reg (Qml r3553 r3556), .reg (.n :: .n :: []), .br false, .reg (Qpt r3561), .reg (nN 8 (.call (VV.tu [vi r3565.1, vi r3565.2]) :: nN 5 [])), .reg (nN 5 (.b false :: nN 4 (.b false :: nN 4 (.b false :: [])))), .br false, .reg (.n :: .call (vi r3582) :: .n :: .call (vi r3585) :: .n :: .n :: [])]) (fr := true) (by kernel_rfl) (an (an (ti (ti tt)) (an (an (an (Qbo k _ h3544) (ti tt)) (an (Q5 h3545) tt)) (an (an e3551 (an (df h3552) tt)) (an e3559 (an (an (ti (ti tt)) (an (Q5 (dt h3560)) tt)) (an e3564 (an e3568 (an (an e3580 (an (df h3581) tt)) (an (ti (an e3584 (ti (an e3587 (ti (ti tt)))))) tt))))))))) (ti tt)) (Wv.refl _)
        ·have e3588 := (ti (ti (ti (an e3570 (an e3571 (an (Q5 (dt h3569)) (ti (an e3573 (an e3574 (an e3575 (an (Q5 (dt h3572)) (ti (an (Z5 (df h3576)) (an (Z5 (df h3576)) (an (Z5 (df h3576)) (an (Z5 (df h3576)) tt))))))))))))))))
         injection h with h; subst h
         exact Qk pm pn Try.func3 (r0 := vb false) (ans := [.reg (.n :: .n :: []), .reg (.call (vb r3543) :: .n :: []), .br false, .reg (.n :: .call (vb r3546) :: nN 6 (.b false :: nN 4 (.b false :: []))), .br false, .reg (Qml r3553 r3556), .reg (.n :: .n :: []), .br false, .reg (Qpt r3561), .reg (nN 8 (.call (VV.tu [vi r3565.1, vi r3565.2]) :: nN 5 [])), .reg (nN 5 (.b false :: nN 4 (.b false :: .n :: nS 3 (.b true :: [])))), .br true, .reg (.n :: [])]) (fr := true) (by kernel_rfl) (an (an (ti (ti tt)) (an (an (an (Qbo k _ h3544) (ti tt)) (an (Q5 h3545) tt)) (an (an e3551 (an (df h3552) tt)) (an e3559 (an (an (ti (ti tt)) (an (Q5 (dt h3560)) tt)) (an e3564 (an e3568 (an e3588 (an rt (an (ti tt) tt)))))))))) (ti tt)) (Wv.refl _)
       ·have e3589 := (ti (ti (ti (an e3570 (an e3571 (an (Q5 (dt h3569)) (ti (an (Z5 (df h3572)) (an (Z5 (df h3572)) (an (Z5 (df h3572)) (an (Z5 (df h3572)) (ti (an rt (an rt (an rt (an rt tt))))))))))))))))
        injection h with h; subst h
        exact Qk pm pn Try.func3 (r0 := vb false) (ans := [.reg (.n :: .n :: []), .reg (.call (vb r3543) :: .n :: []), .br false, .reg (.n :: .call (vb r3546) :: nN 6 (.b false :: nN 4 (.b false :: []))), .br false, .reg (Qml r3553 r3556), .reg (.n :: .n :: []), .br false, .reg (Qpt r3561), .reg (nN 8 (.call (VV.tu [vi r3565.1, vi r3565.2]) :: nN 5 [])), .reg (nN 5 (.b false :: .n :: nS 3 (.b true :: .n :: nS 3 (.b true :: [])))), .br true, .reg (.n :: [])]) (fr := true) (by kernel_rfl) (an (an (ti (ti tt)) (an (an (an (Qbo k _ h3544) (ti tt)) (an (Q5 h3545) tt)) (an (an e3551 (an (df h3552) tt)) (an e3559 (an (an (ti (ti tt)) (an (Q5 (dt h3560)) tt)) (an e3564 (an e3568 (an e3589 (an rt (an (ti tt) tt)))))))))) (ti tt)) (Wv.refl _)
      ·have e3590 := (ti (ti (ti (an (Z5 (df h3569)) (an (Z5 (df h3569)) (an (Z5 (df h3569)) (ti (an rt (an rt (an rt (an rt (ti (an rt (an rt (an rt (an rt tt))))))))))))))))
       injection h with h; subst h
       exact Qk pm pn Try.func3 (r0 := vb false) (ans := [.reg (.n :: .n :: []), .reg (.call (vb r3543) :: .n :: []), .br false, .reg (.n :: .call (vb r3546) :: nN 6 (.b false :: nN 4 (.b false :: []))), .br false, .reg (Qml r3553 r3556), .reg (.n :: .n :: []), .br false, .reg (Qpt r3561), .reg (nN 8 (.call (VV.tu [vi r3565.1, vi r3565.2]) :: nN 5 [])), .reg (nN 3 (.skip :: .skip :: .b true :: .n :: nS 3 (.b true :: .n :: nS 3 (.b true :: [])))), .br true, .reg (.n :: [])]) (fr := true) (by kernel_rfl) (an (an (ti (ti tt)) (an (an (an (Qbo k _ h3544) (ti tt)) (an (Q5 h3545) tt)) (an (an e3551 (an (df h3552) tt)) (an e3559 (an (an (ti (ti tt)) (an (Q5 (dt h3560)) tt)) (an e3564 (an e3568 (an e3590 (an rt (an (ti tt) tt)))))))))) (ti tt)) (Wv.refl _)
     ·injection h with h; subst h
      exact Qk pm pn Try.func3 (r0 := vb true) (ans := [.reg (.n :: .n :: []), .reg (.call (vb r3543) :: .n :: []), .br false, .reg (.n :: .call (vb r3546) :: nN 6 (.b false :: nN 4 (.b false :: []))), .br false, .reg (Qml r3553 r3556), .reg (.n :: .n :: []), .br true, .reg (.n :: [])]) (fr := true) (by kernel_rfl) (an (an (ti (ti tt)) (an (an (an (Qbo k _ h3544) (ti tt)) (an (Q5 h3545) tt)) (an (an e3551 (an (df h3552) tt)) (an e3559 (an (ti (ti tt)) (an (Z5 (df h3560)) (an (ti tt) tt))))))) (ti tt)) (Wv.refl _)
  ·have e3591 := (ti (an (Qar k a0 _ h3547) (ti (ti (an (Z5 (Zb h3548)) (an (Z5 (Zb h3548)) (an (Z5 (Zb h3548)) (an (Z5 (Zb h3548)) (an (Z5 (Zb h3548)) (ti (an rt (an rt (an rt (an rt tt))))))))))))))
   injection h with h; subst h
   exact Qk pm pn Try.func3 (r0 := vb true) (ans := [.reg (.n :: .n :: []), .reg (.call (vb r3543) :: .n :: []), .br false, .reg (.n :: .call (vb r3546) :: .n :: .n :: nS 4 (.b true :: .n :: nS 3 (.b true :: []))), .br true, .reg (.n :: [])]) (fr := true) (by kernel_rfl) (an (an (ti (ti tt)) (an (an (an (Qbo k _ h3544) (ti tt)) (an (Q5 h3545) tt)) (an e3591 (an rt (an (ti tt) tt))))) (ti tt)) (Wv.refl _)
 ·injection h with h; subst h
  exact Qk pm pn Try.func3 (r0 := vb false) (ans := [.reg (.n :: .n :: []), .reg (.call (vb r3543) :: .n :: []), .br true, .reg (.n :: [])]) (fr := true) (by kernel_rfl) (an (an (ti (ti tt)) (an (an (Qbo k _ h3544) (ti tt)) (an (Z5 (Zb h3545)) (an (ti tt) tt)))) (ti tt)) (Wv.refl _)
end Go.Proofs.Ytbgajdbpdhipiaa.Vg

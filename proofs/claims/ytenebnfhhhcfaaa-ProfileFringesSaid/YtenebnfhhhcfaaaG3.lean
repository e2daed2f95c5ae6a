import Derived.Test.YtenebnfhhhcfaaaG2
namespace Go.Proofs.Ytenebnfhhhcfaaa.Vg
set_option maxRecDepth 100000
set_option maxHeartbeats 4000000
set_option linter.unusedVariables false
set_option linter.unusedSimpArgs false
open Go Go.Proofs.Ytenebnfhhhcfaaa.Ev Go.Proofs.Ytenebnfhhhcfaaa.Vv
open List (flatMap length_cons length_nil length_map length_append map_cons map_nil length_replicate)
def Yt (k : Nat) (a0 : (List Int)) : Option (List Int) :=
 some a0
theorem Qdz (k : Nat) (a0 : (List Int)) (r : (List Int)) (h : Yt k a0 = some r) : VC Try.prog 46 [VV.tr (List.map vi a0) a0.length] (VV.fn 61 [VV.tp [VV.tr (List.map vi r) r.length] 0]) := by
 unfold Yt at h
 injection h with h; subst h
 exact Qq pm pn Try.func46 (r0 := VV.fn 61 [VV.tp [VV.tr (List.map vi a0) a0.length] 0]) (ans := [.reg (.n :: .n :: []), .frz 0, .reg (.n :: .n :: [])]) (fr := false) (by kernel_rfl) (an (an (ti (ti tt)) (an (ti (ti tt)) tt)) (ti tt)) (Wv.refl _)
def Q8 (k : Nat) (a0 : Jy) (a1 : (List Int)) (r439 : (List Int)) : List (Int × Int) -> Int -> Option (Int)
 | [], b1_0 => some b1_0
 | x :: xs, b1_0 => (Qp k a0 x.1 x.2).bind fun r448 => (Q8 k a0 a1 r439 xs (w64 (b1_0 + r448)))
theorem Qbk (k : Nat) (a0 : Jy) (a1 : (List Int)) (r439 : (List Int)) : ∀ (xs : List (Int × Int)) (b1_0 : Int) (r : Int), Q8 k a0 a1 r439 xs b1_0 = some r -> (Qcp Try.prog (szF Try.f26) (.tmp 9) [10, 11] (Qf3 Try.f26 0) (Qre Try.f26 0) (xs.map encA) ⟨mkA [(2, VV.pt 0 0), (4, vi 0), (5, VV.pt 1 0), (9, VV.fn 61 [VV.tp [VV.tr (List.map vi r439) r439.length] 0])], [some ⟨true, 1, Zm a0⟩, some ⟨true, 1, [vi b1_0]⟩], .nil⟩ .normal ⟨mkA [(2, VV.pt 0 0), (4, vi 0), (5, VV.pt 1 0), (9, VV.fn 61 [VV.tp [VV.tr (List.map vi r439) r439.length] 0])], [some ⟨true, 1, Zm a0⟩, some ⟨true, 1, [vi r]⟩], .nil⟩) := by
 intro xs
 induction xs with
 | nil => intro b1_0 r h; rw [Q8.eq_1] at h; injection h with h; subst h; exact .nil
 | cons x xs ih =>
  intro b1_0 r h
  rw [Q8.eq_2] at h
  obtain ⟨r448, h449, h⟩ := bs h
  have e450 := (Y1 k a0 x.1 x.2 _ h449)
  have h2 := ih _ _ h
  have hr := Qup (P := Try.prog) (sz := szF Try.f26) (assign := Qf3 Try.f26 0) (body := Qre Try.f26 0) (s := (⟨mkA [(2, VV.pt 0 0), (4, vi 0), (5, VV.pt 1 0), (9, VV.fn 61 [VV.tp [VV.tr (List.map vi r439) r439.length] 0])], [some ⟨true, 1, Zm a0⟩, some ⟨true, 1, [vi b1_0]⟩], .nil⟩ : VS)) (ps := [10, 11]) (x := (encA x)) (sa := (stOf Try.prog (szF Try.f26) (Qf3 Try.f26 0) [.reg (.n :: []), .reg (.n :: [])] (VS.enter (⟨mkA [(2, VV.pt 0 0), (4, vi 0), (5, VV.pt 1 0), (9, VV.fn 61 [VV.tp [VV.tr (List.map vi r439) r439.length] 0])], [some ⟨true, 1, Zm a0⟩, some ⟨true, 1, [vi b1_0]⟩], .nil⟩ : VS) [10, 11] (encA x)))) (s1 := stOf Try.prog (szF Try.f26) (Qre Try.f26 0) [.reg (nN 4 (.call (vi r448) :: .n :: .n :: []))] (stOf Try.prog (szF Try.f26) (Qf3 Try.f26 0) [.reg (.n :: []), .reg (.n :: [])] (VS.enter (⟨mkA [(2, VV.pt 0 0), (4, vi 0), (5, VV.pt 1 0), (9, VV.fn 61 [VV.tp [VV.tr (List.map vi r439) r439.length] 0])], [some ⟨true, 1, Zm a0⟩, some ⟨true, 1, [vi b1_0]⟩], .nil⟩ : VS) [10, 11] (encA x)))) (s2 := ⟨.nil, [some ⟨true, 1, Zm a0⟩, some ⟨true, 1, [vi (w64 (b1_0 + r448))]⟩], (mkA [(2, VV.pt 0 0), (4, vi 0), (5, VV.pt 1 0), (9, VV.fn 61 [VV.tp [VV.tr (List.map vi r439) r439.length] 0])])⟩) (a1 := [.reg (.n :: []), .reg (.n :: [])]) (a2 := [.reg (nN 4 (.call (vi r448) :: .n :: .n :: []))]) (c := ⟨[], [none, none], []⟩) (e := .normal) (q1 := (((True) /\ True) /\ ((True) /\ True))) (q2 := fun l => ((True) /\ (True) /\ (True) /\ (True) /\ (VC Try.prog 23 [VV.ag (Zm a0), vi x.1, vi x.2] (vi r448)) /\ (True) /\ (True) /\ True)) (p := ((True) /\ ((True)))) pm pn (fun l => by kernel_rfl) (an (ti tt) (ti tt)) (fun l => by kernel_rfl) (fun l => (ti (ti (ti (ti (an e450 (ti (ti tt)))))))) (by kernel_rfl) ⟨tt, tt⟩
  exact Qcp.next rfl hr.1 hr.2 (by kernel_rfl) h2
def X0 (k : Nat) (a0 : Jy) (a1 : (List Int)) : Option Int :=
 (Yt k a1).bind fun r439 => (if r439.length <= 1000000000 then ((Q8 k a0 a1 r439 (Qk7 r439) 0).bind fun r453 => (some r453)) else none)
theorem Qcq (k : Nat) (a0 : Jy) (a1 : (List Int)) (r : Int) (h : X0 k a0 a1 = some r) : VC Try.prog 26 [VV.ag (Zm a0), VV.tr (List.map vi a1) a1.length] (vi r) := by
 unfold X0 at h
 obtain ⟨r439, h440, h⟩ := bs h
 have e441 := (ti (an (Qdz k a1 _ h440) tt))
 obtain ⟨h451, h⟩ := ifn h
 obtain ⟨r453, h452, h⟩ := bs h
 have hph452 := Qbk k a0 a1 r439 _ _ _ h452
 have e454 : ((((True)) /\ ((True))) /\ VRun none Try.prog (szF Try.f26) (.rangeFunc (.tmp 9) #[10, 11] (Qf3 Try.f26 0) (Qre Try.f26 0)) ⟨mkA [(2, VV.pt 0 0), (4, vi 0), (5, VV.pt 1 0), (9, VV.fn 61 [VV.tp [VV.tr (List.map vi r439) r439.length] 0])], [some ⟨true, 1, Zm a0⟩, some ⟨true, 1, [vi 0]⟩], .nil⟩ .normal ⟨mkA [(2, VV.pt 0 0), (4, vi 0), (5, VV.pt 1 0), (9, VV.fn 61 [VV.tp [VV.tr (List.map vi r439) r439.length] 0])], [some ⟨true, 1, Zm a0⟩, some ⟨true, 1, [vi r453]⟩], .nil⟩) := ⟨⟨tt, tt⟩, VRun.range pn rfl (by kernel_rfl) (Qoz _ h451) (by kernel_rfl) (of_decide_eq_true (by kernel_rfl)) (by decide) hph452⟩
 injection h with h; subst h
 exact Qq pm pn Try.func26 (r0 := vi r453) (ans := [.reg (.n :: .n :: []), .reg (.n :: .n :: []), .reg (.n :: .call (VV.fn 61 [VV.tp [VV.tr (List.map vi r439) r439.length] 0]) :: []), .sub ⟨[(2, none), (4, none), (5, none), (9, none)], [none, none], []⟩ .normal ⟨mkA [(2, VV.pt 0 0), (4, vi 0), (5, VV.pt 1 0), (9, VV.fn 61 [VV.tp [VV.tr (List.map vi r439) r439.length] 0])], [some ⟨true, 1, Zm a0⟩, some ⟨true, 1, [vi r453]⟩], .nil⟩, .reg (.n :: .n :: [])]) (fr := true) (by kernel_rfl) (an (an (ti (ti tt)) (an (ti (ti tt)) (an (an e441 e454) (an (ti (ti tt)) tt)))) (ti tt)) (Wv.refl _)
end Go.Proofs.Ytenebnfhhhcfaaa.Vg

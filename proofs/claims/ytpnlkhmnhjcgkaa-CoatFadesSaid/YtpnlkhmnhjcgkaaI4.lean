/- Written by a program out of the program: what Go functions do, as plain functions, and their contracts. -/
import Derived.Test.YtpnlkhmnhjcgkaaJ2
namespace Go.Proofs.Ytpnlkhmnhjcgkaa.Vg
set_option linter.unusedVariables false
set_option linter.unusedSimpArgs false
open Go Go.Proofs.Ytpnlkhmnhjcgkaa.Ev Go.Proofs.Ytpnlkhmnhjcgkaa.Vv
def nspeculumlaw08_Past_l0_0 (k : Nat) (a0 : (List SCoatEvent)) : Nat → Int → Option (Sum Unit Unit)
  | 0, _ => none
  | fuel + 1, x3 => if x3 < (a0.length : Int) then (if 0 ≤ x3 ∧ x3 < (a0.length : Int) then (if 20 < (((a0.getD x3.toNat default).Mirror).size : Int) then (some (.inl ())) else (nspeculumlaw08_Past_l0_0 k a0 fuel (w64 (x3 + 1)))) else none) else (some (.inr ()))
set_option maxRecDepth 100000 in
set_option maxHeartbeats 4000000 in
theorem nspeculumlaw08_Past_l0_0_ok (k : Nat) (a0 : (List SCoatEvent)) : ∀ (fuel : Nat) (x3 : Int) (r : Sum Unit Unit), nspeculumlaw08_Past_l0_0 k a0 fuel x3 = some r → (match r with | .inl r => VLoop none Go.Proofs.Try.prog (szF Go.Proofs.Try.f56) (bodyOf Go.Proofs.Try.f56 0) ⟨mkA [(0, VV.tr (List.flatMap c_SCoatEvent a0) a0.length), (3, vi x3)], [], .nil⟩ .ret ⟨mkA [(2, vb false)], [], .nil⟩ | .inr r => VLoop none Go.Proofs.Try.prog (szF Go.Proofs.Try.f56) (bodyOf Go.Proofs.Try.f56 0) ⟨mkA [(0, VV.tr (List.flatMap c_SCoatEvent a0) a0.length), (3, vi x3)], [], .nil⟩ (.exit 0) ⟨mkA [], [], .nil⟩) := by
  intro fuel
  induction fuel with
  | zero => intro x3 r h; rw [nspeculumlaw08_Past_l0_0.eq_1] at h; cases h
  | succ fuel ih =>
    intro x3 r h
    rw [nspeculumlaw08_Past_l0_0.eq_2] at h
    by_cases h756 : x3 < (a0.length : Int)
    · rw [if_pos h756] at h
      by_cases h757 : 0 ≤ x3 ∧ x3 < (a0.length : Int)
      · rw [if_pos h757] at h
        by_cases h758 : 20 < (((a0.getD x3.toNat default).Mirror).size : Int)
        · rw [if_pos h758] at h
          injection h with h; subst h
          exact round_stop (c := ⟨[(2, none)], [], []⟩) (s1 := ⟨mkA [(2, vb false)], [], .nil⟩) pm pn (ans := [.reg [.n, .n, .n, .n], .br true, .reg [.n, .n, .n, .n, .v (vs ((a0.getD x3.toNat default).Mirror)), .n, .n], .br true, .reg [.n]]) (by kernel_rfl) (by intro e; cases e) (an (an (an (ti (ti (ti (ti trivial)))) (an (decide_eq_true h756) trivial)) (an (ti (ti (an h757 (ti (an (show loadL Go.Proofs.Try.prog 9 (x3.toNat * 3 + 0) (List.flatMap c_SCoatEvent a0) = some (vs ((a0.getD x3.toNat default).Mirror)) from (ld_flat ag9 c_SCoatEvent 3 0 len_c_SCoatEvent (by omega) a0 default h757 (by omega)).trans rfl) (ti (ti trivial))))))) (an (decide_eq_true h758) (an (ti trivial) trivial)))) (ti trivial))
        · rw [if_neg h758] at h
          have h2 := ih _ _ h
          obtain ⟨q, hv, hq⟩ := pkR (rd := none) (P := Go.Proofs.Try.prog) (fn := Go.Proofs.Try.f56) (k := 0) (s := ⟨mkA [(0, VV.tr (List.flatMap c_SCoatEvent a0) a0.length), (3, vi x3)], [], .nil⟩) (ans := [.reg [.n, .n, .n, .n], .br true, .reg [.n, .n, .n, .n, .v (vs ((a0.getD x3.toNat default).Mirror)), .n, .n], .br false, .reg [.n, .n, .n]]) (c := ⟨[(0, none), (3, none)], [], []⟩) (e := .normal) (s1 := ⟨mkA [(0, VV.tr (List.flatMap c_SCoatEvent a0) a0.length), (3, vi (w64 (x3 + 1)))], [], .nil⟩) (an (an (an (ti (ti (ti (ti trivial)))) (an (decide_eq_true h756) trivial)) (an (an (ti (ti (an h757 (ti (an (show loadL Go.Proofs.Try.prog 9 (x3.toNat * 3 + 0) (List.flatMap c_SCoatEvent a0) = some (vs ((a0.getD x3.toNat default).Mirror)) from (ld_flat ag9 c_SCoatEvent 3 0 len_c_SCoatEvent (by omega) a0 default h757 (by omega)).trans rfl) (ti (ti trivial))))))) (an (decide_eq_false h758) trivial)) (ti (ti (ti trivial))))) (ti trivial)) (by kernel_rfl)
          cases r with
          | inl r => exact round_next pm pn hv hq h2
          | inr r =>
            exact round_next pm pn hv hq h2
      · rw [if_neg h757] at h; cases h
    · rw [if_neg h756] at h
      injection h with h; subst h
      exact round_stop (c := ⟨[], [], []⟩) (s1 := ⟨mkA [], [], .nil⟩) pm pn (ans := [.reg [.n, .n, .n, .n], .br false]) (by kernel_rfl) (by intro e; cases e) (an (an (ti (ti (ti (ti trivial)))) (an (decide_eq_false h756) trivial)) (ti trivial))
def nspeculumlaw08_Past_l0_1 (k : Nat) (a0 : (List SCoatEvent)) : Nat → Int → Option (Sum Unit Unit)
  | 0, _ => none
  | fuel + 1, x3 => if x3 < (a0.length : Int) then (if 0 ≤ x3 ∧ x3 < (a0.length : Int) then (if 20 < (((a0.getD x3.toNat default).Mirror).size : Int) then (some (.inl ())) else (nspeculumlaw08_Past_l0_1 k a0 fuel (w64 (x3 + 1)))) else none) else (some (.inr ()))
set_option maxRecDepth 100000 in
set_option maxHeartbeats 4000000 in
theorem nspeculumlaw08_Past_l0_1_ok (k : Nat) (a0 : (List SCoatEvent)) : ∀ (fuel : Nat) (x3 : Int) (r : Sum Unit Unit), nspeculumlaw08_Past_l0_1 k a0 fuel x3 = some r → (match r with | .inl r => VLoop none Go.Proofs.Try.prog (szF Go.Proofs.Try.f56) (bodyOf Go.Proofs.Try.f56 0) ⟨mkA [(0, VV.tr (List.flatMap c_SCoatEvent a0) a0.length), (3, vi x3)], [], .nil⟩ .ret ⟨mkA [(2, vb false)], [], .nil⟩ | .inr r => VLoop none Go.Proofs.Try.prog (szF Go.Proofs.Try.f56) (bodyOf Go.Proofs.Try.f56 0) ⟨mkA [(0, VV.tr (List.flatMap c_SCoatEvent a0) a0.length), (3, vi x3)], [], .nil⟩ (.exit 0) ⟨mkA [], [], .nil⟩) := by
  intro fuel
  induction fuel with
  | zero => intro x3 r h; rw [nspeculumlaw08_Past_l0_1.eq_1] at h; cases h
  | succ fuel ih =>
    intro x3 r h
    rw [nspeculumlaw08_Past_l0_1.eq_2] at h
    by_cases h770 : x3 < (a0.length : Int)
    · rw [if_pos h770] at h
      by_cases h771 : 0 ≤ x3 ∧ x3 < (a0.length : Int)
      · rw [if_pos h771] at h
        by_cases h772 : 20 < (((a0.getD x3.toNat default).Mirror).size : Int)
        · rw [if_pos h772] at h
          injection h with h; subst h
          exact round_stop (c := ⟨[(2, none)], [], []⟩) (s1 := ⟨mkA [(2, vb false)], [], .nil⟩) pm pn (ans := [.reg [.n, .n, .n, .n], .br true, .reg [.n, .n, .n, .n, .v (vs ((a0.getD x3.toNat default).Mirror)), .n, .n], .br true, .reg [.n]]) (by kernel_rfl) (by intro e; cases e) (an (an (an (ti (ti (ti (ti trivial)))) (an (decide_eq_true h770) trivial)) (an (ti (ti (an h771 (ti (an (show loadL Go.Proofs.Try.prog 9 (x3.toNat * 3 + 0) (List.flatMap c_SCoatEvent a0) = some (vs ((a0.getD x3.toNat default).Mirror)) from (ld_flat ag9 c_SCoatEvent 3 0 len_c_SCoatEvent (by omega) a0 default h771 (by omega)).trans rfl) (ti (ti trivial))))))) (an (decide_eq_true h772) (an (ti trivial) trivial)))) (ti trivial))
        · rw [if_neg h772] at h
          have h2 := ih _ _ h
          obtain ⟨q, hv, hq⟩ := pkR (rd := none) (P := Go.Proofs.Try.prog) (fn := Go.Proofs.Try.f56) (k := 0) (s := ⟨mkA [(0, VV.tr (List.flatMap c_SCoatEvent a0) a0.length), (3, vi x3)], [], .nil⟩) (ans := [.reg [.n, .n, .n, .n], .br true, .reg [.n, .n, .n, .n, .v (vs ((a0.getD x3.toNat default).Mirror)), .n, .n], .br false, .reg [.n, .n, .n]]) (c := ⟨[(0, none), (3, none)], [], []⟩) (e := .normal) (s1 := ⟨mkA [(0, VV.tr (List.flatMap c_SCoatEvent a0) a0.length), (3, vi (w64 (x3 + 1)))], [], .nil⟩) (an (an (an (ti (ti (ti (ti trivial)))) (an (decide_eq_true h770) trivial)) (an (an (ti (ti (an h771 (ti (an (show loadL Go.Proofs.Try.prog 9 (x3.toNat * 3 + 0) (List.flatMap c_SCoatEvent a0) = some (vs ((a0.getD x3.toNat default).Mirror)) from (ld_flat ag9 c_SCoatEvent 3 0 len_c_SCoatEvent (by omega) a0 default h771 (by omega)).trans rfl) (ti (ti trivial))))))) (an (decide_eq_false h772) trivial)) (ti (ti (ti trivial))))) (ti trivial)) (by kernel_rfl)
          cases r with
          | inl r => exact round_next pm pn hv hq h2
          | inr r =>
            exact round_next pm pn hv hq h2
      · rw [if_neg h771] at h; cases h
    · rw [if_neg h770] at h
      injection h with h; subst h
      exact round_stop (c := ⟨[], [], []⟩) (s1 := ⟨mkA [], [], .nil⟩) pm pn (ans := [.reg [.n, .n, .n, .n], .br false]) (by kernel_rfl) (by intro e; cases e) (an (an (ti (ti (ti (ti trivial)))) (an (decide_eq_false h770) trivial)) (ti trivial))
def nspeculumlaw08_Past (k : Nat) (a0 : (List SCoatEvent)) : Option Bool :=
  if 10 < (a0.length : Int) then (if (a0.length : Int) ≤ 40 then (some false) else (if 43 < (a0.length : Int) then (some false) else ((nspeculumlaw08_Past_l0_0 k a0 k 0).bind fun r760 => (match r760 with | .inl r761 => (some false) | .inr r762 => (some true))))) else (if 43 < (a0.length : Int) then (some false) else ((nspeculumlaw08_Past_l0_1 k a0 k 0).bind fun r774 => (match r774 with | .inl r775 => (some false) | .inr r776 => (some true))))
set_option maxRecDepth 100000 in
set_option maxHeartbeats 4000000 in
theorem nspeculumlaw08_Past_ok (k : Nat) (a0 : (List SCoatEvent)) (r : Bool) (h : nspeculumlaw08_Past k a0 = some r) : VC Go.Proofs.Try.prog 56 [VV.tr (List.flatMap c_SCoatEvent a0) a0.length] (vb r) := by
  unfold nspeculumlaw08_Past at h
  by_cases h747 : 10 < (a0.length : Int)
  · rw [if_pos h747] at h
    by_cases h748 : (a0.length : Int) ≤ 40
    · rw [if_pos h748] at h
      injection h with h; subst h
      exact fun_ok pm pn Go.Proofs.Try.func56 (r0 := vb false) (ans := [.reg [.n], .reg [.n, .n, .n, .n, .n, .n, .n, .b true, .n, .skip, .skip, .skip, .b true], .br true, .reg [.n]]) (fr := true) (by kernel_rfl) (an (an (ti trivial) (an (ti (ti (ti (ti (an (an (decide_eq_true h747) trivial) (an (an (decide_eq_true h747) trivial) (an (an (decide_eq_true h747) trivial) (an (decide_eq_true h747) (ti (an (decide_eq_true h748) (an (decide_eq_true h748) (an (decide_eq_true h748) (an (decide_eq_true h748) trivial))))))))))))) (an rt (an (ti trivial) trivial)))) (ti trivial)) (Wv.refl _)
    · rw [if_neg h748] at h
      by_cases h749 : 43 < (a0.length : Int)
      · rw [if_pos h749] at h
        injection h with h; subst h
        exact fun_ok pm pn Go.Proofs.Try.func56 (r0 := vb false) (ans := [.reg [.n], .reg [.n, .n, .n, .n, .n, .n, .n, .b true, .n, .n, .n, .n, .b false], .br true, .reg [.n]]) (fr := true) (by kernel_rfl) (an (an (ti trivial) (an (ti (ti (ti (ti (an (an (decide_eq_true h747) trivial) (an (an (decide_eq_true h747) trivial) (an (an (decide_eq_true h747) trivial) (an (decide_eq_true h747) (ti (an (an (decide_eq_false h748) trivial) (an (an (decide_eq_false h748) trivial) (an (an (decide_eq_false h748) trivial) (an (decide_eq_false h748) trivial))))))))))))) (an (decide_eq_true h749) (an (ti trivial) trivial)))) (ti trivial)) (Wv.refl _)
      · rw [if_neg h749] at h
        cases h759 : nspeculumlaw08_Past_l0_0 k a0 k 0 with
        | none => rw [h759] at h; cases h
        | some r760 =>
          rw [h759, Option.bind_some] at h
          have hph759 := nspeculumlaw08_Past_l0_0_ok k a0 _ _ _ h759
          cases r760 with
          | inl r761 =>
            dsimp only at h
            injection h with h; subst h
            exact fun_ok pm pn Go.Proofs.Try.func56 (r0 := vb false) (ans := [.reg [.n], .reg [.n, .n, .n, .n, .n, .n, .n, .b true, .n, .n, .n, .n, .b false], .br false, .reg [.n], .sub ⟨[(0, none), (3, none)], [], []⟩ .ret ⟨mkA [(2, vb false)], [], .nil⟩]) (fr := true) (by kernel_rfl) (an (an (ti trivial) (an (an (ti (ti (ti (ti (an (an (decide_eq_true h747) trivial) (an (an (decide_eq_true h747) trivial) (an (an (decide_eq_true h747) trivial) (an (decide_eq_true h747) (ti (an (an (decide_eq_false h748) trivial) (an (an (decide_eq_false h748) trivial) (an (an (decide_eq_false h748) trivial) (an (decide_eq_false h748) trivial))))))))))))) (an (decide_eq_false h749) trivial)) (an (ti trivial) (an (ti trivial) (VRun.loop hph759))))) (ti trivial)) (Wv.refl _)
          | inr r762 =>
            dsimp only at h
            injection h with h; subst h
            exact fun_ok pm pn Go.Proofs.Try.func56 (r0 := vb true) (ans := [.reg [.n], .reg [.n, .n, .n, .n, .n, .n, .n, .b true, .n, .n, .n, .n, .b false], .br false, .reg [.n], .sub ⟨[(0, none), (3, none)], [], []⟩ (.exit 0) ⟨mkA [], [], .nil⟩, .reg [.n]]) (fr := true) (by kernel_rfl) (an (an (ti trivial) (an (an (ti (ti (ti (ti (an (an (decide_eq_true h747) trivial) (an (an (decide_eq_true h747) trivial) (an (an (decide_eq_true h747) trivial) (an (decide_eq_true h747) (ti (an (an (decide_eq_false h748) trivial) (an (an (decide_eq_false h748) trivial) (an (an (decide_eq_false h748) trivial) (an (decide_eq_false h748) trivial))))))))))))) (an (decide_eq_false h749) trivial)) (an (an (ti trivial) (an (ti trivial) (VRun.loop hph759))) (an (ti trivial) trivial)))) (ti trivial)) (Wv.refl _)
  · rw [if_neg h747] at h
    by_cases h763 : 43 < (a0.length : Int)
    · rw [if_pos h763] at h
      injection h with h; subst h
      exact fun_ok pm pn Go.Proofs.Try.func56 (r0 := vb false) (ans := [.reg [.n], .reg [.n, .n, .n, .n, .skip, .skip, .skip, .b false, .n, .n, .n, .n, .b false], .br true, .reg [.n]]) (fr := true) (by kernel_rfl) (an (an (ti trivial) (an (ti (ti (ti (ti (an (decide_eq_false h747) (an (decide_eq_false h747) (an (decide_eq_false h747) (an (decide_eq_false h747) (ti (an (an rf trivial) (an (an rf trivial) (an (an rf trivial) (an rf trivial))))))))))))) (an (decide_eq_true h763) (an (ti trivial) trivial)))) (ti trivial)) (Wv.refl _)
    · rw [if_neg h763] at h
      cases h773 : nspeculumlaw08_Past_l0_1 k a0 k 0 with
      | none => rw [h773] at h; cases h
      | some r774 =>
        rw [h773, Option.bind_some] at h
        have hph773 := nspeculumlaw08_Past_l0_1_ok k a0 _ _ _ h773
        cases r774 with
        | inl r775 =>
          dsimp only at h
          injection h with h; subst h
          exact fun_ok pm pn Go.Proofs.Try.func56 (r0 := vb false) (ans := [.reg [.n], .reg [.n, .n, .n, .n, .skip, .skip, .skip, .b false, .n, .n, .n, .n, .b false], .br false, .reg [.n], .sub ⟨[(0, none), (3, none)], [], []⟩ .ret ⟨mkA [(2, vb false)], [], .nil⟩]) (fr := true) (by kernel_rfl) (an (an (ti trivial) (an (an (ti (ti (ti (ti (an (decide_eq_false h747) (an (decide_eq_false h747) (an (decide_eq_false h747) (an (decide_eq_false h747) (ti (an (an rf trivial) (an (an rf trivial) (an (an rf trivial) (an rf trivial))))))))))))) (an (decide_eq_false h763) trivial)) (an (ti trivial) (an (ti trivial) (VRun.loop hph773))))) (ti trivial)) (Wv.refl _)
        | inr r776 =>
          dsimp only at h
          injection h with h; subst h
          exact fun_ok pm pn Go.Proofs.Try.func56 (r0 := vb true) (ans := [.reg [.n], .reg [.n, .n, .n, .n, .skip, .skip, .skip, .b false, .n, .n, .n, .n, .b false], .br false, .reg [.n], .sub ⟨[(0, none), (3, none)], [], []⟩ (.exit 0) ⟨mkA [], [], .nil⟩, .reg [.n]]) (fr := true) (by kernel_rfl) (an (an (ti trivial) (an (an (ti (ti (ti (ti (an (decide_eq_false h747) (an (decide_eq_false h747) (an (decide_eq_false h747) (an (decide_eq_false h747) (ti (an (an rf trivial) (an (an rf trivial) (an (an rf trivial) (an rf trivial))))))))))))) (an (decide_eq_false h763) trivial)) (an (an (ti trivial) (an (ti trivial) (VRun.loop hph773))) (an (ti trivial) trivial)))) (ti trivial)) (Wv.refl _)
def nspeculumlaw08_events (k : Nat) (a0 : (List SCoatEvent)) : Option (List SCoatEvent) :=
  if ([] : List SCoatEvent).length + a0.length ≤ 1000000000 then (some (([] : List SCoatEvent) ++ a0)) else none
set_option maxRecDepth 100000 in
set_option maxHeartbeats 4000000 in
theorem nspeculumlaw08_events_ok (k : Nat) (a0 : (List SCoatEvent)) (r : (List SCoatEvent)) (h : nspeculumlaw08_events k a0 = some r) : VC Go.Proofs.Try.prog 58 [VV.tr (List.flatMap c_SCoatEvent a0) a0.length] (VV.fw 3 (List.flatMap c_SCoatEvent r) r.length) := by
  unfold nspeculumlaw08_events at h
  by_cases h778 : ([] : List SCoatEvent).length + a0.length ≤ 1000000000
  · rw [if_pos h778] at h
    injection h with h; subst h
    exact fun_ok pm pn Go.Proofs.Try.func58 (r0 := VV.fw 3 (List.drop 0 (List.map unfr ([] ++ (List.flatMap c_SCoatEvent a0)))) (0 + a0.length)) (ans := [.reg [.n], .reg [.n, .n, .n, .n]]) (fr := true) (by kernel_rfl) (an (an (ti trivial) (an (ti (ti (an (show List.length [] = 0 * 3 ∧ List.length (List.flatMap c_SCoatEvent a0) = a0.length * 3 ∧ (0 + a0.length) * 32 ≤ 140737488355328 ∧ 0 + a0.length < 1099511627776 ∧ List.all (List.flatMap c_SCoatEvent a0) VV.still = true from ⟨(by rw [show [] = List.flatMap c_SCoatEvent ([] : List SCoatEvent) from rfl]; rw [flatMap_len len_c_SCoatEvent] <;> simp), (by rw [flatMap_len len_c_SCoatEvent] <;> simp), by simp at h778 ⊢; omega, by simp at h778 ⊢; omega, (by exact still_c_SCoatEvent _)⟩) (ti trivial)))) trivial)) (an (show List.all ([] ++ (List.flatMap c_SCoatEvent a0)) new0 = true from (by rw [show [] ++ (List.flatMap c_SCoatEvent a0) = List.flatMap c_SCoatEvent (([] : List SCoatEvent) ++ a0) from (by rw [show [] = List.flatMap c_SCoatEvent ([] : List SCoatEvent) from rfl]; exact List.flatMap_append.symm)]; exact new0_c_SCoatEvent _)) trivial)) (Wv.of_eq (by simp only [show [] ++ (List.flatMap c_SCoatEvent a0) = List.flatMap c_SCoatEvent (([] : List SCoatEvent) ++ a0) from (by rw [show [] = List.flatMap c_SCoatEvent ([] : List SCoatEvent) from rfl]; exact List.flatMap_append.symm), drop0, unfr_vi, unfr_vb, unfr_vs, List.map_cons, List.map_nil, un_i, un_k, un_b, un_s, un_tr, un_fr, List.length_map, List.length_replicate, List.length_append, List.length_set, List.length_cons, List.length_nil, unfr_c_SAging, unfr_c_SRange, unfr_c_SCoatEvent, unfr_c_Sfilm]))
  · rw [if_neg h778] at h; cases h
end Go.Proofs.Ytpnlkhmnhjcgkaa.Vg

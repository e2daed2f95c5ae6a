/- Chapter 9, plain: the law of targets. -/
import Derived.Test.YtgacnndakgpaeaaCB
import Derived.Test.YtgacnndakgpaeaaB3
set_option linter.unusedVariables false
set_option linter.unusedSimpArgs false
namespace Go.Proofs.Ytgacnndakgpaeaa.Vg
open Go Go.Proofs.Ytgacnndakgpaeaa.Ev Go.Proofs.Ytgacnndakgpaeaa.Vv
/-- the error of a mounting, a target and a day. -/
def sgtE (m : SSkyMount) (t : SSkyTarget) (d : Int) : Int := if mntE m = 0 then (if tgtE t = 0 then (if inR 0 100000 d = true then 0 else 2) else tgtE t) else mntE m
theorem sight_any (k : Nat) (hk : 100 < k) (hk2 : k ≤ 100000000000000000000) (m : SSkyMount) (t : SSkyTarget) (d : Int) (h1 : m.Refraction.length < k) (h2 : m.Drift.length < k) : npoint_checkSight k m t d = some (sgtE m t d) := by
  unfold npoint_checkSight sgtE
  rw [mount_point k hk hk2 m h1 h2, Option.bind_some, target_point k hk hk2 t, Option.bind_some]
  unfold npoint_checkDay
  rw [areWithin_1 k _ _ _ hk hk2, Option.bind_some]
  split
  · split
    · split <;> rfl
    · rfl
  · rfl
theorem sgt_zero {m : SSkyMount} {t : SSkyTarget} {d : Int} (h : sgtE m t d = 0) : Mnt m ∧ Tgt t ∧ 0 ≤ d ∧ d ≤ 100000 := by
  unfold sgtE at h
  split at h
  · split at h
    · split at h
      · exact ⟨Mnt.of ‹_›, Tgt.of ‹_›, inR_t.1 ‹_›⟩
      · omega
    · omega
  · omega
theorem Apparent_any (k : Nat) (hk : 100 < k) (hk2 : k ≤ 100000000000000000000) (m : SSkyMount) (t : SSkyTarget) (d : Int) (h1 : m.Refraction.length < k) (h2 : m.Drift.length < k) : npoint_Apparent k m t d = some (if sgtE m t d = 0 then (⟨apA m t d, apH m t⟩, 0) else (⟨0, 0⟩, sgtE m t d)) := by
  unfold npoint_Apparent
  rw [sight_any k hk hk2 m t d h1 h2, Option.bind_some]
  by_cases c : sgtE m t d = 0
  · obtain ⟨a, b, e⟩ := sgt_zero c
    rw [if_pos c, if_pos c, apparent_point k hk a b e]; rfl
  · rw [if_neg c, if_neg c]
theorem Turns_any (k : Nat) (hk : 100 < k) (hk2 : k ≤ 100000000000000000000) (m : SSkyMount) (t : SSkyTarget) (d : Int) (h1 : m.Refraction.length < k) (h2 : m.Drift.length < k) : npoint_Turns k m t d = some (if sgtE m t d = 0 then (if stpE m t d = 0 then (trn m (apA m t d), 0) else ([], stpE m t d)) else ([], sgtE m t d)) := by
  unfold npoint_Turns
  rw [sight_any k hk hk2 m t d h1 h2, Option.bind_some]
  by_cases c : sgtE m t d = 0
  · obtain ⟨a, b, e⟩ := sgt_zero c
    rw [if_pos c, if_pos c, stopAt_any k hk hk2 a b e, Option.bind_some]
    split <;> rfl
  · rw [if_neg c, if_neg c]
end Go.Proofs.Ytgacnndakgpaeaa.Vg

/- An evaluator of closed calls, proved right. Part 6: slices. -/
import Derived.Test.YtlhkkbdfdkjlcaaEv5
set_option linter.unusedVariables false
set_option linter.unusedSimpArgs false
namespace Go.Proofs.Ytlhkkbdfdkjlcaa.Ev
open Go
section
variable {P : Program} {base fl : Nat} {ρ : Ren}

def bnd (v : Option Value) (d : Nat) : Option Nat :=
  match v with
  | none => some d
  | some (.int _ i) => if 0 ≤ i then some i.toNat else none
  | _ => none
theorem sliceBound_run {k : IntKind} {i : Int} {y : Nat} {code : BoundsCode} (h : 0 ≤ i) (hn : i.toNat ≤ y) (w : World) : (Instr.sliceBound (.int k i) y code).run P w = .ok i.toNat w := by
  unfold Instr.sliceBound
  simp only [asIntOf, pure_bind]
  rw [if_pos ⟨h, by omega⟩]; rfl
theorem bnd_some {v : Value} {d n : Nat} (h : bnd (some v) d = some n) : ∃ k i, v = .int k i ∧ 0 ≤ i ∧ i.toNat = n := by
  unfold bnd at h
  cases v <;> simp at h
  exact ⟨_, _, rfl, h.1, h.2⟩
theorem bounds_run (s : Bool) {len cap l h m : Nat} {lo hi mx : Option Value} (hl : bnd lo 0 = some l) (hh : bnd hi len = some h) (hm : bnd mx cap = some m)
    (h1 : l ≤ h) (h2 : h ≤ m ∨ hi = none) (h3 : m ≤ cap) (h4 : mx.isSome = true → hi.isSome = true) (w : World) : (Instr.sliceBounds s len cap lo hi mx).run P w = .ok (l, h, m) w := by
  unfold Instr.sliceBounds
  have low : ∀ (m : Nat) (c : BoundsCode), Sem.run P (match lo with
      | some v => do
        let l ← Instr.sliceBound v h c
        Pure.pure (l, h, m)
      | none => do
        let l ← Pure.pure 0
        Pure.pure (l, h, m)) w = .ok (l, h, m) w := by
    intro m c
    cases lo with
    | none => simp [bnd] at hl; subst hl; rfl
    | some v =>
      obtain ⟨k, i, rfl, p, rfl⟩ := bnd_some hl
      dsimp only
      rw [Sem.run_bind, sliceBound_run p h1]; rfl
  cases mx with
  | none =>
    simp [bnd] at hm
    subst hm
    dsimp only
    simp only [pure_bind]
    cases hi with
    | none =>
      simp [bnd] at hh
      subst hh
      dsimp only
      exact low _ _
    | some v =>
      obtain ⟨k, i, rfl, p, rfl⟩ := bnd_some hh
      dsimp only
      rw [Sem.run_bind, sliceBound_run p (by simpa using h2)]
      exact low _ _
  | some u =>
    obtain ⟨k', i', rfl, p', rfl⟩ := bnd_some hm
    cases hi with
    | none => simp at h4
    | some v =>
      obtain ⟨k, i, rfl, p, rfl⟩ := bnd_some hh
      dsimp only
      rw [Sem.run_bind, sliceBound_run p' h3]
      simp only [Result.andThen_ok]
      rw [Sem.run_bind, sliceBound_run p (by simpa using h2)]
      exact low _ _

def szOf (P : Program) (t : TypeId) : Option Nat := (P.info? t).map (·.size)
theorem sizeOf_run {t : TypeId} {n : Nat} (h : szOf P t = some n) (w : World) : (Go.sizeOf t).run P w = .ok n w := by
  unfold szOf at h
  unfold Go.sizeOf Go.typeInfo
  cases hi : P.info? t with
  | none => rw [hi] at h; cases h
  | some i => rw [hi] at h; simp at h; subst h; simp [hi]
theorem underlying_run {t : TypeId} {d : TypeDesc} (h : P.underlying t = some d) (w : World) : (Go.underlying t).run P w = .ok d w := by
  unfold Go.underlying; simp [h]

/-- The size of an element of a block of cells. -/
def blockSz (P : Program) (mem : Nat → Option Obj) (b : Nat) : Option Nat := match mem b with
  | some (.cells _ t _) => szOf P t
  | _ => none
theorem blockSz_img {wA w : World} (hr : WRel P base ρ wA w) {b n : Nat} {x : Img} (hb : ρ b = some x) (h : blockSz P (fun b => wA.heap[b]?) b = some n) : x.sz = n := by
  unfold blockSz at h
  dsimp only at h
  split at h
  · rename_i c t fr he
    obtain ⟨o', _, h4⟩ := hr.obj b _ x he rfl hb
    cases h4 with
    | cells ht hs hz hh =>
      unfold szOf at h
      rw [h] at hz; injection hz with hz; exact hz.symm
  · cases h
def evSlice (P : Program) (mem : Nat → Option Obj) (t : TypeId) (x : Value) (lo hi mx : Option Value) : Option Value :=
  match P.underlying t, x with
  | some .string, .string s =>
    match mx, bnd lo 0, bnd hi s.size with
    | none, some l, some h => if l ≤ h ∧ h ≤ s.size then some (.string (s.extract l h)) else none
    | _, _, _ => none
  | some (.slice e), .slice none n c =>
    match szOf P e, bnd lo 0, bnd hi n, bnd mx c with
    | some _, some l, some h, some m => if l ≤ h ∧ h ≤ m ∧ m ≤ c ∧ (mx.isSome = true → hi.isSome = true) then some (.slice none (h - l) (m - l)) else none
    | _, _, _, _ => none
  | some (.slice e), .slice (some ⟨b, o, none⟩) n c =>
    match szOf P e, bnd lo 0, bnd hi n with
    | some size, some l, some h =>
      if c < big then
        match bnd mx c with
        | some m => if l ≤ h ∧ h ≤ m ∧ m ≤ c ∧ (mx.isSome = true → hi.isSome = true) then some (.slice (some ⟨b, if m = l then o else o + l * size, none⟩) (h - l) (m - l)) else none
        | none => none
      else
        match mx with
        | none => if l ≤ h ∧ h ≤ n ∧ big ≤ c - l ∧ blockSz P mem b = some size then some (.slice (some ⟨b, o + l * size, none⟩) (h - l) (c - l)) else none
        | some v => match bnd (some v) c with
          | some m => if l ≤ h ∧ h ≤ m ∧ m ≤ n ∧ hi.isSome = true ∧ m < big then
              if n = 0 then some (.slice (some ⟨b, o, none⟩) 0 (2 * big)) else some (.slice (some ⟨b, if m = l then o else o + l * size, none⟩) (h - l) (m - l))
              else none
          | none => none
    | _, _, _ => none
  | some (.array N e), .pointer (some ⟨b, o, none⟩) =>
    match szOf P e, bnd lo 0, bnd hi N, bnd mx N with
    | some size, some l, some h, some m => if l ≤ h ∧ h ≤ m ∧ m ≤ N ∧ N < big ∧ (mx.isSome = true → hi.isSome = true) then some (.slice (some ⟨b, if m = l then o else o + l * size, none⟩) (h - l) (m - l)) else none
    | _, _, _, _ => none
  | _, _ => none

theorem slice_run {t e : TypeId} {size len cap l h m : Nat} {lo hi mx : Option Value} {a : Option Addr} (hu : P.underlying t = some (.slice e)) (hs : szOf P e = some size)
    (hb : ∀ w, (Instr.sliceBounds true len cap lo hi mx).run P w = .ok (l, h, m) w) (w : World) :
    (Instr.sliceAt t (.slice a len cap) lo hi mx).run P w = .ok (.slice (if m = l then a else a.map (·.add (l * size))) (h - l) (m - l)) w := by
  unfold Instr.sliceAt
  rw [Sem.run_bind, underlying_run hu]
  simp only [Result.andThen_ok]
  unfold Instr.slice
  rw [Sem.run_bind, underlying_run hu]
  simp only [Result.andThen_ok]
  rw [Sem.run_bind, hb]
  simp only [Result.andThen_ok]
  rw [Sem.run_bind, sizeOf_run hs]
  rfl
theorem addIf (b o l size m : Nat) (c : Prop) [Decidable c] : (if c then (some ⟨b, o, none⟩ : Option Addr) else (some ⟨b, o, none⟩ : Option Addr).map (·.add (l * size))) = some ⟨b, if c then o else o + l * size, none⟩ := by
  split
  · rfl
  · simp only [Option.map_some, add_off]
theorem evSlice_ok {wA w0 : World} {t : TypeId} {x x' v : Value} {lo hi mx : Option Value} (he : evSlice P (fun b => wA.heap[b]?) t x lo hi mx = some v) (hr : WRel P base ρ wA w0) (hx : VRel ρ x x') :
    ∃ v', (∀ w, (Instr.sliceAt t x' lo hi mx).run P w = .ok v' w) ∧ VRel ρ v v' := by
  unfold evSlice at he
  split at he
  · -- string
    rename_i hu
    split at he
    · rename_i l h hl hh
      split at he
      · rename_i hc
        injection he with he
        subst he
        cases hx
        refine ⟨_, fun w => ?_, .string _⟩
        unfold Instr.sliceAt
        rw [Sem.run_bind, underlying_run hu]
        simp only [Result.andThen_ok]
        unfold Instr.slice
        rw [Sem.run_bind, underlying_run hu]
        simp only [Result.andThen_ok, Option.isSome_none, Bool.false_eq_true, if_false]
        rw [Sem.run_bind, bounds_run false hl hh (rfl : bnd none _ = some _) hc.1 (.inl hc.2) (Nat.le_refl _) (fun h => by cases h)]
        rfl
      · cases he
    · cases he
  · -- nil slice
    rename_i hu
    split at he
    · rename_i s l h m hs hl hh hm
      split at he
      · rename_i hc
        injection he with he
        subst he
        cases hx
        refine ⟨_, slice_run hu hs (bounds_run true hl hh hm hc.1 (.inl hc.2.1) hc.2.2.1 hc.2.2.2), ?_⟩
        have : (if m = l then (none : Option Addr) else (none : Option Addr).map (·.add (l * s))) = none := by split <;> rfl
        rw [this]
        exact .nilSlice _ _
      · cases he
    · cases he
  · -- a slice
    rename_i b o n c hu
    split at he
    · rename_i size l h hs hl hh
      cases hx with
      | @slice _ _ _ _ x hb hc0 =>
        rw [if_pos hc0] at he
        split at he
        · rename_i m hm
          split at he
          · rename_i hc
            injection he with he
            subst he
            refine ⟨_, slice_run hu hs (bounds_run true hl hh hm hc.1 (.inl hc.2.1) hc.2.2.1 hc.2.2.2), ?_⟩
            rw [addIf _ _ _ _ m]
            have := VRel.slice (ρ := ρ) (o := if m = l then o else o + l * size) (n := h - l) (c := m - l) hb (by omega)
            rw [show (if m = l then o else o + l * size) + x.shift = (if m = l then o + x.shift else o + x.shift + l * size) by split <;> omega] at this
            exact this
          · cases he
        · cases he
      | @loose _ _ o' _ _ c' x hb hc0 hn ht ho =>
        rw [if_neg (by omega)] at he
        split at he
        · split at he
          · rename_i hc
            injection he with he
            subst he
            have hz := blockSz_img hr hb hc.2.2.2
            refine ⟨_, slice_run hu hs (bounds_run true hl hh (rfl : bnd none c' = some c') hc.1 (.inl (by omega)) (Nat.le_refl _) (fun h => by cases h)), ?_⟩
            rw [addIf _ _ _ _ c']
            refine .loose hb hc.2.2.1 (by omega) ?_ (fun hp => ?_)
            · rw [hz] at ht ⊢
              have hle : l ≤ c' := by omega
              split
              · rename_i e
                have : c' - l = 0 := by omega
                rw [this]
                have : o' ≤ o' + c' * size := Nat.le_add_right _ _
                omega
              · have e1 : (c' - l) * size + l * size = c' * size := by rw [← Nat.add_mul]; congr 1; omega
                omega
            · rw [if_neg (by omega), ho (by omega)]; omega
          · cases he
        · rename_i u
          split at he
          · rename_i m hm
            split at he
            · rename_i hc
              obtain ⟨k, i, rfl, p, rfl⟩ := bnd_some hm
              have hm' : bnd (some (.int k i)) c' = some i.toNat := by unfold bnd; simp [p]
              have hrun := slice_run (a := some ⟨x.blk, o', none⟩) hu hs (bounds_run (P := P) true hl hh hm' hc.1 (.inl hc.2.1) (by omega) (fun _ => hc.2.2.2.1))
              split at he
              · rename_i hn0
                injection he with he
                subst he
                refine ⟨_, hrun, ?_⟩
                have e1 : i.toNat = l := by omega
                rw [if_pos e1]
                have e2 : h - l = 0 := by omega
                have e3 : i.toNat - l = 0 := by omega
                rw [e2, e3]
                refine .loose hb (by unfold big; omega) (Nat.le_refl _) ?_ (fun hp => by omega)
                have : o' ≤ o' + c' * x.sz := Nat.le_add_right _ _
                omega
              · injection he with he
                subst he
                refine ⟨_, hrun, ?_⟩
                rw [addIf _ _ _ _ i.toNat, ho (by omega)]
                have := VRel.slice (ρ := ρ) (o := if i.toNat = l then o else o + l * size) (n := h - l) (c := i.toNat - l) hb (by omega)
                rw [show (if i.toNat = l then o else o + l * size) + x.shift = (if i.toNat = l then o + x.shift else o + x.shift + l * size) by split <;> omega] at this
                exact this
            · cases he
          · cases he
    · cases he
  · -- an array
    rename_i N e b o hu
    split at he
    · rename_i size l h m hs hl hh hm
      split at he
      · rename_i hc
        injection he with he
        subst he
        cases hx with
        | @ptr _ _ x hb =>
          refine ⟨.slice (some ⟨x.blk, if m = l then o + x.shift else o + x.shift + l * size, none⟩) (h - l) (m - l), fun w => ?_, ?_⟩
          · unfold Instr.sliceAt
            rw [Sem.run_bind, underlying_run hu]
            simp only [Result.andThen_ok]
            show Sem.run P (Instr.sliceBounds false N N lo hi mx >>= _) w = _
            rw [Sem.run_bind, bounds_run false hl hh hm hc.1 (.inl hc.2.1) hc.2.2.1 hc.2.2.2.2]
            simp only [Result.andThen_ok]
            rw [Sem.run_bind, sizeOf_run hs]
            simp only [Result.andThen_ok, Sem.run_pure, add_off]
            split <;> rfl
          · have := VRel.slice (ρ := ρ) (o := if m = l then o else o + l * size) (n := h - l) (c := m - l) hb (by omega)
            rw [show (if m = l then o else o + l * size) + x.shift = (if m = l then o + x.shift else o + x.shift + l * size) by split <;> omega] at this
            exact this
      · cases he
    · cases he
  · cases he
end
end Go.Proofs.Ytlhkkbdfdkjlcaa.Ev

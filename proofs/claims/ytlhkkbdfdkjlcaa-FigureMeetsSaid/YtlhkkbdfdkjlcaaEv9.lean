/- An evaluator of closed calls, proved right. Part 9: maps, strings, lengths. -/
import Derived.Test.YtlhkkbdfdkjlcaaEv8
set_option linter.unusedVariables false
set_option linter.unusedSimpArgs false
namespace Go.Proofs.Ytlhkkbdfdkjlcaa.Ev
open Go
section
variable {P : Program} {base fl : Nat} {ρ : Ren}

theorem getObj_run {w : World} {r : Nat} {o : Obj} (h : w.heap[r]? = some o) (hc : ∀ c t fr, o ≠ .cells c t fr) : (Go.getObj r).run P w = .ok o w := by
  unfold Go.getObj
  simp only [Sem.run, h]
theorem setObj_run {w : World} {r : Nat} {o o1 : Obj} (h : w.heap[r]? = some o) (hc : ∀ c t fr, o ≠ .cells c t fr) : (Go.setObj r o1).run P w = .ok () { w with heap := w.heap.setIfInBounds r o1 } := by
  unfold Go.setObj
  simp only [Sem.run, h]
theorem heap_set {w : World} {i : Nat} {p : Obj} (q : Obj) (hp : w.heap[i]? = some p) (k : Nat) : (w.heap.setIfInBounds i q)[k]? = if k = i then some q else w.heap[k]? := by
  rw [Array.getElem?_setIfInBounds]
  have hlt := (Array.getElem?_eq_some_iff.1 hp).1
  by_cases e : i = k
  · subst e; rw [if_pos rfl, if_pos hlt, if_pos rfl]
  · rw [if_neg e, if_neg (fun h => e h.symm)]
/-- Kinds of keys that are compared at once. -/
def keyKind : TypeDesc → Value → Bool
  | .int _, .int _ _ | .string, .string _ | .bool, .bool _ => true
  | _, _ => false
theorem checkKey_run {kt : TypeId} {kd : TypeDesc} {k : Value} (hu : P.underlying kt = some kd) (hk : keyKind kd k = true) (b : Bool) (w : World) : (Instr.checkKey b 10000 kt k).run P w = .ok () w := by
  show (Instr.checkKey b (9999 + 1) kt k).run P w = _
  unfold Instr.checkKey
  rw [Sem.run_bind, underlying_run hu]
  simp only [Result.andThen_ok]
  cases kd <;> cases k <;> simp [keyKind] at hk <;> rfl
theorem sameNow_rel {kd : TypeDesc} {k a a' : Value} {b : Bool} (h : Instr.sameNow kd k a = some b) (r : VRel ρ a a') : Instr.sameNow kd k a' = some b := by
  have : ground a = true := by
    unfold Instr.sameNow at h
    split at h <;> first | rfl | (cases h; done)
  rw [ground_eq this r]; exact h
theorem sameNow_true {kd : TypeDesc} {k a : Value} (h : Instr.sameNow kd k a = some true) : a = k := by
  unfold Instr.sameNow at h
  split at h
  · split at h
    · rename_i e; subst e; simp at h; rw [h]
    · cases h
  · rename_i a b
    have e : a = b := by
      cases a; cases b
      have : ByteArray.beq _ _ = true := Option.some.inj h
      unfold ByteArray.beq at this
      simpa using this
    rw [e]
  · simp at h; rw [h]
  · cases h
def EsRel (ρ : Ren) (es es' : List MapEntry) : Prop := es.length = es'.length ∧ ∀ (i : Nat) (e e' : MapEntry), es[i]? = some e → es'[i]? = some e' → ERel ρ e e'
theorem EsRel.tail {e e' : MapEntry} {es es' : List MapEntry} (h : EsRel ρ (e :: es) (e' :: es')) : ERel ρ e e' ∧ EsRel ρ es es' :=
  ⟨h.2 0 e e' rfl rfl, by have := h.1; simpa using this, fun i a b p q => h.2 (i + 1) a b (by simpa using p) (by simpa using q)⟩
theorem findNow_rel {kd : TypeDesc} {k : Value} : ∀ (es es' : List MapEntry) (i : Nat) (r : Option (Nat × Value)), EsRel ρ es es' → Instr.findNow kd k es i = some r →
    (r = none ∧ Instr.findNow kd k es' i = some none) ∨ (∃ j v v' e e', r = some (j, v) ∧ Instr.findNow kd k es' i = some (some (j, v')) ∧ VRel ρ v v' ∧ i ≤ j ∧ es[j - i]? = some e ∧ es'[j - i]? = some e' ∧ e.key = k ∧ e'.key = k)
  | [], es', i, r, h, hf => by
    cases es' with
    | nil => simp only [Instr.findNow, Option.some.injEq] at hf; exact .inl ⟨hf.symm, rfl⟩
    | cons e' es' => have := h.1; simp at this
  | e :: es, es', i, r, h, hf => by
    cases es' with
    | nil => have := h.1; simp at this
    | cons e' es' =>
      obtain ⟨h1, h2⟩ := h.tail
      simp only [Instr.findNow] at hf ⊢
      cases hs : Instr.sameNow kd k e.key with
      | none => rw [hs] at hf; cases hf
      | some b =>
        rw [hs] at hf
        rw [sameNow_rel hs h1.key]
        cases b with
        | true =>
          simp only [Option.some.injEq] at hf
          subst hf
          exact .inr ⟨i, e.val, e'.val, e, e', rfl, rfl, h1.val, Nat.le_refl _, by simp, by simp, sameNow_true hs, sameNow_true (sameNow_rel hs h1.key)⟩
        | false =>
          dsimp only at hf ⊢
          rcases findNow_rel es es' (i + 1) r h2 hf with ⟨p, q⟩ | ⟨j, v, v', a, a', p, q, s, t, u, x, y, z⟩
          · exact .inl ⟨p, q⟩
          · refine .inr ⟨j, v, v', a, a', p, q, s, by omega, ?_, ?_, y, z⟩
            · rw [show j - i = (j - (i + 1)) + 1 by omega]; simpa using u
            · rw [show j - i = (j - (i + 1)) + 1 by omega]; simpa using x
theorem findKey_run {kt : TypeId} {kd : TypeDesc} {k : Value} {es : List MapEntry} {r : Option (Nat × Value)} (hu : P.underlying kt = some kd) (h : Instr.findNow kd k es 0 = some r) (w : World) :
    (Instr.findKey kt k es).run P w = .ok r w := by
  unfold Instr.findKey
  rw [Sem.run_bind, underlying_run hu]
  simp only [Result.andThen_ok, h]; rfl
def mapOf (mem : Nat → Option Obj) : Value → Option (Array MapEntry)
  | .map none => some #[]
  | .map (some r) => match mem r with
    | some (.map es _) => some es
    | _ => none
  | _ => none
def zeroG (P : Program) (t : TypeId) : Option Value := match P.info? t with
  | some i => match i.zero with
    | some z => if ground z then some z else none
    | none => none
  | none => none
theorem zeroG_run {t : TypeId} {z : Value} (h : zeroG P t = some z) (w : World) : (Go.zeroValue t).run P w = .ok z w ∧ ground z = true := by
  unfold zeroG at h
  split at h
  · rename_i i hi
    split at h
    · rename_i z' hz
      split at h
      · rename_i hg
        injection h with h; subst h
        refine ⟨?_, hg⟩
        unfold Go.zeroValue Go.typeInfo
        simp [hi, hz]
      · cases h
    · cases h
  · cases h
def evLookup (P : Program) (mem : Nat → Option Obj) (t : TypeId) (m k : Value) (ok : Bool) : Option Value :=
  match P.underlying t with
  | some (.map kt et) =>
    match P.underlying kt, mapOf mem m with
    | some kd, some es =>
      if keyKind kd k then
        match Instr.findNow kd k es.toList 0 with
        | some (some (_, v)) => some (if ok then .tuple #[v, .bool true] else v)
        | some none => match zeroG P et with
          | some z => some (if ok then .tuple #[z, .bool false] else z)
          | none => none
        | none => none
      else none
    | _, _ => none
  | _ => none
theorem pair_rel {v v' : Value} (h : VRel ρ v v') (b ok : Bool) : VRel ρ (if ok then .tuple #[v, .bool b] else v) (if ok then .tuple #[v', .bool b] else v') := by
  cases ok
  · exact h
  · refine .tuple rfl (fun i a a' p q => ?_)
    match i with
    | 0 => simp at p q; subst p; subst q; exact h
    | 1 => simp at p q; subst p; subst q; exact .bool b
    | n + 2 => simp at p
theorem evLookup_ok {wA w0 : World} {t : TypeId} {m m' k v : Value} {ok : Bool} (he : evLookup P (fun b => wA.heap[b]?) t m k ok = some v) (hr : WRel P base ρ wA w0) (hm : VRel ρ m m') :
    ∃ v', (Instr.lookup t m' k ok).run P w0 = .ok v' w0 ∧ VRel ρ v v' := by
  unfold evLookup at he
  split at he
  case h_2 => cases he
  rename_i kt et hu
  split at he
  case h_2 => cases he
  rename_i kd es hk hmo
  split at he
  case isFalse => cases he
  rename_i hkk
  have hes : ∃ es', EsRel ρ es.toList es'.toList ∧ ∀ {β : Type} (f : Array MapEntry → Sem β), (match m' with
      | Value.map none => Pure.pure #[] >>= f
      | Value.map (some r) => Go.getObj r >>= fun o => (match o with | Obj.map es _ => Pure.pure es >>= f | _ => Go.stuck "Lookup: map expected" >>= f)
      | _ => Go.stuck "Lookup: map expected" >>= f).run P w0 = (f es').run P w0 := by
    unfold mapOf at hmo
    cases hm with
    | nilMap =>
      simp only [Option.some.injEq] at hmo
      subst hmo
      exact ⟨#[], ⟨rfl, fun i e e' a => by simp at a⟩, fun f => rfl⟩
    | @map r x hb =>
      dsimp only at hmo
      split at hmo
      case h_2 => cases hmo
      rename_i es0 cl hA
      injection hmo with hmo
      subst hmo
      obtain ⟨o', h1, h2⟩ := hr.obj r _ x hA rfl hb
      cases h2 with
      | @map _ es' _ hs hh =>
        refine ⟨es', ⟨by simpa using hs, fun i e e' a b => hh i e e' (by simpa using a) (by simpa using b)⟩, fun f => ?_⟩
        dsimp only
        rw [Sem.run_bind, getObj_run h1 (fun _ _ _ h => by cases h)]
        rfl
    | _ => simp at hmo
  obtain ⟨es', hes, hrun⟩ := hes
  unfold Instr.lookup
  rw [Sem.run_bind, underlying_run hu]
  simp only [Result.andThen_ok]
  have hrun' := fun (f : Array MapEntry → Sem Value) => hrun f
  have key : ∀ (r : Option (Nat × Value)), Instr.findNow kd k es'.toList 0 = some r → ∀ (f : Option (Nat × Value) → Sem Value), (Instr.checkKey es'.isEmpty 10000 kt k >>= fun _ => Instr.findKey kt k es'.toList >>= f).run P w0 = (f r).run P w0 := by
    intro r hf f
    rw [Sem.run_bind, checkKey_run hk hkk]
    simp only [Result.andThen_ok]
    rw [Sem.run_bind, findKey_run hk hf]
    rfl
  cases hfn : Instr.findNow kd k es.toList 0 with
  | none => rw [hfn] at he; cases he
  | some r =>
    rw [hfn] at he
    rcases findNow_rel _ _ 0 r hes hfn with ⟨rfl, q⟩ | ⟨j, u, u', e, e', rfl, q, s, _⟩
    · dsimp only at he
      cases hz : zeroG P et with
      | none => rw [hz] at he; cases he
      | some z =>
        rw [hz] at he
        injection he with he
        subst he
        obtain ⟨hz1, hz2⟩ := zeroG_run hz w0
        refine ⟨_, ?_, pair_rel (ground_rel hz2) false ok⟩
        refine (hrun' _).trans ?_
        refine (key _ q _).trans ?_
        dsimp only
        rw [Sem.run_bind, hz1]
        rfl
    · dsimp only at he
      injection he with he
      subst he
      refine ⟨_, ?_, pair_rel s true ok⟩
      refine (hrun' _).trans ?_
      refine (key _ q _).trans ?_
      rfl

theorem same_self {kd : TypeDesc} {k : Value} (h : keyKind kd k = true) : Instr.sameBits 10000 k k = true := by
  cases kd <;> cases k <;> simp [keyKind] at h
  · simp [Instr.sameBits]
  · simp [Instr.sameBits]
  · show ByteArray.beq _ _ = true
    unfold ByteArray.beq; simp
/-- a store into a map. -/
def evUpdate (P : Program) (fl : Nat) (mem : Nat → Option Obj) (t : TypeId) (m k v : Value) : Option (Nat × Obj) :=
  match P.underlying t, m with
  | some (.map kt _), .map (some r) =>
    match P.underlying kt, mem r with
    | some kd, some (.map es clock) =>
      if fl ≤ r ∧ keyKind kd k = true then
        match Instr.findNow kd k es.toList 0 with
        | some (some (i, _)) => some (r, .map (es.modify i fun e => { e with key := k, val := v }) clock)
        | some none => some (r, .map (es.push { key := k, val := v, born := clock }) (clock + 1))
        | none => none
      else none
    | _, _ => none
  | _, _ => none
theorem evUpdate_ok {wA w : World} {t : TypeId} {m m' k v v' : Value} {r0 : Nat} {o0 : Obj} (he : evUpdate P fl (fun b => wA.heap[b]?) t m k v = some (r0, o0)) (hr : WRel P base ρ wA w) (hm : VRel ρ m m') (hv : VRel ρ v v') :
    ∃ w', (Instr.mapUpdate t m' k v').run P w = .ok () w' ∧ Stp P base fl ρ wA w ρ { wA with heap := wA.heap.setIfInBounds r0 o0 } w' := by
  unfold evUpdate at he
  split at he
  case h_2 => cases he
  rename_i kt et r hu
  split at he
  case h_2 => cases he
  rename_i kd es clock hk hA
  split at he
  case isFalse => cases he
  rename_i hc
  obtain ⟨hfr, hkk⟩ := hc
  cases hm with
  | @map _ x hb =>
    obtain ⟨o', h1, h2⟩ := hr.obj r _ x hA rfl hb
    cases h2 with
    | @map _ es' _ hs hh =>
      have hes : EsRel ρ es.toList es'.toList := ⟨by simpa using hs, fun i e e' a b => hh i e e' (by simpa using a) (by simpa using b)⟩
      have hgk : VRel ρ k k := by
        cases kd <;> cases k <;> simp [keyKind] at hkk <;> constructor
      unfold Instr.mapUpdate
      rw [Sem.run_bind, underlying_run hu]
      simp only [Result.andThen_ok]
      rw [Sem.run_bind, getObj_run h1 (fun _ _ _ h => by cases h)]
      simp only [Result.andThen_ok]
      rw [Sem.run_bind, checkKey_run hk hkk]
      simp only [Result.andThen_ok]
      cases hfn : Instr.findNow kd k es.toList 0 with
      | none => rw [hfn] at he; cases he
      | some q =>
        rw [hfn] at he
        rcases findNow_rel _ _ 0 q hes hfn with ⟨rfl, q2⟩ | ⟨j, u, u', e, e', rfl, q2, hs2, _, ge, ge', ke, ke'⟩
        · injection he with he
          injection he with he1 he2
          subst he1; subst he2
          rw [Sem.run_bind, findKey_run hk q2]
          simp only [Result.andThen_ok]
          refine ⟨_, setObj_run h1 (fun _ _ _ h => by cases h), Stp.put hr hfr hb hA rfl (heap_set _ hA) (heap_set _ h1) (by simp) (by simp) rfl rfl rfl (.map (by simp [hs]) ?_)⟩
          intro i a a' p q
          rw [Array.getElem?_push] at p q
          rw [← hs] at q
          split at p
          · rw [if_pos ‹_›] at q; injection p with p; injection q with q; subst p; subst q
            exact ⟨hgk, hv, rfl⟩
          · rw [if_neg ‹_›] at q; exact hh i a a' p q
        · injection he with he
          injection he with he1 he2
          subst he1; subst he2
          rw [Sem.run_bind, findKey_run hk q2]
          simp only [Result.andThen_ok]
          have hkey : ((es'[j]?).map (·.key)).getD k = k := by
            simp only [Nat.sub_zero, Array.getElem?_toList] at ge'
            rw [ge']; exact ke'
          rw [hkey, Sem.run_bind]
          have hstay : (Instr.keyThatStays k k).run P w = .ok k w := by
            unfold Instr.keyThatStays
            rw [if_pos (same_self hkk)]; rfl
          rw [hstay]
          simp only [Result.andThen_ok]
          refine ⟨_, setObj_run h1 (fun _ _ _ h => by cases h), Stp.put hr hfr hb hA rfl (heap_set _ hA) (heap_set _ h1) (by simp) (by simp) rfl rfl rfl (.map (by simp [hs]) ?_)⟩
          intro i a a' p q
          rw [Array.getElem?_modify] at p q
          by_cases hij : j = i
          · subst hij
            rw [if_pos rfl] at p q
            simp only [Nat.sub_zero, Array.getElem?_toList] at ge ge'
            rw [ge] at p; rw [ge'] at q
            simp only [Option.map_some, Option.some.injEq] at p q
            subst p; subst q
            exact ⟨hgk, hv, (hh j e e' ge ge').born⟩
          · rw [if_neg hij] at p q
            exact hh i a a' p q
def evLen (P : Program) (mem : Nat → Option Obj) (t : TypeId) (x : Value) : Option Value :=
  match P.underlying t, x with
  | some .string, .string s => some (goInt s.size)
  | some (.slice _), .slice _ n _ => some (goInt n)
  | some (.array n _), _ => some (goInt n)
  | some (.map _ _), m => (mapOf mem m).map fun es => goInt es.size
  | _, _ => none
theorem evLen_ok {wA w : World} {t ty : TypeId} {x x' v : Value} (he : evLen P (fun b => wA.heap[b]?) t x = some v) (hr : WRel P base ρ wA w) (hx : VRel ρ x x') :
    (Builtin.len_ #[t] ty #[x']).run P w = .ok v w ∧ gcell v = true := by
  unfold evLen at he
  split at he
  · rename_i hu
    injection he with he; subst he
    cases hx
    exact ⟨by simp [Builtin.len_, run_underlying hu], rfl⟩
  · rename_i hu
    injection he with he; subst he
    refine ⟨?_, rfl⟩
    cases hx <;> simp [Builtin.len_, run_underlying hu]
  · rename_i hu
    injection he with he; subst he
    exact ⟨by simp [Builtin.len_, run_underlying hu], rfl⟩
  · rename_i hu
    cases hx with
    | nilMap =>
      simp [mapOf] at he
      subst he
      exact ⟨by simp [Builtin.len_, run_underlying hu], rfl⟩
    | @map r x hb =>
      unfold mapOf at he
      dsimp only at he
      split at he
      · rename_i es cl hA
        simp only [Option.map_some, Option.some.injEq] at he
        subst he
        obtain ⟨o', h1, h2⟩ := hr.obj r _ x hA rfl hb
        cases h2 with
        | @map _ es' _ hs hh =>
          refine ⟨?_, rfl⟩
          simp [Builtin.len_, run_underlying hu, getObj_run h1 (fun _ _ _ h => by cases h), hs]
      · cases he
    | _ => simp [mapOf] at he
  · cases he
/-- the next character of a text. -/
def evNext (fl : Nat) (mem : Nat → Option Obj) (it : Value) : Option (Value × Option (Nat × Obj)) :=
  match it with
  | .pointer (some ⟨r, 0, none⟩) =>
    match mem r with
    | some (.stringIter s pos) =>
      if fl ≤ r then
        if pos < s.size then
          some (.tuple #[.bool true, goInt pos, .int .i32 (Utf8.decode s pos).1], some (r, .stringIter s (pos + (Utf8.decode s pos).2)))
        else some (.tuple #[.bool false], none)
      else none
    | _ => none
  | _ => none
theorem tup_rel {cs : List Value} (h : ∀ v ∈ cs, gcell v = true) : VRel ρ (.tuple cs.toArray) (.tuple cs.toArray) :=
  ground_rel (by show cs.toArray.all gcell = true; rw [Array.all_eq_true_iff_forall_mem]; intro x hx; exact h x (by simpa using hx))
def putO (w : World) : Option (Nat × Obj) → World
  | none => w
  | some (r, o) => { w with heap := w.heap.setIfInBounds r o }
theorem evNext_ok {wA w : World} {ty : TypeId} {it it' v : Value} {u : Option (Nat × Obj)} (he : evNext fl (fun b => wA.heap[b]?) it = some (v, u)) (hr : WRel P base ρ wA w) (hi : VRel ρ it it') :
    ∃ v' w', (Instr.next it' true ty).run P w = .ok v' w' ∧ VRel ρ v v' ∧ Stp P base fl ρ wA w ρ (putO wA u) w' := by
  unfold evNext at he
  split at he
  case h_2 => cases he
  rename_i r
  split at he
  case h_2 => cases he
  rename_i s pos hA
  split at he
  case isFalse => cases he
  rename_i hfr
  cases hi with
  | @ptr _ _ x hb =>
    obtain ⟨o', h1, h2⟩ := hr.obj r _ x hA rfl hb
    cases h2 with
    | iter _ _ hsh =>
      rw [hsh]
      unfold Instr.next
      split at he
      · rename_i hlt
        injection he with he
        injection he with e1 e2
        subst e1; subst e2
        refine ⟨.tuple #[.bool true, goInt pos, .int .i32 (Utf8.decode s pos).1], { w with heap := w.heap.setIfInBounds x.blk (.stringIter s (pos + (Utf8.decode s pos).2)) }, ?_, tup_rel (cs := [.bool true, goInt pos, .int .i32 (Utf8.decode s pos).1]) (by simp [gcell, goInt]), ?_⟩
        · show (Go.getObj x.blk >>= _).run P w = _
          rw [Sem.run_bind, getObj_run h1 (fun _ _ _ h => by cases h)]
          simp only [Result.andThen_ok, hlt, if_true]
          show (Go.setObj x.blk _ >>= _).run P w = _
          rw [Sem.run_bind, setObj_run h1 (fun _ _ _ h => by cases h)]
          rfl
        · exact Stp.put hr hfr hb hA rfl (heap_set _ hA) (heap_set _ h1) (by simp [putO]) (by simp) rfl rfl rfl (.iter _ _ hsh)
      · rename_i hlt
        injection he with he
        injection he with e1 e2
        subst e1; subst e2
        refine ⟨.tuple #[.bool false], w, ?_, tup_rel (cs := [.bool false]) (by simp [gcell]), .refl hr⟩
        show (Go.getObj x.blk >>= _).run P w = _
        rw [Sem.run_bind, getObj_run h1 (fun _ _ _ h => by cases h)]
        simp only [Result.andThen_ok, hlt, if_false]
        rfl
end
end Go.Proofs.Ytlhkkbdfdkjlcaa.Ev

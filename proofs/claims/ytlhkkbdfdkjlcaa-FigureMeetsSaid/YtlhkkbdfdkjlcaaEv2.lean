/- An evaluator of closed calls, proved right. Part 2: memory. -/
import Derived.Test.YtlhkkbdfdkjlcaaEv1
import Derived.Laws.NewFold
set_option linter.unusedVariables false
set_option linter.unusedSimpArgs false
namespace Go.Proofs.Ytlhkkbdfdkjlcaa.Ev
open Go
section
variable {P : Program} {base fl : Nat} {ρ : Ren}

theorem ORel.aliveL {x : Img} {o o' : Obj} (h : ORel P ρ x o o') : alive o = true := by cases h <;> rfl

theorem WRel.put {wA w wA' w' : World} (h : WRel P base ρ wA w) {b : Nat} {x : Img} {o o1 o1' : Obj} (hb : ρ b = some x) (ho : wA.heap[b]? = some o) (ha : alive o = true)
    (hA : ∀ k, wA'.heap[k]? = if k = b then some o1 else wA.heap[k]?) (hw : ∀ k, w'.heap[k]? = if k = x.blk then some o1' else w.heap[k]?)
    (hs : wA'.heap.size = wA.heap.size) (hs' : w'.heap.size = w.heap.size) (hr : ORel P ρ x o1 o1') : WRel P base ρ wA' w' where
  low := by have := h.low; omega
  dom b' x' e := by have := h.dom b' x' e; omega
  obj b' o' x' e1 e2 e3 := by
    rw [hA] at e1
    by_cases hbb : b' = b
    · subst hbb
      rw [if_pos rfl] at e1
      injection e1 with e1
      rw [hb] at e3
      injection e3 with e3
      subst e3; subst e1
      exact ⟨o1', by rw [hw, if_pos rfl], hr⟩
    · rw [if_neg hbb] at e1
      obtain ⟨o2, h2, h3⟩ := h.obj b' o' x' e1 e2 e3
      have hne : x'.blk ≠ x.blk := fun e => hbb (h.inj b' b o' o x' x e1 e2 ho ha e3 hb e)
      exact ⟨o2, by rw [hw, if_neg hne]; exact h2, h3⟩
  inj b1 b2 o1_ o2_ x1 x2 e1 a1 e2 a2 r1 r2 hx := by
    have key : ∀ (b' : Nat) (o' : Obj), wA'.heap[b']? = some o' → alive o' = true → ∃ o'', wA.heap[b']? = some o'' ∧ alive o'' = true := by
      intro b' o' e1 e2
      rw [hA] at e1
      by_cases hbb : b' = b
      · subst hbb; exact ⟨o, ho, ha⟩
      · rw [if_neg hbb] at e1; exact ⟨o', e1, e2⟩
    obtain ⟨p1, q1, q2⟩ := key b1 o1_ e1 a1
    obtain ⟨p2, q3, q4⟩ := key b2 o2_ e2 a2
    exact h.inj b1 b2 p1 p2 x1 x2 q1 q2 q3 q4 r1 r2 hx

theorem Stp.put {wA w wA' w' : World} (h : WRel P base ρ wA w) {b : Nat} {x : Img} {o o1 o1' : Obj} (hf : fl ≤ b) (hb : ρ b = some x) (ho : wA.heap[b]? = some o) (ha : alive o = true)
    (hA : ∀ k, wA'.heap[k]? = if k = b then some o1 else wA.heap[k]?) (hw : ∀ k, w'.heap[k]? = if k = x.blk then some o1' else w.heap[k]?)
    (hs : wA'.heap.size = wA.heap.size) (hs' : w'.heap.size = w.heap.size) (h1 : w'.os = w.os) (h2 : w'.tape = w.tape) (h3 : w'.output = w.output) (hr : ORel P ρ x o1 o1') :
    Stp P base fl ρ wA w ρ wA' w' where
  le := .refl _
  rel := h.put hb ho ha hA hw hs hs' hr
  new _ _ e := .inl e
  sizeA := by omega
  size := by omega
  os := h1
  tape := h2
  output := h3
  keepA k hk := by rw [hA, if_neg (by omega)]
  keep k hk hn := by rw [hw, if_neg (fun e => hn b x hf hb e.symm)]

theorem WRel.new {wA w : World} (h : WRel P base ρ wA w) (hfl : fl ≤ wA.heap.size) {o o' : Obj} {x : Img} (hx : x.blk = w.heap.size) (hr : alive o = true → ORel P (fun k => if k = wA.heap.size then some x else ρ k) x o o') :
    Stp P base fl ρ wA w (fun k => if k = wA.heap.size then some x else ρ k) (wA.alloc o) (w.alloc o') := by
  have hle : ρ.Le (fun k => if k = wA.heap.size then some x else ρ k) := fun b y e => by
    have := (h.dom b y e).1
    show (if b = wA.heap.size then some x else ρ b) = some y
    rw [if_neg (by omega)]; exact e
  have hgA : ∀ k, (wA.alloc o).heap[k]? = if k = wA.heap.size then some o else wA.heap[k]? := fun k => by
    show (wA.heap.push o)[k]? = _; rw [Array.getElem?_push]
  have hg : ∀ k, (w.alloc o').heap[k]? = if k = w.heap.size then some o' else w.heap[k]? := fun k => by
    show (w.heap.push o')[k]? = _; rw [Array.getElem?_push]
  have hsA : (wA.alloc o).heap.size = wA.heap.size + 1 := Array.size_push _
  have hs : (w.alloc o').heap.size = w.heap.size + 1 := Array.size_push _
  refine ⟨hle, ⟨by have := h.low; omega, ?_, ?_, ?_⟩, ?_, by omega, by omega, rfl, rfl, rfl, ?_, ?_⟩
  · intro b y e
    rw [hsA, hs]
    by_cases hb : b = wA.heap.size
    · rw [if_pos hb] at e; injection e with e; subst e; have := h.low; omega
    · rw [if_neg hb] at e; have := h.dom b y e; omega
  · intro b oo y e1 e2 e3
    rw [hgA] at e1
    by_cases hb : b = wA.heap.size
    · rw [if_pos hb] at e1 e3
      injection e1 with e1; injection e3 with e3
      subst e1; subst e3
      exact ⟨o', by rw [hg, if_pos hx], hr e2⟩
    · rw [if_neg hb] at e1 e3
      obtain ⟨o2, p, q⟩ := h.obj b oo y e1 e2 e3
      have hlt := (h.dom b y e3).2.2
      exact ⟨o2, by rw [hg, if_neg (by omega)]; exact p, q.mono hle⟩
  · intro b1 b2 o1 o2 x1 x2 e1 a1 e2 a2 r1 r2 hxx
    rw [hgA] at e1 e2
    by_cases h1 : b1 = wA.heap.size <;> by_cases h2 : b2 = wA.heap.size
    · omega
    · rw [if_pos h1] at r1; rw [if_neg h2] at r2
      injection r1 with r1; subst r1
      have := (h.dom b2 x2 r2).2.2; omega
    · rw [if_neg h1] at r1; rw [if_pos h2] at r2
      injection r2 with r2; subst r2
      have := (h.dom b1 x1 r1).2.2; omega
    · rw [if_neg h1] at r1 e1; rw [if_neg h2] at r2 e2
      exact h.inj b1 b2 o1 o2 x1 x2 e1 a1 e2 a2 r1 r2 hxx
  · intro b y e
    by_cases hb : b = wA.heap.size
    · rw [if_pos hb] at e; injection e with e; subst e; exact .inr ⟨by omega, .inl (by omega)⟩
    · rw [if_neg hb] at e; exact .inl e
  · intro b hb
    rw [hgA]
    rw [if_neg (by omega)]
  · intro k hk _
    rw [hg, if_neg (by omega)]

theorem cell_of {w : World} {b o : Nat} {v : Value} (h : w.cell? ⟨b, o, none⟩ = some v) : ∃ c t fr, w.heap[b]? = some (.cells c t fr) ∧ c[o]? = some v := by
  unfold World.cell? at h
  split at h
  · rename_i c t fr he
    simp only [Option.isSome_none, Bool.false_eq_true, if_false] at h
    exact ⟨c, t, fr, he, h⟩
  · cases h
theorem cell_mk {w : World} {b o : Nat} {v : Value} {c : Array Value} {t : TypeId} {fr : Nat × Nat} (h : w.heap[b]? = some (.cells c t fr)) (hv : c[o]? = some v) : w.cell? ⟨b, o, none⟩ = some v := by
  unfold World.cell?
  rw [h]
  simpa using hv

/-- What lies at an address that the great world has, too. -/
theorem WRel.at {wA w : World} (h : WRel P base ρ wA w) {b o : Nat} {x : Img} (hb : ρ b = some x) {v : Value} (hc : wA.cell? ⟨b, o, none⟩ = some v) :
    ∃ v', w.cell? ⟨x.blk, o + x.shift, none⟩ = some v' ∧ VRel ρ v v' := by
  obtain ⟨c, t, fr, h1, h2⟩ := cell_of hc
  obtain ⟨o', h3, h4⟩ := h.obj b _ x h1 rfl hb
  cases h4 with
  | cells ht hs hz hh =>
    obtain ⟨v', a, r⟩ := hh o v h2
    exact ⟨v', cell_mk h3 a, r⟩
/-- A block of the small world that is there and known is no view. -/
theorem WRel.noFar {wA w : World} (h : WRel P base ρ wA w) {b o : Nat} {x : Img} (hb : ρ b = some x) (m : Bool) : ∃ e, wA.farLoad P ⟨b, o, none⟩ m = .error e := by
  unfold World.farLoad
  cases he : wA.heap[b]? with
  | none => exact ⟨_, rfl⟩
  | some ob =>
    cases ob with
    | view a t => obtain ⟨o', _, h4⟩ := h.obj b _ x he rfl hb; cases h4
    | _ => exact ⟨_, rfl⟩
theorem WRel.noFarS {wA w : World} (h : WRel P base ρ wA w) {b o : Nat} {x : Img} (hb : ρ b = some x) (v : Value) (m : Bool) : ∃ e, wA.farStore P ⟨b, o, none⟩ v m = .error e := by
  unfold World.farStore
  cases he : wA.heap[b]? with
  | none => exact ⟨_, rfl⟩
  | some ob =>
    cases ob with
    | view a t => obtain ⟨o', _, h4⟩ := h.obj b _ x he rfl hb; cases h4
    | _ => exact ⟨_, rfl⟩

theorem Sim.load {b o : Nat} {x : Img} (hb : ρ b = some x) : Sim P base fl VRel ρ (Go.load ⟨b, o, none⟩) (Go.load ⟨x.blk, o + x.shift, none⟩) := by
  intro wA w v wA' hr hf e
  rw [run_load] at e
  cases hc : wA.cell? ⟨b, o, none⟩ with
  | none =>
    obtain ⟨er, he⟩ := hr.noFar hb (o := o) (Mode.plain == .atomic)
    rw [hc] at e
    simp only [he] at e
    cases e
  | some u =>
    rw [hc] at e
    simp only [Result.ok.injEq] at e
    obtain ⟨rfl, rfl⟩ := e
    obtain ⟨v', h1, h2⟩ := hr.at hb hc
    exact ⟨ρ, v', w, by rw [run_load, h1], h2, .refl hr⟩

theorem VRel.one {v v' : Value} (h : VRel ρ v v') : v.oneCell' = v'.oneCell' := by cases h <;> rfl

theorem heap_setCell {w : World} {b o : Nat} {v : Value} {c : Array Value} {t : TypeId} {fr : Nat × Nat} (h : w.heap[b]? = some (.cells c t fr)) (k : Nat) :
    (w.setCell ⟨b, o, none⟩ v).heap[k]? = if k = b then some (.cells (c.setIfInBounds o v) t fr) else w.heap[k]? := by
  simp only [World.setCell, Array.getElem?_modify]
  by_cases e : k = b
  · subst e; simp [h]
  · rw [if_neg (fun h => e h.symm), if_neg e]
theorem size_setCell {w : World} {a : Addr} {v : Value} : (w.setCell a v).heap.size = w.heap.size := by simp [World.setCell]

theorem Sim.store {b o : Nat} {x : Img} (hb : ρ b = some x) (hfb : fl ≤ b) {v v' : Value} (hv : VRel ρ v v') :
    Sim P base fl (fun _ _ _ => True) ρ (Go.store ⟨b, o, none⟩ v) (Go.store ⟨x.blk, o + x.shift, none⟩ v') := by
  intro wA w u wA' hr hf e
  by_cases h1 : v.oneCell' = true
  · have h1' : v'.oneCell' = true := by rw [← hv.one]; exact h1
    rw [run_store _ _ _ _ _ h1] at e
    cases hc : wA.cell? ⟨b, o, none⟩ with
    | none =>
      obtain ⟨er, he⟩ := hr.noFarS hb (o := o) v (Mode.plain == .atomic)
      rw [hc] at e
      simp only [he] at e
      cases e
    | some y =>
      obtain ⟨c, t, fr, h2, h3⟩ := cell_of hc
      obtain ⟨o', h4, h5⟩ := hr.obj b _ x h2 rfl hb
      cases h5 with
      | @cells _ c' _ ht hs hz hh =>
        obtain ⟨y', h6, h7⟩ := hh o y h3
        have hfz : ∀ (W : World) (a : Addr) (cc : Array Value) (tt : TypeId), W.heap[a.block]? = some (.cells cc tt (0, 0)) → W.frozen? a = false := fun W a cc tt hW => by
          unfold World.frozen?; rw [hW]; simp
        rw [hc] at e
        simp only [hfz wA ⟨b, o, none⟩ _ _ h2, Bool.false_eq_true, if_false, Result.ok.injEq] at e
        obtain ⟨_, rfl⟩ := e
        refine ⟨ρ, (), w.setCell ⟨x.blk, o + x.shift, none⟩ v', ?_, trivial, ?_⟩
        · rw [run_store _ _ _ _ _ h1', cell_mk h4 h6]
          simp only [hfz w ⟨x.blk, o + x.shift, none⟩ _ _ h4, Bool.false_eq_true, if_false]
        · refine Stp.put hr hfb hb h2 rfl (heap_setCell h2) (heap_setCell h4) size_setCell size_setCell rfl rfl rfl ?_
          refine .cells (by simpa using ht) (by simpa using hs) hz (fun i z hi => ?_)
          rw [Array.getElem?_setIfInBounds] at hi
          by_cases hio : o = i
          · subst hio
            rw [if_pos rfl, if_pos (Array.getElem?_eq_some_iff.1 h3).1] at hi
            injection hi with hi
            subst hi
            exact ⟨v', by rw [Array.getElem?_setIfInBounds, if_pos rfl, if_pos (Array.getElem?_eq_some_iff.1 h6).1], hv⟩
          · rw [if_neg hio] at hi
            obtain ⟨z', p, q⟩ := hh i z hi
            exact ⟨z', by rw [Array.getElem?_setIfInBounds, if_neg (by omega)]; exact p, q⟩
  · exfalso
    cases v <;> simp [Value.oneCell'] at h1 <;> simp [Go.store, Sem.run] at e

theorem add_zero (a : Addr) : a.add 0 = a := rfl
theorem add_off (b o n : Nat) : Addr.add ⟨b, o, none⟩ n = ⟨b, o + n, none⟩ := by
  unfold Addr.add
  split
  · subst_vars; rfl
  · rfl

theorem Sim.loadCellsFrom {b o : Nat} {x : Img} : ∀ (n i : Nat) (acc acc' : Array Value) (ρ : Ren) (hb : ρ b = some x), ARel ρ acc acc' →
    Sim P base fl ARel ρ (Go.loadCellsFrom ⟨b, o, none⟩ i n acc) (Go.loadCellsFrom ⟨x.blk, o + x.shift, none⟩ i n acc')
  | 0, i, acc, acc', ρ, hb, h => Sim.pure h
  | n + 1, i, acc, acc', ρ, hb, h => by
    unfold Go.loadCellsFrom
    rw [add_off, add_off, show o + x.shift + i = o + i + x.shift by omega]
    exact (Sim.load hb).bind fun ρ' a a' hle ha => Sim.loadCellsFrom n (i + 1) _ _ ρ' (hle _ _ hb) ((h.mono hle).push ha)
theorem Sim.loadCells {b o : Nat} {x : Img} (hb : ρ b = some x) (n : Nat) : Sim P base fl ARel ρ (Go.loadCells ⟨b, o, none⟩ n) (Go.loadCells ⟨x.blk, o + x.shift, none⟩ n) :=
  Sim.loadCellsFrom n 0 #[] #[] ρ hb .empty

inductive LRel (ρ : Ren) : List Value → List Value → Prop
  | nil : LRel ρ [] []
  | cons {v v' : Value} {vs vs' : List Value} (h : VRel ρ v v') (k : LRel ρ vs vs') : LRel ρ (v :: vs) (v' :: vs')
theorem LRel.mono {ρ ρ' : Ren} (hρ : ρ.Le ρ') {xs ys : List Value} (h : LRel ρ xs ys) : LRel ρ' xs ys := by
  induction h with
  | nil => exact .nil
  | cons h _ ih => exact .cons (h.mono hρ) ih
theorem ARel.list {xs ys : Array Value} (h : ARel ρ xs ys) : LRel ρ xs.toList ys.toList := by
  obtain ⟨xs⟩ := xs
  obtain ⟨ys⟩ := ys
  obtain ⟨h1, h2⟩ := h
  simp only [List.size_toArray] at h1
  simp only [List.getElem?_toArray] at h2
  induction xs generalizing ys with
  | nil => cases ys with
    | nil => exact .nil
    | cons y ys => simp at h1
  | cons a xs ih => cases ys with
    | nil => simp at h1
    | cons y ys =>
      refine .cons (h2 0 a y rfl rfl) (ih ys (by simpa using h1) (fun i v v' p q => h2 (i + 1) v v' (by simpa using p) (by simpa using q)))
theorem Sim.storeCells {b o : Nat} {x : Img} (hfb : fl ≤ b) : ∀ (vs vs' : List Value) (i : Nat) (ρ : Ren) (hb : ρ b = some x), LRel ρ vs vs' →
    Sim P base fl (fun _ _ _ => True) ρ (Go.storeCells ⟨b, o, none⟩ vs i) (Go.storeCells ⟨x.blk, o + x.shift, none⟩ vs' i)
  | [], _, i, ρ, hb, h => by
    cases h
    exact Sim.pure trivial
  | v :: vs, _, i, ρ, hb, h => by
    cases h with
    | cons hv hs =>
      unfold Go.storeCells
      rw [add_off, add_off, show o + x.shift + i = o + i + x.shift by omega]
      exact (Sim.store hb hfb hv).bind fun ρ' _ _ hle _ => Sim.storeCells hfb vs _ (i + 1) ρ' (hle _ _ hb) (LRel.mono hle hs)

/-- Where a fresh row lies. -/
def Fresh (sz : Nat) (n : Nat) (ρ : Ren) (a a' : Addr) : Prop := ∃ b x, a = ⟨b, 0, none⟩ ∧ a' = ⟨x.blk, 0, none⟩ ∧ ρ b = some x ∧ x.shift = 0 ∧ x.sz = sz ∧ x.tot = n
theorem Fresh.ptr {sz n : Nat} {a a' : Addr} (h : Fresh sz n ρ a a') : VRel ρ (.pointer (some a)) (.pointer (some a')) := by
  obtain ⟨b, x, rfl, rfl, hb, hs, _⟩ := h
  have := VRel.ptr (o := 0) hb
  rw [hs] at this
  exact this
theorem Sim.newObj {wo : Ren → Obj → Obj → Img → Prop} {o o' : Obj} {x : Img}
    (h : ∀ ρ' y, ρ.Le ρ' → y.shift = x.shift → y.tot = x.tot → y.sz = x.sz → alive o = true → ORel P ρ' y o o') :
    Sim P base fl (fun ρ' n n' => ∃ y, ρ' n = some y ∧ y.blk = n' ∧ y.shift = x.shift ∧ y.tot = x.tot ∧ y.sz = x.sz) ρ (Go.newObj o) (Go.newObj o') := by
  intro wA w n wA' hr hf e
  rw [run_newObj_alloc] at e
  injection e with e1 e2
  subst e1; subst e2
  have hs := WRel.new (P := P) (base := base) (fl := fl) (o := o) (o' := o') (x := { x with blk := w.heap.size }) hr hf rfl
    (fun ha => h _ _ (fun b y e => by
      have := (hr.dom b y e).1
      show (if b = wA.heap.size then _ else ρ b) = some y
      rw [if_neg (by omega)]; exact e) rfl rfl rfl ha)
  exact ⟨_, w.heap.size, w.alloc o', run_newObj_alloc _ _ _, ⟨{ x with blk := w.heap.size }, if_pos rfl, rfl, rfl, rfl, rfl⟩, hs⟩
theorem Sim.newRow {t : TypeId} {sz : Nat} (hz : (P.info? t).map (·.size) = some sz) {cs cs' : Array Value} (hc : ARel ρ cs cs') :
    Sim P base fl (Fresh sz cs'.size) ρ (Go.newRow t cs) (Go.newRow t cs') := by
  unfold Go.newRow
  refine (Sim.newObj (x := ⟨0, 0, cs'.size, sz⟩) (wo := fun _ _ _ _ => True) ?_).bind ?_
  · intro ρ' y hle h1 h2 h3 _
    refine .cells h2.symm (by rw [h1, h2, hc.1]; exact Nat.le_of_eq (Nat.zero_add _)) (by rw [h3]; exact hz) (fun i v hi => ?_)
    obtain ⟨v', a, b⟩ := hc.get hi
    exact ⟨v', by rw [h1]; exact a, b.mono hle⟩
  · rintro ρ' n n' hle ⟨y, h1, h2, h3, h4, h5⟩
    exact Sim.pure ⟨n, y, rfl, by rw [h2], h1, h3, h5, h4⟩
theorem info_size {t : TypeId} {n : Nat} (h : ∀ w, (Go.sizeOf t).run P w = .ok n w) : (P.info? t).map (·.size) = some n := by
  have := h default
  unfold Go.sizeOf Go.typeInfo at this
  simp only [Sem.run_bind, run_program, Result.andThen_ok] at this
  split at this
  · rename_i i hi
    simp at this
    rw [hi]; simp [this]
  · simp at this
end
end Go.Proofs.Ytlhkkbdfdkjlcaa.Ev

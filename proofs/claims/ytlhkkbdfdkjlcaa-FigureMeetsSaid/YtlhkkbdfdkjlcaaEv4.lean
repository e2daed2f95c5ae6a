/- An evaluator of closed calls, proved right. Part 4: the single operations. -/
import Derived.Test.YtlhkkbdfdkjlcaaEv3
set_option linter.unusedVariables false
set_option linter.unusedSimpArgs false
namespace Go.Proofs.Ytlhkkbdfdkjlcaa.Ev
open Go
section
variable {P : Program} {base fl : Nat} {ρ : Ren} {α β : Type}

/-- It never comes to an end in this way. -/
def Nev (P : Program) (s : Sem α) : Prop := ∀ w, ∃ h w', s.run P w = .halt h w'
theorem Nev.halt (h : Halt) : Nev P (Sem.halt h : Sem α) := fun w => ⟨h, w, rfl⟩
theorem Nev.bind {s : Sem α} {f : α → Sem β} (h : Nev P s) : Nev P (s >>= f) := fun w => by
  obtain ⟨x, y, e⟩ := h w
  exact ⟨x, y, by rw [Sem.run_bind, e]; rfl⟩
theorem Nev.bind2 {s : Sem α} {f : α → Sem β} (h : ∀ a, Nev P (f a)) : Nev P (s >>= f) := fun w => by
  rw [Sem.run_bind]
  cases hs : s.run P w with
  | halt x y => exact ⟨x, y, rfl⟩
  | ok a w1 => obtain ⟨x, y, e⟩ := h a w1; exact ⟨x, y, e⟩
theorem Nev.runtimePanic (e : RuntimeError) : Nev P (Go.runtimePanic e : Sem α) := by
  unfold Go.runtimePanic
  refine .bind2 fun p => ?_
  cases e with
  | typeAssertion a b c d => exact .bind2 fun _ => .bind2 fun _ => .halt _
  | panicNil => exact .bind2 fun _ => .bind2 fun _ => .halt _
  | _ => exact .halt _
theorem Nev.boundsPanic (k : IntKind) (x y : Int) (c : BoundsCode) : Nev P (Go.boundsPanic k x y c : Sem α) := by
  unfold Go.boundsPanic
  dsimp only
  split <;> exact .bind2 fun _ => .runtimePanic _
theorem Sim.never {R : Ren → α → β → Prop} {s : Sem α} {s' : Sem β} (h : Nev P s) : Sim P base fl R ρ s s' := by
  intro wA w a wA' _ _ e
  obtain ⟨x, y, e1⟩ := h wA
  rw [e1] at e; cases e
theorem Sim.ite {R : Ren → α → β → Prop} {c : Prop} [Decidable c] {s t : Sem α} {s' t' : Sem β} (h : c → Sim P base fl R ρ s s') (k : ¬ c → Sim P base fl R ρ t t') :
    Sim P base fl R ρ (if c then s else t) (if c then s' else t') := by
  split
  · exact h ‹_›
  · exact k ‹_›

theorem zero_info {t : TypeId} {z : Value} (h : ∀ w, (Go.zeroValue t).run P w = .ok z w) : ∃ i, P.info? t = some i ∧ i.zero = some z := by
  have := h default
  unfold Go.zeroValue Go.typeInfo at this
  simp only [Sem.run_bind, run_program, Result.andThen_ok] at this
  split at this
  · rename_i i hi
    simp only [Sem.run_pure, Result.andThen_ok] at this
    split at this
    · rename_i v hv
      simp at this
      exact ⟨i, hi, by rw [hv, this]⟩
    · simp at this
  · simp at this
def zeroOk (P : Program) (t : TypeId) : Bool := match P.info? t with
  | some i => (match i.zero with | some v => ground v | none => false)
  | none => false
theorem zeroOk.spec {t : TypeId} (h : zeroOk P t = true) {z : Value} (hz : ∀ w, (Go.zeroValue t).run P w = .ok z w) : ground z = true ∧ ∃ sz, (P.info? t).map (·.size) = some sz := by
  obtain ⟨i, h1, h2⟩ := zero_info hz
  unfold zeroOk at h
  rw [h1] at h
  simp only [h2] at h
  exact ⟨h, i.size, by rw [h1]; rfl⟩

theorem Sim.newVar {t : TypeId} {sz : Nat} (hz : (P.info? t).map (·.size) = some sz) {v v' : Value} (hv : VRel ρ v v') :
    Sim P base fl (Fresh sz v'.cells.size) ρ (Go.newVar t v) (Go.newVar t v') := Sim.newRow hz hv.cells
theorem Sim.alloc {t : TypeId} (h : zeroOk P t = true) : Sim P base fl VRel ρ (Instr.alloc t true (.tuple #[])) (Instr.alloc t true (.tuple #[])) := by
  unfold Instr.alloc
  refine Sim.bindFree (.zeroValue t) fun z hz => ?_
  obtain ⟨hg, sz, hs⟩ := zeroOk.spec h hz
  dsimp only
  exact (Sim.newVar hs (ground_rel hg)).bind fun ρ' a a' _ hf => .pure hf.ptr
theorem Sim.box {t : TypeId} (h : (P.info? t).isSome = true) {v v' : Value} (hv : VRel ρ v v') : Sim P base fl VRel ρ (Instr.box t v) (Instr.box t v') := by
  unfold Instr.box
  obtain ⟨i, hi⟩ := Option.isSome_iff_exists.1 h
  exact (Sim.newVar (sz := i.size) (by rw [hi]; rfl) hv).bind fun ρ' a a' _ hf => .pure hf.ptr

/-- Parts: numbers, and values that are alike. -/
def PRel (ρ : Ren) (xs ys : List (Nat × Value)) : Prop := xs.length = ys.length ∧ ∀ (i : Nat) (p q : Nat × Value), xs[i]? = some p → ys[i]? = some q → p.1 = q.1 ∧ VRel ρ p.2 q.2
theorem foldl_set {ρ : Ren} (off : Nat) : ∀ (vs vs' : List Value) (j : Nat) (cs cs' : Array Value), LRel ρ vs vs' → ARel ρ cs cs' →
    ARel ρ ((vs.zipIdx j).foldl (fun cs (c, j) => cs.setIfInBounds (off + j) c) cs) ((vs'.zipIdx j).foldl (fun cs (c, j) => cs.setIfInBounds (off + j) c) cs')
  | [], _, j, cs, cs', h, hc => by cases h; exact hc
  | v :: vs, _, j, cs, cs', h, hc => by
    cases h with
    | cons hv hs =>
      simp only [List.zipIdx_cons, List.foldl_cons]
      exact foldl_set off vs _ (j + 1) _ _ hs (hc.set _ hv)
theorem zipFold {ρ : Ren} (off : Nat) {vs vs' cs cs' : Array Value} (h : ARel ρ vs vs') (hc : ARel ρ cs cs') :
    ARel ρ (vs.zipIdx.foldl (fun cs (c, j) => cs.setIfInBounds (off + j) c) cs) (vs'.zipIdx.foldl (fun cs (c, j) => cs.setIfInBounds (off + j) c) cs') := by
  rw [← Array.foldl_toList, ← Array.foldl_toList, Array.toList_zipIdx, Array.toList_zipIdx]
  exact foldl_set off _ _ 0 _ _ h.list hc
theorem fill_rel {ρ : Ren} (place : Nat → Option (Nat × Nat)) : ∀ (ps ps' : List (Nat × Value)) (cs cs' : Array Value), PRel ρ ps ps' → ARel ρ cs cs' →
    ∀ r, Instr.fill place cs ps = some r → ∃ r', Instr.fill place cs' ps' = some r' ∧ ARel ρ r r'
  | [], ps', cs, cs', hp, hc, r, e => by
    cases ps' with
    | nil => simp only [Instr.fill] at e ⊢; injection e with e; subst e; exact ⟨cs', rfl, hc⟩
    | cons p ps' => simp [PRel] at hp
  | (i, v) :: ps, ps', cs, cs', hp, hc, r, e => by
    cases ps' with
    | nil => simp [PRel] at hp
    | cons p' ps' =>
      obtain ⟨i', v'⟩ := p'
      have h0 := hp.2 0 (i, v) (i', v') rfl rfl
      obtain ⟨h1, h2⟩ := h0
      dsimp only at h1 h2
      subst h1
      have hrest : PRel ρ ps ps' := ⟨by have := hp.1; simpa using this, fun j p q a b => hp.2 (j + 1) p q (by simpa using a) (by simpa using b)⟩
      have hcell := h2.cells
      simp only [Instr.fill] at e ⊢
      cases hpl : place i with
      | none => rw [hpl] at e; cases e
      | some y =>
        obtain ⟨off, size⟩ := y
        rw [hpl] at e
        dsimp only at e ⊢
        rw [← hcell.1, ← hc.1]
        split at e
        · cases e
        · rw [if_neg ‹_›]
          exact fill_rel place ps ps' _ _ hrest (zipFold off hcell hc) r e
theorem Free.mapM {α β : Type} (f : α → Sem β) (h : ∀ a, Free P (f a)) (l : Array α) : Free P (l.mapM f) := by
  rw [Array.mapM_eq_mapM_toList]
  have key : ∀ l : List α, Free P (l.mapM f) := by
    intro l
    induction l with
    | nil => exact .pure _
    | cons a l ih =>
      rw [List.mapM_cons]
      exact .bind (h a) fun b => .bind ih fun bs => .pure _
  rw [map_eq_pure_bind]
  exact .bind (key l.toList) fun _ => .pure _
theorem Sim.build {t : TypeId} (h : zeroOk P t = true) {ps ps' : Array (Nat × Value)} (hp : PRel ρ ps.toList ps'.toList) : Sim P base fl VRel ρ (Instr.build t ps) (Instr.build t ps') := by
  unfold Instr.build
  refine Sim.bindFree (.zeroValue t) fun z hz => ?_
  obtain ⟨hg, sz, hs⟩ := zeroOk.spec h hz
  refine Sim.bindFree (.underlying t) fun d hd => ?_
  have hc : ARel ρ z.cells z.cells := (ground_rel hg).cells
  have fin : ∀ (place : Nat → Option (Nat × Nat)) (why : String), Sim P base fl VRel ρ
      (match Instr.fill place z.cells ps.toList with | some cells => Pure.pure (Value.agg cells) | _ => Go.stuck why)
      (match Instr.fill place z.cells ps'.toList with | some cells => Pure.pure (Value.agg cells) | _ => Go.stuck why) := by
    intro place why
    cases hf : Instr.fill place z.cells ps.toList with
    | none => exact .stuck
    | some r =>
      obtain ⟨r', e, hr⟩ := fill_rel place _ _ _ _ hp hc r hf
      rw [e]
      exact .pure (.agg hr.1 hr.2)
  cases d with
  | struct fields =>
    dsimp only
    refine Sim.bindFree (Free.mapM _ (fun f => .bind (.sizeOf _) fun _ => .pure _) _) fun places _ => ?_
    exact fin _ _
  | array n e =>
    dsimp only
    refine Sim.bindFree (.sizeOf _) fun size _ => ?_
    exact fin _ _
  | _ => exact .stuck

theorem gcell_default : gcell (default : Value) = true := rfl
theorem gcell_bang {zero : Array Value} (h : zero.all gcell = true) (i : Nat) : gcell (zero[i]!) = true := by
  rw [Array.all_eq_true_iff_forall_mem] at h
  rw [getElem!_def]
  cases hi : zero[i]? with
  | none => exact gcell_default
  | some v => exact h v (Array.mem_of_getElem? hi)
theorem zeros_rel {zero : Array Value} (h : zero.all gcell = true) (n : Nat) : ARel ρ ((Array.range n).map (zero[· % zero.size]!)) ((Array.range n).map (zero[· % zero.size]!)) :=
  ARel.map _ fun x _ => gcell_rel (gcell_bang h _)
theorem zeros_cells {v : Value} (h : ground v = true) : v.cells.all gcell = true ∨ v.cells = #[v] := by
  cases v <;> first | exact .inl h | exact .inr rfl
/-- the kinds of zero that a row is made of. -/
def zeroCell (P : Program) (t : TypeId) : Bool := match P.info? t with
  | some i => (match i.zero with | some v => v.cells.all gcell | none => false)
  | none => false
theorem zeroCell.spec {t : TypeId} (h : zeroCell P t = true) {z : Value} (hz : ∀ w, (Go.zeroValue t).run P w = .ok z w) : z.cells.all gcell = true := by
  obtain ⟨i, h1, h2⟩ := zero_info hz
  unfold zeroCell at h
  rw [h1] at h
  simp only [h2] at h
  exact h
theorem size_info {t : TypeId} {n : Nat} (h : ∀ w, (Go.sizeOf t).run P w = .ok n w) : (P.info? t).map (·.size) = some n := info_size h
theorem Fresh.slice {sz n : Nat} {a a' : Addr} (h : Fresh sz n ρ a a') {l c : Nat} (hc : c < big) : VRel ρ (.slice (some a) l c) (.slice (some a') l c) := by
  obtain ⟨b, x, rfl, rfl, hb, hs, _⟩ := h
  have := VRel.slice (o := 0) (n := l) hb hc
  rw [hs] at this
  exact this
theorem underlying_eq {t : TypeId} {d : TypeDesc} (h : ∀ w, (Go.underlying t).run P w = .ok d w) : P.underlying t = some d := by
  have := h default
  unfold Go.underlying at this
  simp only [Sem.run_bind, run_program, Result.andThen_ok] at this
  split at this
  · rename_i e he
    simp at this
    rw [he, this]
  · simp at this
def elemZero (P : Program) (t : TypeId) : Bool := match P.underlying t with
  | some (.slice e) => zeroCell P e
  | _ => false
theorem Sim.buildSlice {t : TypeId} {n : Nat} (h : elemZero P t = true) (hn : n < big) {ps ps' : Array (Nat × Value)} (hp : PRel ρ ps.toList ps'.toList) :
    Sim P base fl VRel ρ (Instr.buildSlice t n ps) (Instr.buildSlice t n ps') := by
  unfold Instr.buildSlice
  refine Sim.bindFree (.underlying t) fun d hd => ?_
  have hu := underlying_eq hd
  cases d with
  | slice e =>
    dsimp only
    unfold elemZero at h
    rw [hu] at h
    dsimp only at h
    refine Sim.bindFree (.sizeOf e) fun size hs => ?_
    refine Sim.ite (fun _ => .never (.bind (.halt _))) fun _ => ?_
    have fin : ∀ zero : Array Value, zero.all gcell = true → Sim P base fl VRel ρ
        (match Instr.fill (fun i => some (i * size, size)) ((Array.range (n * size)).map (zero[· % zero.size]!)) ps.toList with | some cells => (do Pure.pure (Value.slice (some (← Go.newRow e cells)) n n)) | _ => Go.stuck "buildSlice: a part of the wrong size")
        (match Instr.fill (fun i => some (i * size, size)) ((Array.range (n * size)).map (zero[· % zero.size]!)) ps'.toList with | some cells => (do Pure.pure (Value.slice (some (← Go.newRow e cells)) n n)) | _ => Go.stuck "buildSlice: a part of the wrong size") := by
      intro zero hz
      cases hf : Instr.fill (fun i => some (i * size, size)) ((Array.range (n * size)).map (zero[· % zero.size]!)) ps.toList with
      | none => exact .stuck
      | some r =>
        obtain ⟨r', e', hr⟩ := fill_rel _ _ _ _ _ hp (zeros_rel hz _) r hf
        rw [e']
        exact (Sim.newRow (size_info hs) hr).bind fun ρ' a a' _ hfr => .pure (hfr.slice hn)
    refine Sim.ite (fun _ => ?_) fun _ => ?_
    · exact fin #[] (by simp)
    · refine Sim.bindFree (.zeroValue e) fun z hz => ?_
      exact fin z.cells (zeroCell.spec h hz)
  | _ => exact .stuck

theorem Sim.loadVar {t : TypeId} {b o : Nat} {x : Img} (hb : ρ b = some x) : Sim P base fl VRel ρ (Go.loadVar t ⟨b, o, none⟩) (Go.loadVar t ⟨x.blk, o + x.shift, none⟩) := by
  unfold Go.loadVar
  refine Sim.bindFree (.isAgg t) fun g _ => ?_
  refine Sim.ite (fun _ => ?_) fun _ => Sim.load hb
  refine Sim.bindFree (.sizeOf t) fun n _ => ?_
  exact (Sim.loadCells hb n).bind fun ρ' a a' _ h => .pure (.agg h.1 h.2)
theorem Sim.loadAt {t : TypeId} {v v' : Value} (hv : VRel ρ v v') : Sim P base fl VRel ρ (Instr.loadAt t v) (Instr.loadAt t v') := by
  unfold Instr.loadAt
  cases hv with
  | ptr h => exact Sim.loadVar h
  | _ => exact .never (.bind (.halt _))
theorem Sim.storeAt {t : TypeId} {v v' u u' : Value} (hv : VRel ρ v v') (hu : VRel ρ u u') (hf : ∀ a, v = .pointer (some a) → fl ≤ a.block) :
    Sim P base fl (fun _ _ _ => True) ρ (Instr.storeAt t v u) (Instr.storeAt t v' u') := by
  unfold Instr.storeAt
  cases hv with
  | ptr h =>
    show Sim P base fl _ ρ (Go.storeVar t _ u) (Go.storeVar t _ u')
    unfold Go.storeVar
    have hc := hu.cells
    refine Sim.bindFree (.sizeOf t) fun n _ => ?_
    rw [hc.1]
    refine Sim.ite (fun _ => .never (.bind (.halt _))) fun _ => ?_
    exact Sim.storeCells (hf _ rfl) _ _ 0 ρ h hc.list
  | _ => exact .never (.bind (.halt _))
theorem Sim.fieldAt {s : TypeId} {v v' : Value} {f : Nat} (hv : VRel ρ v v') (hz : ∀ fs fd, P.underlying s = some (.struct fs) → fs[f]? = some fd → (P.info? fd.type).map (·.size) ≠ some 0) :
    Sim P base fl VRel ρ (Instr.fieldAt s v f) (Instr.fieldAt s v' f) := by
  unfold Instr.fieldAt
  refine Sim.bindFree (.underlying s) fun d hd => ?_
  cases d with
  | struct fs =>
    dsimp only
    cases hfd : fs[f]? with
    | none => exact .stuck
    | some fd =>
      dsimp only
      cases hv with
      | ptr h =>
        show Sim P base fl _ ρ (Go.fieldPlace _ fd >>= fun a => Pure.pure (Value.pointer (some a))) (Go.fieldPlace _ fd >>= fun a => Pure.pure (Value.pointer (some a)))
        unfold Go.fieldPlace
        rw [bind_assoc, bind_assoc]
        refine Sim.bindFree (.sizeOf fd.type) fun n hn => ?_
        rw [if_neg (fun e => hz fs fd (underlying_eq hd) hfd (by rw [size_info hn, e])), if_neg (fun e => hz fs fd (underlying_eq hd) hfd (by rw [size_info hn, e]))]
        refine .pure ?_
        rw [add_off, add_off]
        rename_i b o x
        have := VRel.ptr (o := o + fd.offset) h
        rw [show o + fd.offset + x.shift = o + x.shift + fd.offset by omega] at this
        exact this
      | _ => exact .never (.bind (.halt _))
  | _ => exact .stuck
theorem Sim.partR {t : TypeId} {cs cs' : Array Value} (h : ARel ρ cs cs') (off : Nat) : Sim P base fl VRel ρ (Go.part t cs off) (Go.part t cs' off) := by
  unfold Go.part
  refine Sim.bindFree (.isAgg t) fun g _ => ?_
  refine Sim.ite (fun _ => ?_) fun _ => ?_
  · refine Sim.bindFree (.sizeOf t) fun n _ => ?_
    have := h.extract off (off + n)
    exact .pure (.agg this.1 this.2)
  · cases hc : cs[off]? with
    | none => exact .stuck
    | some v =>
      obtain ⟨v', a, b⟩ := h.get hc
      rw [a]
      exact .pure b
theorem Sim.field {t : TypeId} {v v' : Value} {f : Nat} (hv : VRel ρ v v') : Sim P base fl VRel ρ (Instr.field t v f) (Instr.field t v' f) := by
  unfold Instr.field
  refine Sim.bindFree (.underlying t) fun d hd => ?_
  cases d with
  | struct fs =>
    dsimp only
    cases hfd : fs[f]? with
    | none => exact .stuck
    | some fd =>
      dsimp only
      cases hv with
      | agg hc h => exact Sim.partR ⟨hc, h⟩ _
      | _ => exact .never (.bind (.halt _))
  | _ => exact .stuck
theorem Sim.index {t : TypeId} {v v' : Value} {k : IntKind} {n : Int} (hv : VRel ρ v v') : Sim P base fl VRel ρ (Instr.index t v (.int k n)) (Instr.index t v' (.int k n)) := by
  unfold Instr.index
  simp only [asIntOf, pure_bind]
  refine Sim.bindFree (.underlying t) fun d hd => ?_
  cases hv with
  | agg hc h =>
    cases d with
    | array len e =>
      dsimp only
      refine Sim.ite (fun _ => ?_) fun _ => .never (.boundsPanic _ _ _ _)
      refine Sim.bindFree (.sizeOf e) fun m _ => ?_
      exact Sim.partR ⟨hc, h⟩ _
    | _ => exact .stuck
  | string s =>
    cases d with
    | string =>
      dsimp only
      split
      · exact .pure (.int _ _)
      · exact .never (.boundsPanic _ _ _ _)
    | _ => exact .stuck
  | _ => cases d <;> exact .stuck
theorem Sim.extract {v v' : Value} {i : Nat} (hv : VRel ρ v v') : Sim P base fl VRel ρ (Instr.extract v i) (Instr.extract v' i) := by
  unfold Instr.extract
  cases hv with
  | @tuple cs cs' hc h =>
    dsimp only
    cases hi : cs[i]? with
    | none => exact .stuck
    | some u =>
      obtain ⟨u', a, b⟩ := ARel.get ⟨hc, h⟩ hi
      rw [a]
      exact .pure b
  | _ => exact .stuck
end
end Go.Proofs.Ytlhkkbdfdkjlcaa.Ev

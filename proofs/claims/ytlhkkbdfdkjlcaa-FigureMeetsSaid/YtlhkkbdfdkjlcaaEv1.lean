/- An evaluator of closed calls, proved right. Part 1: two worlds that are alike but for the blocks' numbers; programs of the model that take alike worlds to alike worlds. -/
import Derived.OrdersIn
import Derived.RangeFuncIn
import Derived.Laws.Sem
import Derived.Laws.World
set_option linter.unusedVariables false
set_option linter.unusedSimpArgs false
namespace Go.Proofs.Ytlhkkbdfdkjlcaa.Ev
open Go

/-- Where a block of the small world lies in the great one. -/
structure Img where
  blk : Nat
  shift : Nat
  tot : Nat
  sz : Nat

abbrev Ren := Nat → Option Img
def Ren.Le (ρ ρ' : Ren) : Prop := ∀ b x, ρ b = some x → ρ' b = some x
theorem Ren.Le.refl (ρ : Ren) : ρ.Le ρ := fun _ _ h => h
theorem Ren.Le.trans {a b c : Ren} (h : a.Le b) (k : b.Le c) : a.Le c := fun x y e => k _ _ (h _ _ e)

/-- Capacities from here on are not known. -/
def big : Nat := 2305843009213693952

def Fn.calm : Fn → Bool
  | .yield _ => false
  | _ => true

inductive VRel (ρ : Ren) : Value → Value → Prop
  | bool (b : Bool) : VRel ρ (.bool b) (.bool b)
  | int (k : IntKind) (n : Int) : VRel ρ (.int k n) (.int k n)
  | string (s : ByteArray) : VRel ρ (.string s) (.string s)
  | nilPtr : VRel ρ (.pointer none) (.pointer none)
  | ptr {b o : Nat} {x : Img} (h : ρ b = some x) : VRel ρ (.pointer (some ⟨b, o, none⟩)) (.pointer (some ⟨x.blk, o + x.shift, none⟩))
  | nilSlice (n c : Nat) : VRel ρ (.slice none n c) (.slice none n c)
  | slice {b o n c : Nat} {x : Img} (h : ρ b = some x) (hc : c < big) : VRel ρ (.slice (some ⟨b, o, none⟩) n c) (.slice (some ⟨x.blk, o + x.shift, none⟩) n c)
  | loose {b o o' n c c' : Nat} {x : Img} (h : ρ b = some x) (hc : big ≤ c) (hn : n ≤ c') (hx : o' + c' * x.sz ≤ x.tot) (ho : 0 < n → o' = o + x.shift) :
      VRel ρ (.slice (some ⟨b, o, none⟩) n c) (.slice (some ⟨x.blk, o', none⟩) n c')
  | nilMap : VRel ρ (.map none) (.map none)
  | map {r : Nat} {x : Img} (h : ρ r = some x) : VRel ρ (.map (some r)) (.map (some x.blk))
  | nilFunc : VRel ρ .nilFunc .nilFunc
  | func {fn : Fn} {fs fs' cs cs' : Array Value} (hy : Fn.calm fn = true) (hf : fs.size = fs'.size) (h1 : ∀ (i : Nat) (v v' : Value), fs[i]? = some v → fs'[i]? = some v' → VRel ρ v v')
      (hc : cs.size = cs'.size) (h2 : ∀ (i : Nat) (v v' : Value), cs[i]? = some v → cs'[i]? = some v' → VRel ρ v v') : VRel ρ (.func fn fs cs) (.func fn fs' cs')
  | yield {l : Nat} {x : Img} (h : ρ l = some x) : VRel ρ (.func (.yield l) #[] #[]) (.func (.yield x.blk) #[] #[])
  | nilIface : VRel ρ .nilIface .nilIface
  | iface {t : TypeId} {v v' : Value} (h : VRel ρ v v') : VRel ρ (.iface t v) (.iface t v')
  | agg {cs cs' : Array Value} (hc : cs.size = cs'.size) (h : ∀ (i : Nat) (v v' : Value), cs[i]? = some v → cs'[i]? = some v' → VRel ρ v v') : VRel ρ (.agg cs) (.agg cs')
  | tuple {cs cs' : Array Value} (hc : cs.size = cs'.size) (h : ∀ (i : Nat) (v v' : Value), cs[i]? = some v → cs'[i]? = some v' → VRel ρ v v') : VRel ρ (.tuple cs) (.tuple cs')

theorem VRel.mono {ρ ρ' : Ren} (hρ : ρ.Le ρ') {v v' : Value} (h : VRel ρ v v') : VRel ρ' v v' := by
  induction h with
  | bool b => exact .bool b
  | int k n => exact .int k n
  | string s => exact .string s
  | nilPtr => exact .nilPtr
  | ptr h => exact .ptr (hρ _ _ h)
  | nilSlice n c => exact .nilSlice n c
  | slice h hc => exact .slice (hρ _ _ h) hc
  | loose h hc hn hx ho => exact .loose (hρ _ _ h) hc hn hx ho
  | nilMap => exact .nilMap
  | map h => exact .map (hρ _ _ h)
  | nilFunc => exact .nilFunc
  | func hy hf _ hc _ ih1 ih2 => exact .func hy hf (fun i v v' a b => ih1 i v v' a b) hc (fun i v v' a b => ih2 i v v' a b)
  | yield h => exact .yield (hρ _ _ h)
  | nilIface => exact .nilIface
  | iface _ ih => exact .iface ih
  | agg hc _ ih => exact .agg hc (fun i v v' a b => ih i v v' a b)
  | tuple hc _ ih => exact .tuple hc (fun i v v' a b => ih i v v' a b)

def ARel (ρ : Ren) (xs ys : Array Value) : Prop := xs.size = ys.size ∧ ∀ (i : Nat) (v v' : Value), xs[i]? = some v → ys[i]? = some v' → VRel ρ v v'
theorem ARel.mono {ρ ρ' : Ren} (hρ : ρ.Le ρ') {xs ys : Array Value} (h : ARel ρ xs ys) : ARel ρ' xs ys := ⟨h.1, fun i v v' a b => (h.2 i v v' a b).mono hρ⟩
theorem ARel.get {ρ : Ren} {xs ys : Array Value} (h : ARel ρ xs ys) {i : Nat} {v : Value} (hi : xs[i]? = some v) : ∃ v', ys[i]? = some v' ∧ VRel ρ v v' := by
  have hlt : i < xs.size := (Array.getElem?_eq_some_iff.1 hi).1
  have hlt' : i < ys.size := h.1 ▸ hlt
  exact ⟨ys[i], Array.getElem?_eq_getElem hlt', h.2 i v _ hi (Array.getElem?_eq_getElem hlt')⟩
theorem ARel.none {ρ : Ren} {xs ys : Array Value} (h : ARel ρ xs ys) {i : Nat} (hi : xs[i]? = none) : ys[i]? = none := by
  rw [Array.getElem?_eq_none_iff] at hi ⊢
  exact h.1 ▸ hi

theorem ARel.undef {ρ : Ren} : VRel ρ Go.undef Go.undef := .tuple rfl (fun i v v' a => by simp [Go.undef] at a)
theorem ARel.getD {ρ : Ren} {xs ys : Array Value} (h : ARel ρ xs ys) (i : Nat) : VRel ρ (xs.getD i Go.undef) (ys.getD i Go.undef) := by
  rw [Array.getD_eq_getD_getElem?, Array.getD_eq_getD_getElem?]
  cases hi : xs[i]? with
  | none => rw [h.none hi]; exact ARel.undef
  | some v => obtain ⟨v', h1, h2⟩ := h.get hi; rw [h1]; exact h2
theorem ARel.set {ρ : Ren} {xs ys : Array Value} (h : ARel ρ xs ys) (i : Nat) {v v' : Value} (hv : VRel ρ v v') : ARel ρ (xs.setIfInBounds i v) (ys.setIfInBounds i v') := by
  refine ⟨by simp [h.1], fun j u u' a b => ?_⟩
  rw [Array.getElem?_setIfInBounds] at a b
  by_cases e : i = j
  · subst e
    have hx : i < xs.size := by
      rcases Nat.lt_or_ge i xs.size with hh | hh
      · exact hh
      · rw [if_pos rfl, if_neg (by omega)] at a; cases a
    rw [if_pos rfl, if_pos hx] at a
    rw [if_pos rfl, if_pos (h.1 ▸ hx)] at b
    cases a; cases b; exact hv
  · rw [if_neg e] at a b
    exact h.2 j u u' a b
theorem ARel.append {ρ : Ren} {xs ys xs' ys' : Array Value} (h : ARel ρ xs ys) (h' : ARel ρ xs' ys') : ARel ρ (xs ++ xs') (ys ++ ys') := by
  refine ⟨by simp [h.1, h'.1], fun j u u' a b => ?_⟩
  rw [Array.getElem?_append] at a b
  rw [← h.1] at b
  split at a
  · rw [if_pos ‹_›] at b; exact h.2 _ _ _ a b
  · rw [if_neg ‹_›] at b; exact h'.2 _ _ _ a b
theorem ARel.replicate {ρ : Ren} (n : Nat) {v v' : Value} (h : VRel ρ v v') : ARel ρ (Array.replicate n v) (Array.replicate n v') := by
  refine ⟨by simp, fun j u u' a b => ?_⟩
  rw [Array.getElem?_replicate] at a b
  split at a
  · rw [if_pos ‹_›] at b; cases a; cases b; exact h
  · cases a
theorem ARel.empty {ρ : Ren} : ARel ρ #[] #[] := ⟨rfl, fun i v v' a => by simp at a⟩
theorem ARel.push {ρ : Ren} {xs ys : Array Value} (h : ARel ρ xs ys) {v v' : Value} (hv : VRel ρ v v') : ARel ρ (xs.push v) (ys.push v') := by
  refine ⟨by simp [h.1], fun j u u' a b => ?_⟩
  rw [Array.getElem?_push] at a b
  rw [← h.1] at b
  split at a
  · rw [if_pos ‹_›] at b; cases a; cases b; exact hv
  · rw [if_neg ‹_›] at b; exact h.2 _ _ _ a b
theorem ARel.extract {ρ : Ren} {xs ys : Array Value} (h : ARel ρ xs ys) (i j : Nat) : ARel ρ (xs.extract i j) (ys.extract i j) := by
  refine ⟨by simp [h.1], fun k u u' a b => ?_⟩
  rw [Array.getElem?_extract] at a b
  rw [← h.1] at b
  split at a
  · rw [if_pos ‹_›] at b; exact h.2 _ _ _ a b
  · cases a
theorem ARel.map {ρ : Ren} {α : Type} (l : Array α) {f g : α → Value} (h : ∀ x, x ∈ l → VRel ρ (f x) (g x)) : ARel ρ (l.map f) (l.map g) := by
  refine ⟨by simp, fun k u u' a b => ?_⟩
  rw [Array.getElem?_map] at a b
  cases hl : l[k]? with
  | none => rw [hl] at a; cases a
  | some x =>
    rw [hl] at a b
    cases a; cases b
    exact h x (Array.mem_of_getElem? hl)

/-- The parts of a value that lie side by side. -/
theorem VRel.cells {ρ : Ren} {v v' : Value} (h : VRel ρ v v') : ARel ρ v.cells v'.cells := by
  have one : ∀ {u u' : Value}, VRel ρ u u' → ARel ρ #[u] #[u'] := fun {u u'} hu => ⟨rfl, fun i a b ha hb => by
    cases i with
    | zero => simp at ha hb; subst ha; subst hb; exact hu
    | succ i => simp at ha⟩
  cases h with
  | agg hc h => exact ⟨hc, h⟩
  | _ => exact one (by constructor <;> assumption)

structure ERel (ρ : Ren) (e e' : MapEntry) : Prop where
  key : VRel ρ e.key e'.key
  val : VRel ρ e.val e'.val
  born : e.born = e'.born

def alive : Obj → Bool
  | .pending .. => false
  | _ => true

inductive ORel (P : Program) (ρ : Ren) (x : Img) : Obj → Obj → Prop
  | cells {c c' : Array Value} {t : TypeId} (ht : c'.size = x.tot) (hs : x.shift + c.size ≤ x.tot) (hz : (P.info? t).map (·.size) = some x.sz)
      (h : ∀ (i : Nat) (v : Value), c[i]? = some v → ∃ v', c'[i + x.shift]? = some v' ∧ VRel ρ v v') : ORel P ρ x (.cells c t (0, 0)) (.cells c' t (0, 0))
  | map {es es' : Array MapEntry} {clock : Nat} (hs : es.size = es'.size) (h : ∀ (i : Nat) (e e' : MapEntry), es[i]? = some e → es'[i]? = some e' → ERel ρ e e') : ORel P ρ x (.map es clock) (.map es' clock)
  | iter (s : ByteArray) (pos : Nat) (hx : x.shift = 0) : ORel P ρ x (.stringIter s pos) (.stringIter s pos)
  | deferred : ORel P ρ x (.deferred (some [])) (.deferred (some []))
  | loop {st : LoopState} {pe : Option Code} {fn fn' : FuncId} {ts ts' : Array Value} {ps : Array Tmp} {as bo : Code} {d : Nat} {y : Img} (h : ARel ρ ts ts') (hd : ρ d = some y) :
      ORel P ρ x (.loop ⟨st, pe, fn, ts, ps, as, bo, d⟩) (.loop ⟨st, pe, fn', ts', ps, as, bo, y.blk⟩)

theorem ORel.mono {P : Program} {ρ ρ' : Ren} (hρ : ρ.Le ρ') {x : Img} {o o' : Obj} (h : ORel P ρ x o o') : ORel P ρ' x o o' := by
  cases h with
  | cells ht hs hz h => exact .cells ht hs hz (fun i v hi => let ⟨v', a, b⟩ := h i v hi; ⟨v', a, b.mono hρ⟩)
  | map hs h => exact .map hs (fun i e e' a b => let k := h i e e' a b; ⟨k.key.mono hρ, k.val.mono hρ, k.born⟩)
  | iter s p h => exact .iter s p h
  | deferred => exact .deferred
  | loop h hd => exact .loop (h.mono hρ) (hρ _ _ hd)

structure WRel (P : Program) (base : Nat) (ρ : Ren) (wA w : World) : Prop where
  low : base ≤ w.heap.size
  dom : ∀ b x, ρ b = some x → b < wA.heap.size ∧ base ≤ x.blk ∧ x.blk < w.heap.size
  obj : ∀ b o x, wA.heap[b]? = some o → alive o = true → ρ b = some x → ∃ o', w.heap[x.blk]? = some o' ∧ ORel P ρ x o o'
  inj : ∀ b b' o o' x x', wA.heap[b]? = some o → alive o = true → wA.heap[b']? = some o' → alive o' = true → ρ b = some x → ρ b' = some x' → x.blk = x'.blk → b = b'

/-- One part of a run: both worlds go on, and stay alike. Blocks of the small world below fl are left alone. -/
structure Stp (P : Program) (base fl : Nat) (ρ : Ren) (wA w : World) (ρ' : Ren) (wA' w' : World) : Prop where
  le : ρ.Le ρ'
  rel : WRel P base ρ' wA' w'
  new : ∀ b x, ρ' b = some x → ρ b = some x ∨ (wA.heap.size ≤ b ∧ (w.heap.size ≤ x.blk ∨ ∃ b0 x0, fl ≤ b0 ∧ ρ b0 = some x0 ∧ x0.blk = x.blk))
  sizeA : wA.heap.size ≤ wA'.heap.size
  size : w.heap.size ≤ w'.heap.size
  os : w'.os = w.os
  tape : w'.tape = w.tape
  output : w'.output = w.output
  keepA : ∀ b, b < fl → wA'.heap[b]? = wA.heap[b]?
  keep : ∀ k, k < w.heap.size → (∀ b x, fl ≤ b → ρ b = some x → x.blk ≠ k) → w'.heap[k]? = w.heap[k]?

theorem Stp.refl {P : Program} {base fl : Nat} {ρ : Ren} {wA w : World} (h : WRel P base ρ wA w) : Stp P base fl ρ wA w ρ wA w :=
  ⟨.refl _, h, fun _ _ h => .inl h, Nat.le_refl _, Nat.le_refl _, rfl, rfl, rfl, fun _ _ => rfl, fun _ _ _ => rfl⟩
theorem Stp.trans {P : Program} {base fl : Nat} {ρ ρ1 ρ2 : Ren} {wA w wA1 w1 wA2 w2 : World} (h : Stp P base fl ρ wA w ρ1 wA1 w1) (k : Stp P base fl ρ1 wA1 w1 ρ2 wA2 w2) :
    Stp P base fl ρ wA w ρ2 wA2 w2 where
  le := h.le.trans k.le
  rel := k.rel
  new b x e := by
    rcases k.new b x e with e1 | ⟨e1, e2⟩
    · exact h.new b x e1
    · refine .inr ⟨Nat.le_trans h.sizeA e1, ?_⟩
      rcases e2 with e2 | ⟨b0, x0, f1, f2, f3⟩
      · exact .inl (Nat.le_trans h.size e2)
      · rcases h.new b0 x0 f2 with g | ⟨_, g | ⟨b1, x1, g1, g2, g3⟩⟩
        · exact .inr ⟨b0, x0, f1, g, f3⟩
        · exact .inl (f3 ▸ g)
        · exact .inr ⟨b1, x1, g1, g2, g3.trans f3⟩
  sizeA := Nat.le_trans h.sizeA k.sizeA
  size := Nat.le_trans h.size k.size
  os := k.os.trans h.os
  tape := k.tape.trans h.tape
  output := k.output.trans h.output
  keepA b hb := (k.keepA b hb).trans (h.keepA b hb)
  keep j hj hn := by
    rw [← h.keep j hj hn]
    refine k.keep j (Nat.lt_of_lt_of_le hj h.size) (fun b x hb hx hxj => ?_)
    rcases h.new b x hx with e | ⟨_, e⟩
    · exact hn b x hb e hxj
    · rcases e with e | ⟨b1, x1, g1, g2, g3⟩
      · omega
      · exact hn b1 x1 g1 g2 (g3.trans hxj)

/-- A draw changes neither. -/
theorem WRel.drewR {P : Program} {base : Nat} {ρ : Ren} {wA w : World} (h : WRel P base ρ wA w) (n : Nat) : WRel P base ρ wA { w with drawn := n } := ⟨h.low, h.dom, h.obj, h.inj⟩
theorem WRel.drewL {P : Program} {base : Nat} {ρ : Ren} {wA w : World} (h : WRel P base ρ wA w) (n : Nat) : WRel P base ρ { wA with drawn := n } w := ⟨h.low, h.dom, h.obj, h.inj⟩

def Sim (P : Program) (base fl : Nat) {α β : Type} (R : Ren → α → β → Prop) (ρ : Ren) (s : Sem α) (s' : Sem β) : Prop :=
  ∀ wA w a wA', WRel P base ρ wA w → fl ≤ wA.heap.size → s.run P wA = .ok a wA' → ∃ ρ' b w', s'.run P w = .ok b w' ∧ R ρ' a b ∧ Stp P base fl ρ wA w ρ' wA' w'

section
variable {P : Program} {base fl : Nat} {ρ : Ren} {α β γ δ : Type}

theorem Sim.pure {R : Ren → α → β → Prop} {a : α} {b : β} (h : R ρ a b) : Sim P base fl R ρ (Pure.pure a) (Pure.pure b) := by
  intro wA w x wA' hr _ e
  simp only [Sem.run_pure, Result.ok.injEq] at e
  obtain ⟨rfl, rfl⟩ := e
  exact ⟨ρ, b, w, rfl, h, .refl hr⟩
theorem Sim.bind {R : Ren → α → β → Prop} {R' : Ren → γ → δ → Prop} {s : Sem α} {s' : Sem β} {f : α → Sem γ} {g : β → Sem δ} (h : Sim P base fl R ρ s s')
    (k : ∀ ρ' a b, ρ.Le ρ' → R ρ' a b → Sim P base fl R' ρ' (f a) (g b)) : Sim P base fl R' ρ (s >>= f) (s' >>= g) := by
  intro wA w c wA' hr hf e
  rw [Sem.run_bind] at e
  cases hs : s.run P wA with
  | halt x y => rw [hs] at e; cases e
  | ok a wA1 =>
    rw [hs] at e
    simp only [Result.andThen_ok] at e
    obtain ⟨ρ1, b, w1, e1, r1, s1⟩ := h wA w a wA1 hr hf hs
    obtain ⟨ρ2, d, w2, e2, r2, s2⟩ := k ρ1 a b s1.le r1 wA1 w1 c wA' s1.rel (Nat.le_trans hf s1.sizeA) e
    exact ⟨ρ2, d, w2, by rw [Sem.run_bind, e1]; exact e2, r2, s1.trans s2⟩
theorem Sim.mono {R R' : Ren → α → β → Prop} {s : Sem α} {s' : Sem β} (h : Sim P base fl R ρ s s') (k : ∀ ρ' a b, ρ.Le ρ' → R ρ' a b → R' ρ' a b) : Sim P base fl R' ρ s s' := by
  intro wA w c wA' hr hf e
  obtain ⟨ρ1, b, w1, e1, r1, s1⟩ := h wA w c wA' hr hf e
  exact ⟨ρ1, b, w1, e1, k _ _ _ s1.le r1, s1⟩
theorem Sim.halt {R : Ren → α → β → Prop} {h : Halt} {s' : Sem β} : Sim P base fl R ρ (Sem.halt h) s' := by
  intro wA w c wA' _ _ e
  rw [Sem.run_halt] at e
  cases e
theorem Sim.stuck {R : Ren → α → β → Prop} {h : String} {s' : Sem β} : Sim P base fl R ρ (Go.stuck h) s' := Sim.halt
theorem Sim.unsupported {R : Ren → α → β → Prop} {h : Unsupported} {s' : Sem β} : Sim P base fl R ρ (Go.unsupported h) s' := Sim.halt

/-- It looks at no world. -/
def Free (P : Program) (s : Sem α) : Prop := (∃ a, ∀ w, s.run P w = .ok a w) ∨ (∀ w, ∃ h w', s.run P w = .halt h w')
theorem Free.pure (a : α) : Free P (Pure.pure a : Sem α) := .inl ⟨a, fun _ => rfl⟩
theorem Free.halt (h : Halt) : Free P (Sem.halt h : Sem α) := .inr fun w => ⟨h, w, rfl⟩
theorem Free.bind {s : Sem α} {f : α → Sem β} (h : Free P s) (k : ∀ a, Free P (f a)) : Free P (s >>= f) := by
  rcases h with ⟨a, ha⟩ | hh
  · rcases k a with ⟨b, hb⟩ | hk
    · exact .inl ⟨b, fun w => by rw [Sem.run_bind, ha w]; exact hb w⟩
    · refine .inr fun w => ?_
      obtain ⟨x, y, e⟩ := hk w
      exact ⟨x, y, by rw [Sem.run_bind, ha w]; exact e⟩
  · refine .inr fun w => ?_
    obtain ⟨x, y, e⟩ := hh w
    exact ⟨x, y, by rw [Sem.run_bind, e]; rfl⟩
theorem Free.ite {c : Prop} [Decidable c] {s t : Sem α} (h : Free P s) (k : Free P t) : Free P (if c then s else t) := by split <;> assumption
theorem Free.program : Free P Go.program := .inl ⟨P, fun _ => rfl⟩
theorem Free.runtimePanic (e : RuntimeError) (he : ∀ a b c d, e ≠ .typeAssertion a b c d) (hp : e ≠ .panicNil) : Free P (Go.runtimePanic e : Sem α) := by
  unfold Go.runtimePanic
  refine .bind .program fun p => ?_
  cases e with
  | typeAssertion a b c d => exact absurd rfl (he a b c d)
  | panicNil => exact absurd rfl hp
  | _ => exact .halt _
theorem Free.typeInfo (t : TypeId) : Free P (Go.typeInfo t) := by
  unfold Go.typeInfo
  refine .bind .program fun p => ?_
  split
  · exact .pure _
  · exact .halt _
theorem Free.underlying (t : TypeId) : Free P (Go.underlying t) := by
  unfold Go.underlying
  refine .bind .program fun p => ?_
  split
  · exact .pure _
  · exact .halt _
theorem Free.zeroValue (t : TypeId) : Free P (Go.zeroValue t) := by
  unfold Go.zeroValue
  refine .bind (.typeInfo t) fun p => ?_
  split
  · exact .pure _
  · exact .halt _
theorem Free.sizeOf (t : TypeId) : Free P (Go.sizeOf t) := by
  unfold Go.sizeOf
  exact .bind (.typeInfo t) fun p => .pure _
theorem Free.isAgg (t : TypeId) : Free P (Go.isAgg t) := by
  unfold Go.isAgg
  refine .bind (.underlying t) fun p => ?_
  split <;> exact .pure _
theorem Free.run {s : Sem α} (h : Free P s) {w w' w1 : World} {a : α} (e : s.run P w = .ok a w') : w' = w ∧ s.run P w1 = .ok a w1 := by
  rcases h with ⟨b, hb⟩ | hh
  · rw [hb w] at e
    injection e with e1 e2
    subst e1; subst e2
    exact ⟨rfl, hb w1⟩
  · obtain ⟨x, y, e1⟩ := hh w
    rw [e1] at e; cases e
theorem Sim.free {R : Ren → α → α → Prop} {s : Sem α} (h : Free P s) (k : ∀ a, R ρ a a) : Sim P base fl R ρ s s := by
  intro wA w c wA' hr hf e
  obtain ⟨rfl, e1⟩ := h.run (w1 := w) e
  exact ⟨ρ, c, w, e1, k c, .refl hr⟩
/-- a Free part ahead: what it gives is the same on both sides. -/
theorem Sim.bindFree {R' : Ren → γ → δ → Prop} {s : Sem α} {f : α → Sem γ} {g : α → Sem δ} (h : Free P s)
    (k : ∀ a, (∀ w, s.run P w = .ok a w) → Sim P base fl R' ρ (f a) (g a)) : Sim P base fl R' ρ (s >>= f) (s >>= g) := by
  intro wA w c wA' hr hf e
  rcases h with ⟨a, ha⟩ | hh
  · rw [Sem.run_bind, ha] at e
    simp only [Result.andThen_ok] at e
    obtain ⟨ρ1, b, w1, e1, r1, s1⟩ := k a ha wA w c wA' hr hf e
    exact ⟨ρ1, b, w1, by rw [Sem.run_bind, ha]; exact e1, r1, s1⟩
  · obtain ⟨x, y, e1⟩ := hh wA
    rw [Sem.run_bind, e1] at e; cases e
end
end Go.Proofs.Ytlhkkbdfdkjlcaa.Ev

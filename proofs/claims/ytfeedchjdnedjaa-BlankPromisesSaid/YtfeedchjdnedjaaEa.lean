import Derived.OrdersIn
import Derived.RangeFuncIn
import Derived.Laws.Sem
import Derived.Laws.World
import Derived.Laws.NewFold
import Derived.Laws.CopyRow
import Derived.Laws.AppendOwn
set_option linter.unusedVariables false
set_option linter.unusedSimpArgs false
namespace Go.Proofs.Ytfeedchjdnedjaa.Ev
open Go
structure Img where
 blk : Nat
 shift : Nat
 tot : Nat
 sz : Nat
abbrev Ren := Nat -> Option Img
def Ren.Le (ρ ρ' : Ren) : Prop := ∀ b x, ρ b = some x -> ρ' b = some x
theorem Ren.Le.refl (ρ : Ren) : ρ.Le ρ := fun _ _ h => h
theorem Ren.Le.trans {a b c : Ren} (h : a.Le b) (k : b.Le c) : a.Le c := fun x y e => k _ _ (h _ _ e)
def big : Nat := 2305843009213693952
def Fn.calm : Fn -> Bool
 | .yield _ => false
 | _ => true
inductive VRel (ρ : Ren) : Value -> Value -> Prop
 | bool (b : Bool) : VRel ρ (.bool b) (.bool b)
 | int (k : IntKind) (n : Int) : VRel ρ (.int k n) (.int k n)
 | string (s : ByteArray) : VRel ρ (.string s) (.string s)
 | nilPtr : VRel ρ (.pointer none) (.pointer none)
 | ptr {b o : Nat} {x : Img} (h : ρ b = some x) : VRel ρ (.pointer (some ⟨b, o, none⟩)) (.pointer (some ⟨x.blk, o + x.shift, none⟩))
 | nilSlice (n c : Nat) : VRel ρ (.slice none n c) (.slice none n c)
 | slice {b o n c : Nat} {x : Img} (h : ρ b = some x) (hc : c < big) : VRel ρ (.slice (some ⟨b, o, none⟩) n c) (.slice (some ⟨x.blk, o + x.shift, none⟩) n c)
 | loose {b o o' n c c' : Nat} {x : Img} (h : ρ b = some x) (hc : big <= c) (hn : n <= c') (hx : o' + c' * x.sz <= x.tot) (ho : 0 < n -> o' = o + x.shift) :
  VRel ρ (.slice (some ⟨b, o, none⟩) n c) (.slice (some ⟨x.blk, o', none⟩) n c')
 | nilMap : VRel ρ (.map none) (.map none)
 | map {r : Nat} {x : Img} (h : ρ r = some x) : VRel ρ (.map (some r)) (.map (some x.blk))
 | nilFunc : VRel ρ .nilFunc .nilFunc
 | func {fn : Fn} {fs fs' cs cs' : Array Value} (hy : Fn.calm fn = true) (hf : fs.size = fs'.size) (h1 : ∀ (i : Nat) (v v' : Value), fs[i]? = some v -> fs'[i]? = some v' -> VRel ρ v v')
  (hc : cs.size = cs'.size) (h2 : ∀ (i : Nat) (v v' : Value), cs[i]? = some v -> cs'[i]? = some v' -> VRel ρ v v') : VRel ρ (.func fn fs cs) (.func fn fs' cs')
 | yield {l : Nat} {x : Img} (h : ρ l = some x) : VRel ρ (.func (.yield l) #[] #[]) (.func (.yield x.blk) #[] #[])
 | nilIface : VRel ρ .nilIface .nilIface
 | iface {t : TypeId} {v v' : Value} (h : VRel ρ v v') : VRel ρ (.iface t v) (.iface t v')
 | agg {cs cs' : Array Value} (hc : cs.size = cs'.size) (h : ∀ (i : Nat) (v v' : Value), cs[i]? = some v -> cs'[i]? = some v' -> VRel ρ v v') : VRel ρ (.agg cs) (.agg cs')
 | tuple {cs cs' : Array Value} (hc : cs.size = cs'.size) (h : ∀ (i : Nat) (v v' : Value), cs[i]? = some v -> cs'[i]? = some v' -> VRel ρ v v') : VRel ρ (.tuple cs) (.tuple cs')
theorem VRel.mono {ρ ρ' : Ren} (hρ : ρ.Le ρ') {v v' : Value} (h : VRel ρ v v') : VRel ρ' v v' := by
 induction h with
 | bool b => exact .bool b
 | int k n => exact .int k n
 | string s => exact .string s
 | nilPtr => exact .nilPtr
 | ptr h => exact .ptr (hρ _ _ h)
 | nilSlice n c => exact .nilSlice n c
 | slice h hc => exact .slice (hρ _ _ h) hc
 | loose h hc hn hx ho => exact .loose (hρ _ _ h) hc hn hx ho
 | nilMap => exact .nilMap
 | map h => exact .map (hρ _ _ h)
 | nilFunc => exact .nilFunc
 | func hy hf _ hc _ ih1 ih2 => exact .func hy hf (fun i v v' a b => ih1 i v v' a b) hc (fun i v v' a b => ih2 i v v' a b)
 | yield h => exact .yield (hρ _ _ h)
 | nilIface => exact .nilIface
 | iface _ ih => exact .iface ih
 | agg hc _ ih => exact .agg hc (fun i v v' a b => ih i v v' a b)
 | tuple hc _ ih => exact .tuple hc (fun i v v' a b => ih i v v' a b)
def ARel (ρ : Ren) (xs ys : Array Value) : Prop := xs.size = ys.size /\ ∀ (i : Nat) (v v' : Value), xs[i]? = some v -> ys[i]? = some v' -> VRel ρ v v'
theorem ARel.mono {ρ ρ' : Ren} (hρ : ρ.Le ρ') {xs ys : Array Value} (h : ARel ρ xs ys) : ARel ρ' xs ys := ⟨h.1, fun i v v' a b => (h.2 i v v' a b).mono hρ⟩
theorem ARel.get {ρ : Ren} {xs ys : Array Value} (h : ARel ρ xs ys) {i : Nat} {v : Value} (hi : xs[i]? = some v) : ∃ v', ys[i]? = some v' /\ VRel ρ v v' := by
 have hlt : i < xs.size := (Array.getElem?_eq_some_iff.1 hi).1
 have hlt' : i < ys.size := h.1 ▸ hlt
 exact ⟨ys[i], Array.getElem?_eq_getElem hlt', h.2 i v _ hi (Array.getElem?_eq_getElem hlt')⟩
theorem ARel.none {ρ : Ren} {xs ys : Array Value} (h : ARel ρ xs ys) {i : Nat} (hi : xs[i]? = none) : ys[i]? = none := by
 rw [Array.getElem?_eq_none_iff] at hi ⊢
 exact h.1 ▸ hi
theorem ARel.undef {ρ : Ren} : VRel ρ Go.undef Go.undef := .tuple rfl (fun i v v' a => by simp [Go.undef] at a)
theorem ARel.getD {ρ : Ren} {xs ys : Array Value} (h : ARel ρ xs ys) (i : Nat) : VRel ρ (xs.getD i Go.undef) (ys.getD i Go.undef) := by
 rw [Array.getD_eq_getD_getElem?, Array.getD_eq_getD_getElem?]
 cases hi : xs[i]? with
 | none => rw [h.none hi]; exact ARel.undef
 | some v => obtain ⟨v', h1, h2⟩ := h.get hi; rw [h1]; exact h2
theorem ARel.set {ρ : Ren} {xs ys : Array Value} (h : ARel ρ xs ys) (i : Nat) {v v' : Value} (hv : VRel ρ v v') : ARel ρ (xs.setIfInBounds i v) (ys.setIfInBounds i v') := by
 refine ⟨by simp [h.1], fun j u u' a b => ?_⟩
 rw [Array.getElem?_setIfInBounds] at a b
 by_cases e : i = j
 ·subst e
  have hx : i < xs.size := by
   rcases Nat.lt_or_ge i xs.size with hh | hh
   ·exact hh
   ·rw [if_pos rfl, if_neg (by omega)] at a; cases a
  rw [if_pos rfl, if_pos hx] at a
  rw [if_pos rfl, if_pos (h.1 ▸ hx)] at b
  cases a; cases b; exact hv
 ·rw [if_neg e] at a b
  exact h.2 j u u' a b
theorem ARel.append {ρ : Ren} {xs ys xs' ys' : Array Value} (h : ARel ρ xs ys) (h' : ARel ρ xs' ys') : ARel ρ (xs ++ xs') (ys ++ ys') := by
 refine ⟨by simp [h.1, h'.1], fun j u u' a b => ?_⟩
 rw [Array.getElem?_append] at a b
 rw [<- h.1] at b
 split at a
 ·rw [if_pos ‹_›] at b; exact h.2 _ _ _ a b
 ·rw [if_neg ‹_›] at b; exact h'.2 _ _ _ a b
theorem ARel.replicate {ρ : Ren} (n : Nat) {v v' : Value} (h : VRel ρ v v') : ARel ρ (Array.replicate n v) (Array.replicate n v') := by
 refine ⟨by simp, fun j u u' a b => ?_⟩
 rw [Array.getElem?_replicate] at a b
 split at a
 ·rw [if_pos ‹_›] at b; cases a; cases b; exact h
 ·cases a
theorem ARel.empty {ρ : Ren} : ARel ρ #[] #[] := ⟨rfl, fun i v v' a => by simp at a⟩
theorem ARel.push {ρ : Ren} {xs ys : Array Value} (h : ARel ρ xs ys) {v v' : Value} (hv : VRel ρ v v') : ARel ρ (xs.push v) (ys.push v') := by
 refine ⟨by simp [h.1], fun j u u' a b => ?_⟩
 rw [Array.getElem?_push] at a b
 rw [<- h.1] at b
 split at a
 ·rw [if_pos ‹_›] at b; cases a; cases b; exact hv
 ·rw [if_neg ‹_›] at b; exact h.2 _ _ _ a b
theorem ARel.extract {ρ : Ren} {xs ys : Array Value} (h : ARel ρ xs ys) (i j : Nat) : ARel ρ (xs.extract i j) (ys.extract i j) := by
 refine ⟨by simp [h.1], fun k u u' a b => ?_⟩
 rw [Array.getElem?_extract] at a b
 rw [<- h.1] at b
 split at a
 ·rw [if_pos ‹_›] at b; exact h.2 _ _ _ a b
 ·cases a
theorem ARel.map {ρ : Ren} {α : Type} (l : Array α) {f g : α -> Value} (h : ∀ x, x ∈ l -> VRel ρ (f x) (g x)) : ARel ρ (l.map f) (l.map g) := by
 refine ⟨by simp, fun k u u' a b => ?_⟩
 rw [Array.getElem?_map] at a b
 cases hl : l[k]? with
 | none => rw [hl] at a; cases a
 | some x =>
   rw [hl] at a b
   cases a; cases b
   exact h x (Array.mem_of_getElem? hl)
theorem VRel.cells {ρ : Ren} {v v' : Value} (h : VRel ρ v v') : ARel ρ v.cells v'.cells := by
 have one : ∀ {u u' : Value}, VRel ρ u u' -> ARel ρ #[u] #[u'] := fun {u u'} hu => ⟨rfl, fun i a b ha hb => by
  cases i with
  | zero => simp at ha hb; subst ha; subst hb; exact hu
  | succ i => simp at ha⟩
 cases h with
 | agg hc h => exact ⟨hc, h⟩
 | _ => exact one (by constructor <;> assumption)
structure ERel (ρ : Ren) (e e' : MapEntry) : Prop where
 key : VRel ρ e.key e'.key
 val : VRel ρ e.val e'.val
 born : e.born = e'.born
def alive : Obj -> Bool
 | .pending .. => false
 | _ => true
inductive ORel (P : Program) (ρ : Ren) (x : Img) : Obj -> Obj -> Prop
 | cells {c c' : Array Value} {t : TypeId} (ht : c'.size = x.tot) (hs : x.shift + c.size <= x.tot) (hz : (P.info? t).map (·.size) = some x.sz)
  (h : ∀ (i : Nat) (v : Value), c[i]? = some v -> ∃ v', c'[i + x.shift]? = some v' /\ VRel ρ v v') : ORel P ρ x (.cells c t (0, 0)) (.cells c' t (0, 0))
 | map {es es' : Array MapEntry} {clock : Nat} (hs : es.size = es'.size) (h : ∀ (i : Nat) (e e' : MapEntry), es[i]? = some e -> es'[i]? = some e' -> ERel ρ e e') : ORel P ρ x (.map es clock) (.map es' clock)
 | iter (s : ByteArray) (pos : Nat) (hx : x.shift = 0) : ORel P ρ x (.stringIter s pos) (.stringIter s pos)
 | deferred : ORel P ρ x (.deferred (some [])) (.deferred (some []))
 | loop {st : LoopState} {pe : Option Code} {fn fn' : FuncId} {ts ts' : Array Value} {ps : Array Tmp} {as bo : Code} {d : Nat} {y : Img} (h : ARel ρ ts ts') (hd : ρ d = some y) :
  ORel P ρ x (.loop ⟨st, pe, fn, ts, ps, as, bo, d⟩) (.loop ⟨st, pe, fn', ts', ps, as, bo, y.blk⟩)
theorem ORel.mono {P : Program} {ρ ρ' : Ren} (hρ : ρ.Le ρ') {x : Img} {o o' : Obj} (h : ORel P ρ x o o') : ORel P ρ' x o o' := by
 cases h with
 | cells ht hs hz h => exact .cells ht hs hz (fun i v hi => let ⟨v', a, b⟩ := h i v hi; ⟨v', a, b.mono hρ⟩)
 | map hs h => exact .map hs (fun i e e' a b => let k := h i e e' a b; ⟨k.key.mono hρ, k.val.mono hρ, k.born⟩)
 | iter s p h => exact .iter s p h
 | deferred => exact .deferred
 | loop h hd => exact .loop (h.mono hρ) (hρ _ _ hd)
structure WRel (P : Program) (base : Nat) (ρ : Ren) (wA w : World) : Prop where
 low : base <= w.heap.size
 dom : ∀ b x, ρ b = some x -> b < wA.heap.size /\ base <= x.blk /\ x.blk < w.heap.size
 obj : ∀ b o x, wA.heap[b]? = some o -> alive o = true -> ρ b = some x -> ∃ o', w.heap[x.blk]? = some o' /\ ORel P ρ x o o'
 inj : ∀ b b' o o' x x', wA.heap[b]? = some o -> alive o = true -> wA.heap[b']? = some o' -> alive o' = true -> ρ b = some x -> ρ b' = some x' -> x.blk = x'.blk -> b = b'
structure Stp (P : Program) (base fl : Nat) (ρ : Ren) (wA w : World) (ρ' : Ren) (wA' w' : World) : Prop where
 le : ρ.Le ρ'
 rel : WRel P base ρ' wA' w'
 new : ∀ b x, ρ' b = some x -> ρ b = some x \/ (wA.heap.size <= b /\ (w.heap.size <= x.blk \/ ∃ b0 x0, fl <= b0 /\ ρ b0 = some x0 /\ x0.blk = x.blk))
 sizeA : wA.heap.size <= wA'.heap.size
 size : w.heap.size <= w'.heap.size
 os : w'.os = w.os
 tape : w'.tape = w.tape
 output : w'.output = w.output
 keepA : ∀ b, b < fl -> wA'.heap[b]? = wA.heap[b]?
 keep : ∀ k, k < w.heap.size -> (∀ b x, fl <= b -> ρ b = some x -> x.blk ≠ k) -> w'.heap[k]? = w.heap[k]?
theorem Stp.refl {P : Program} {base fl : Nat} {ρ : Ren} {wA w : World} (h : WRel P base ρ wA w) : Stp P base fl ρ wA w ρ wA w :=
 ⟨.refl _, h, fun _ _ h => .inl h, Nat.le_refl _, Nat.le_refl _, rfl, rfl, rfl, fun _ _ => rfl, fun _ _ _ => rfl⟩
theorem Stp.trans {P : Program} {base fl : Nat} {ρ ρ1 ρ2 : Ren} {wA w wA1 w1 wA2 w2 : World} (h : Stp P base fl ρ wA w ρ1 wA1 w1) (k : Stp P base fl ρ1 wA1 w1 ρ2 wA2 w2) :
 Stp P base fl ρ wA w ρ2 wA2 w2 where
 le := h.le.trans k.le
 rel := k.rel
 new b x e := by
  rcases k.new b x e with e1 | ⟨e1, e2⟩
  ·exact h.new b x e1
  ·refine .inr ⟨Nat.le_trans h.sizeA e1, ?_⟩
   rcases e2 with e2 | ⟨b0, x0, f1, f2, f3⟩
   ·exact .inl (Nat.le_trans h.size e2)
   ·rcases h.new b0 x0 f2 with g | ⟨_, g | ⟨b1, x1, g1, g2, g3⟩⟩
    ·exact .inr ⟨b0, x0, f1, g, f3⟩
    ·exact .inl (f3 ▸ g)
    ·exact .inr ⟨b1, x1, g1, g2, g3.trans f3⟩
 sizeA := Nat.le_trans h.sizeA k.sizeA
 size := Nat.le_trans h.size k.size
 os := k.os.trans h.os
 tape := k.tape.trans h.tape
 output := k.output.trans h.output
 keepA b hb := (k.keepA b hb).trans (h.keepA b hb)
 keep j hj hn := by
  rw [<- h.keep j hj hn]
  refine k.keep j (Nat.lt_of_lt_of_le hj h.size) (fun b x hb hx hxj => ?_)
  rcases h.new b x hx with e | ⟨_, e⟩
  ·exact hn b x hb e hxj
  ·rcases e with e | ⟨b1, x1, g1, g2, g3⟩
   ·omega
   ·exact hn b1 x1 g1 g2 (g3.trans hxj)
theorem WRel.Qzz {P : Program} {base : Nat} {ρ : Ren} {wA w : World} (h : WRel P base ρ wA w) (n : Nat) : WRel P base ρ wA { w with drawn := n } := ⟨h.low, h.dom, h.obj, h.inj⟩
def Sim (P : Program) (base fl : Nat) {α β : Type} (R : Ren -> α -> β -> Prop) (ρ : Ren) (s : Sem α) (s' : Sem β) : Prop :=
 ∀ wA w a wA', WRel P base ρ wA w -> fl <= wA.heap.size -> s.run P wA = .ok a wA' -> ∃ ρ' b w', s'.run P w = .ok b w' /\ R ρ' a b /\ Stp P base fl ρ wA w ρ' wA' w'
section
variable {P : Program} {base fl : Nat} {ρ : Ren} {α β γ δ : Type}
theorem Sim.pure {R : Ren -> α -> β -> Prop} {a : α} {b : β} (h : R ρ a b) : Sim P base fl R ρ (Pure.pure a) (Pure.pure b) := by
 intro wA w x wA' hr _ e
 simp only [Sem.run_pure, Result.ok.injEq] at e
 obtain ⟨rfl, rfl⟩ := e
 exact ⟨ρ, b, w, rfl, h, .refl hr⟩
theorem Sim.bind {R : Ren -> α -> β -> Prop} {R' : Ren -> γ -> δ -> Prop} {s : Sem α} {s' : Sem β} {f : α -> Sem γ} {g : β -> Sem δ} (h : Sim P base fl R ρ s s')
 (k : ∀ ρ' a b, ρ.Le ρ' -> R ρ' a b -> Sim P base fl R' ρ' (f a) (g b)) : Sim P base fl R' ρ (s >>= f) (s' >>= g) := by
 intro wA w c wA' hr hf e
 rw [Sem.run_bind] at e
 cases hs : s.run P wA with
 | halt x y => rw [hs] at e; cases e
 | ok a wA1 =>
   rw [hs] at e
   simp only [Result.andThen_ok] at e
   obtain ⟨ρ1, b, w1, e1, r1, s1⟩ := h wA w a wA1 hr hf hs
   obtain ⟨ρ2, d, w2, e2, r2, s2⟩ := k ρ1 a b s1.le r1 wA1 w1 c wA' s1.rel (Nat.le_trans hf s1.sizeA) e
   exact ⟨ρ2, d, w2, by rw [Sem.run_bind, e1]; exact e2, r2, s1.trans s2⟩
theorem Sim.mono {R R' : Ren -> α -> β -> Prop} {s : Sem α} {s' : Sem β} (h : Sim P base fl R ρ s s') (k : ∀ ρ' a b, ρ.Le ρ' -> R ρ' a b -> R' ρ' a b) : Sim P base fl R' ρ s s' := by
 intro wA w c wA' hr hf e
 obtain ⟨ρ1, b, w1, e1, r1, s1⟩ := h wA w c wA' hr hf e
 exact ⟨ρ1, b, w1, e1, k _ _ _ s1.le r1, s1⟩
theorem Sim.halt {R : Ren -> α -> β -> Prop} {h : Halt} {s' : Sem β} : Sim P base fl R ρ (Sem.halt h) s' := by
 intro wA w c wA' _ _ e
 rw [Sem.run_halt] at e
 cases e
theorem Sim.stuck {R : Ren -> α -> β -> Prop} {h : String} {s' : Sem β} : Sim P base fl R ρ (Go.stuck h) s' := Sim.halt
theorem Sim.unsupported {R : Ren -> α -> β -> Prop} {h : Unsupported} {s' : Sem β} : Sim P base fl R ρ (Go.unsupported h) s' := Sim.halt
def Free (P : Program) (s : Sem α) : Prop := (∃ a, ∀ w, s.run P w = .ok a w) \/ (∀ w, ∃ h w', s.run P w = .halt h w')
theorem Free.pure (a : α) : Free P (Pure.pure a : Sem α) := .inl ⟨a, fun _ => rfl⟩
theorem Free.halt (h : Halt) : Free P (Sem.halt h : Sem α) := .inr fun w => ⟨h, w, rfl⟩
theorem Free.bind {s : Sem α} {f : α -> Sem β} (h : Free P s) (k : ∀ a, Free P (f a)) : Free P (s >>= f) := by
 rcases h with ⟨a, ha⟩ | hh
 ·rcases k a with ⟨b, hb⟩ | hk
  ·exact .inl ⟨b, fun w => by rw [Sem.run_bind, ha w]; exact hb w⟩
  ·refine .inr fun w => ?_
   obtain ⟨x, y, e⟩ := hk w
   exact ⟨x, y, by rw [Sem.run_bind, ha w]; exact e⟩
 ·refine .inr fun w => ?_
  obtain ⟨x, y, e⟩ := hh w
  exact ⟨x, y, by rw [Sem.run_bind, e]; rfl⟩
theorem Free.ite {c : Prop} [Decidable c] {s t : Sem α} (h : Free P s) (k : Free P t) : Free P (if c then s else t) := by split <;> assumption
theorem Free.program : Free P Go.program := .inl ⟨P, fun _ => rfl⟩
theorem Free.runtimePanic (e : RuntimeError) (he : ∀ a b c d, e ≠ .typeAssertion a b c d) (hp : e ≠ .panicNil) : Free P (Go.runtimePanic e : Sem α) := by
 unfold Go.runtimePanic
 refine .bind .program fun p => ?_
 cases e with
 | typeAssertion a b c d => exact absurd rfl (he a b c d)
 | panicNil => exact absurd rfl hp
 | _ => exact .halt _
theorem Free.typeInfo (t : TypeId) : Free P (Go.typeInfo t) := by
 unfold Go.typeInfo
 refine .bind .program fun p => ?_
 split
 ·exact .pure _
 ·exact .halt _
theorem Free.underlying (t : TypeId) : Free P (Go.underlying t) := by
 unfold Go.underlying
 refine .bind .program fun p => ?_
 split
 ·exact .pure _
 ·exact .halt _
theorem Free.zeroValue (t : TypeId) : Free P (Go.zeroValue t) := by
 unfold Go.zeroValue
 refine .bind (.typeInfo t) fun p => ?_
 split
 ·exact .pure _
 ·exact .halt _
theorem Free.sizeOf (t : TypeId) : Free P (Go.sizeOf t) := by
 unfold Go.sizeOf
 exact .bind (.typeInfo t) fun p => .pure _
theorem Free.isAgg (t : TypeId) : Free P (Go.isAgg t) := by
 unfold Go.isAgg
 refine .bind (.underlying t) fun p => ?_
 split <;> exact .pure _
theorem Free.run {s : Sem α} (h : Free P s) {w w' w1 : World} {a : α} (e : s.run P w = .ok a w') : w' = w /\ s.run P w1 = .ok a w1 := by
 rcases h with ⟨b, hb⟩ | hh
 ·rw [hb w] at e
  injection e with e1 e2
  subst e1; subst e2
  exact ⟨rfl, hb w1⟩
 ·obtain ⟨x, y, e1⟩ := hh w
  rw [e1] at e; cases e
theorem Sim.free {R : Ren -> α -> α -> Prop} {s : Sem α} (h : Free P s) (k : ∀ a, R ρ a a) : Sim P base fl R ρ s s := by
 intro wA w c wA' hr hf e
 obtain ⟨rfl, e1⟩ := h.run (w1 := w) e
 exact ⟨ρ, c, w, e1, k c, .refl hr⟩
theorem Sim.Xc {R' : Ren -> γ -> δ -> Prop} {s : Sem α} {f : α -> Sem γ} {g : α -> Sem δ} (h : Free P s)
 (k : ∀ a, (∀ w, s.run P w = .ok a w) -> Sim P base fl R' ρ (f a) (g a)) : Sim P base fl R' ρ (s >>= f) (s >>= g) := by
 intro wA w c wA' hr hf e
 rcases h with ⟨a, ha⟩ | hh
 ·rw [Sem.run_bind, ha] at e
  simp only [Result.andThen_ok] at e
  obtain ⟨ρ1, b, w1, e1, r1, s1⟩ := k a ha wA w c wA' hr hf e
  exact ⟨ρ1, b, w1, by rw [Sem.run_bind, ha]; exact e1, r1, s1⟩
 ·obtain ⟨x, y, e1⟩ := hh wA
  rw [Sem.run_bind, e1] at e; cases e
end
end Go.Proofs.Ytfeedchjdnedjaa.Ev
namespace Go.Proofs.Ytfeedchjdnedjaa.Ev
open Go
section
variable {P : Program} {base fl : Nat} {ρ : Ren}
theorem WRel.put {wA w wA' w' : World} (h : WRel P base ρ wA w) {b : Nat} {x : Img} {o o1 o1' : Obj} (hb : ρ b = some x) (ho : wA.heap[b]? = some o) (ha : alive o = true)
 (hA : ∀ k, wA'.heap[k]? = if k = b then some o1 else wA.heap[k]?) (hw : ∀ k, w'.heap[k]? = if k = x.blk then some o1' else w.heap[k]?)
 (hs : wA'.heap.size = wA.heap.size) (hs' : w'.heap.size = w.heap.size) (hr : ORel P ρ x o1 o1') : WRel P base ρ wA' w' where
 low := by have := h.low; omega
 dom b' x' e := by have := h.dom b' x' e; omega
 obj b' o' x' e1 e2 e3 := by
  rw [hA] at e1
  by_cases hbb : b' = b
  ·subst hbb
   rw [if_pos rfl] at e1
   injection e1 with e1
   rw [hb] at e3
   injection e3 with e3
   subst e3; subst e1
   exact ⟨o1', by rw [hw, if_pos rfl], hr⟩
  ·rw [if_neg hbb] at e1
   obtain ⟨o2, h2, h3⟩ := h.obj b' o' x' e1 e2 e3
   have hne : x'.blk ≠ x.blk := fun e => hbb (h.inj b' b o' o x' x e1 e2 ho ha e3 hb e)
   exact ⟨o2, by rw [hw, if_neg hne]; exact h2, h3⟩
 inj b1 b2 o1_ o2_ x1 x2 e1 a1 e2 a2 r1 r2 hx := by
  have key : ∀ (b' : Nat) (o' : Obj), wA'.heap[b']? = some o' -> alive o' = true -> ∃ o'', wA.heap[b']? = some o'' /\ alive o'' = true := by
   intro b' o' e1 e2
   rw [hA] at e1
   by_cases hbb : b' = b
   ·subst hbb; exact ⟨o, ho, ha⟩
   ·rw [if_neg hbb] at e1; exact ⟨o', e1, e2⟩
  obtain ⟨p1, q1, q2⟩ := key b1 o1_ e1 a1
  obtain ⟨p2, q3, q4⟩ := key b2 o2_ e2 a2
  exact h.inj b1 b2 p1 p2 x1 x2 q1 q2 q3 q4 r1 r2 hx
theorem Stp.put {wA w wA' w' : World} (h : WRel P base ρ wA w) {b : Nat} {x : Img} {o o1 o1' : Obj} (hf : fl <= b) (hb : ρ b = some x) (ho : wA.heap[b]? = some o) (ha : alive o = true)
 (hA : ∀ k, wA'.heap[k]? = if k = b then some o1 else wA.heap[k]?) (hw : ∀ k, w'.heap[k]? = if k = x.blk then some o1' else w.heap[k]?)
 (hs : wA'.heap.size = wA.heap.size) (hs' : w'.heap.size = w.heap.size) (h1 : w'.os = w.os) (h2 : w'.tape = w.tape) (h3 : w'.output = w.output) (hr : ORel P ρ x o1 o1') :
 Stp P base fl ρ wA w ρ wA' w' where
 le := .refl _
 rel := h.put hb ho ha hA hw hs hs' hr
 new _ _ e := .inl e
 sizeA := by omega
 size := by omega
 os := h1
 tape := h2
 output := h3
 keepA k hk := by rw [hA, if_neg (by omega)]
 keep k hk hn := by rw [hw, if_neg (fun e => hn b x hf hb e.symm)]
theorem WRel.new {wA w : World} (h : WRel P base ρ wA w) (hfl : fl <= wA.heap.size) {o o' : Obj} {x : Img} (hx : x.blk = w.heap.size) (hr : alive o = true -> ORel P (fun k => if k = wA.heap.size then some x else ρ k) x o o') :
 Stp P base fl ρ wA w (fun k => if k = wA.heap.size then some x else ρ k) (wA.alloc o) (w.alloc o') := by
 have hle : ρ.Le (fun k => if k = wA.heap.size then some x else ρ k) := fun b y e => by
  have := (h.dom b y e).1
  show (if b = wA.heap.size then some x else ρ b) = some y
  rw [if_neg (by omega)]; exact e
 have hgA : ∀ k, (wA.alloc o).heap[k]? = if k = wA.heap.size then some o else wA.heap[k]? := fun k => by
  show (wA.heap.push o)[k]? = _; rw [Array.getElem?_push]
 have hg : ∀ k, (w.alloc o').heap[k]? = if k = w.heap.size then some o' else w.heap[k]? := fun k => by
  show (w.heap.push o')[k]? = _; rw [Array.getElem?_push]
 have hsA : (wA.alloc o).heap.size = wA.heap.size + 1 := Array.size_push _
 have hs : (w.alloc o').heap.size = w.heap.size + 1 := Array.size_push _
 refine ⟨hle, ⟨by have := h.low; omega, ?_, ?_, ?_⟩, ?_, by omega, by omega, rfl, rfl, rfl, ?_, ?_⟩
 ·intro b y e
  rw [hsA, hs]
  by_cases hb : b = wA.heap.size
  ·rw [if_pos hb] at e; injection e with e; subst e; have := h.low; omega
  ·rw [if_neg hb] at e; have := h.dom b y e; omega
 ·intro b oo y e1 e2 e3
  rw [hgA] at e1
  by_cases hb : b = wA.heap.size
  ·rw [if_pos hb] at e1 e3
   injection e1 with e1; injection e3 with e3
   subst e1; subst e3
   exact ⟨o', by rw [hg, if_pos hx], hr e2⟩
  ·rw [if_neg hb] at e1 e3
   obtain ⟨o2, p, q⟩ := h.obj b oo y e1 e2 e3
   have hlt := (h.dom b y e3).2.2
   exact ⟨o2, by rw [hg, if_neg (by omega)]; exact p, q.mono hle⟩
 ·intro b1 b2 o1 o2 x1 x2 e1 a1 e2 a2 r1 r2 hxx
  rw [hgA] at e1 e2
  by_cases h1 : b1 = wA.heap.size <;> by_cases h2 : b2 = wA.heap.size
  ·omega
  ·rw [if_pos h1] at r1; rw [if_neg h2] at r2
   injection r1 with r1; subst r1
   have := (h.dom b2 x2 r2).2.2; omega
  ·rw [if_neg h1] at r1; rw [if_pos h2] at r2
   injection r2 with r2; subst r2
   have := (h.dom b1 x1 r1).2.2; omega
  ·rw [if_neg h1] at r1 e1; rw [if_neg h2] at r2 e2
   exact h.inj b1 b2 o1 o2 x1 x2 e1 a1 e2 a2 r1 r2 hxx
 ·intro b y e
  by_cases hb : b = wA.heap.size
  ·rw [if_pos hb] at e; injection e with e; subst e; exact .inr ⟨by omega, .inl (by omega)⟩
  ·rw [if_neg hb] at e; exact .inl e
 ·intro b hb
  rw [hgA]
  rw [if_neg (by omega)]
 ·intro k hk _
  rw [hg, if_neg (by omega)]
theorem cell_of {w : World} {b o : Nat} {v : Value} (h : w.cell? ⟨b, o, none⟩ = some v) : ∃ c t fr, w.heap[b]? = some (.cells c t fr) /\ c[o]? = some v := by
 unfold World.cell? at h
 split at h
 ·rename_i c t fr he
  simp only [Option.isSome_none, Bool.false_eq_true, if_false] at h
  exact ⟨c, t, fr, he, h⟩
 ·cases h
theorem Qky {w : World} {b o : Nat} {v : Value} {c : Array Value} {t : TypeId} {fr : Nat × Nat} (h : w.heap[b]? = some (.cells c t fr)) (hv : c[o]? = some v) : w.cell? ⟨b, o, none⟩ = some v := by
 unfold World.cell?
 rw [h]
 simpa using hv
theorem WRel.at {wA w : World} (h : WRel P base ρ wA w) {b o : Nat} {x : Img} (hb : ρ b = some x) {v : Value} (hc : wA.cell? ⟨b, o, none⟩ = some v) :
 ∃ v', w.cell? ⟨x.blk, o + x.shift, none⟩ = some v' /\ VRel ρ v v' := by
 obtain ⟨c, t, fr, h1, h2⟩ := cell_of hc
 obtain ⟨o', h3, h4⟩ := h.obj b _ x h1 rfl hb
 cases h4 with
 | cells ht hs hz hh =>
   obtain ⟨v', a, r⟩ := hh o v h2
   exact ⟨v', Qky h3 a, r⟩
theorem WRel.Qyx {wA w : World} (h : WRel P base ρ wA w) {b o : Nat} {x : Img} (hb : ρ b = some x) (m : Bool) : ∃ e, wA.farLoad P ⟨b, o, none⟩ m = .error e := by
 unfold World.farLoad
 cases he : wA.heap[b]? with
 | none => exact ⟨_, rfl⟩
 | some ob =>
   cases ob with
   | view a t => obtain ⟨o', _, h4⟩ := h.obj b _ x he rfl hb; cases h4
   | _ => exact ⟨_, rfl⟩
theorem WRel.Qyy {wA w : World} (h : WRel P base ρ wA w) {b o : Nat} {x : Img} (hb : ρ b = some x) (v : Value) (m : Bool) : ∃ e, wA.farStore P ⟨b, o, none⟩ v m = .error e := by
 unfold World.farStore
 cases he : wA.heap[b]? with
 | none => exact ⟨_, rfl⟩
 | some ob =>
   cases ob with
   | view a t => obtain ⟨o', _, h4⟩ := h.obj b _ x he rfl hb; cases h4
   | _ => exact ⟨_, rfl⟩
theorem Sim.load {b o : Nat} {x : Img} (hb : ρ b = some x) : Sim P base fl VRel ρ (Go.load ⟨b, o, none⟩) (Go.load ⟨x.blk, o + x.shift, none⟩) := by
 intro wA w v wA' hr hf e
 rw [run_load] at e
 cases hc : wA.cell? ⟨b, o, none⟩ with
 | none =>
   obtain ⟨er, he⟩ := hr.Qyx hb (o := o) (Mode.plain == .atomic)
   rw [hc] at e
   simp only [he] at e
   cases e
 | some u =>
   rw [hc] at e
   simp only [Result.ok.injEq] at e
   obtain ⟨rfl, rfl⟩ := e
   obtain ⟨v', h1, h2⟩ := hr.at hb hc
   exact ⟨ρ, v', w, by rw [run_load, h1], h2, .refl hr⟩
theorem VRel.one {v v' : Value} (h : VRel ρ v v') : v.oneCell' = v'.oneCell' := by cases h <;> rfl
theorem heap_setCell {w : World} {b o : Nat} {v : Value} {c : Array Value} {t : TypeId} {fr : Nat × Nat} (h : w.heap[b]? = some (.cells c t fr)) (k : Nat) :
 (w.setCell ⟨b, o, none⟩ v).heap[k]? = if k = b then some (.cells (c.setIfInBounds o v) t fr) else w.heap[k]? := by
 simp only [World.setCell, Array.getElem?_modify]
 by_cases e : k = b
 ·subst e; simp [h]
 ·rw [if_neg (fun h => e h.symm), if_neg e]
theorem size_setCell {w : World} {a : Addr} {v : Value} : (w.setCell a v).heap.size = w.heap.size := by simp [World.setCell]
theorem Sim.store {b o : Nat} {x : Img} (hb : ρ b = some x) (hfb : fl <= b) {v v' : Value} (hv : VRel ρ v v') :
 Sim P base fl (fun _ _ _ => True) ρ (Go.store ⟨b, o, none⟩ v) (Go.store ⟨x.blk, o + x.shift, none⟩ v') := by
 intro wA w u wA' hr hf e
 by_cases h1 : v.oneCell' = true
 ·have h1' : v'.oneCell' = true := by rw [<- hv.one]; exact h1
  rw [run_store _ _ _ _ _ h1] at e
  cases hc : wA.cell? ⟨b, o, none⟩ with
  | none =>
    obtain ⟨er, he⟩ := hr.Qyy hb (o := o) v (Mode.plain == .atomic)
    rw [hc] at e
    simp only [he] at e
    cases e
  | some y =>
    obtain ⟨c, t, fr, h2, h3⟩ := cell_of hc
    obtain ⟨o', h4, h5⟩ := hr.obj b _ x h2 rfl hb
    cases h5 with
    | @cells _ c' _ ht hs hz hh =>
      obtain ⟨y', h6, h7⟩ := hh o y h3
      have hfz : ∀ (W : World) (a : Addr) (cc : Array Value) (tt : TypeId), W.heap[a.block]? = some (.cells cc tt (0, 0)) -> W.frozen? a = false := fun W a cc tt hW => by
       unfold World.frozen?; rw [hW]; simp
      rw [hc] at e
      simp only [hfz wA ⟨b, o, none⟩ _ _ h2, Bool.false_eq_true, if_false, Result.ok.injEq] at e
      obtain ⟨_, rfl⟩ := e
      refine ⟨ρ, (), w.setCell ⟨x.blk, o + x.shift, none⟩ v', ?_, trivial, ?_⟩
      ·rw [run_store _ _ _ _ _ h1', Qky h4 h6]
       simp only [hfz w ⟨x.blk, o + x.shift, none⟩ _ _ h4, Bool.false_eq_true, if_false]
      ·refine Stp.put hr hfb hb h2 rfl (heap_setCell h2) (heap_setCell h4) size_setCell size_setCell rfl rfl rfl ?_
       refine .cells (by simpa using ht) (by simpa using hs) hz (fun i z hi => ?_)
       rw [Array.getElem?_setIfInBounds] at hi
       by_cases hio : o = i
       ·subst hio
        rw [if_pos rfl, if_pos (Array.getElem?_eq_some_iff.1 h3).1] at hi
        injection hi with hi
        subst hi
        exact ⟨v', by rw [Array.getElem?_setIfInBounds, if_pos rfl, if_pos (Array.getElem?_eq_some_iff.1 h6).1], hv⟩
       ·rw [if_neg hio] at hi
        obtain ⟨z', p, q⟩ := hh i z hi
        exact ⟨z', by rw [Array.getElem?_setIfInBounds, if_neg (by omega)]; exact p, q⟩
 ·exfalso
  cases v <;> simp [Value.oneCell'] at h1 <;> simp [Go.store, Sem.run] at e
theorem add_zero (a : Addr) : a.add 0 = a := rfl
theorem Yi (b o n : Nat) : Addr.add ⟨b, o, none⟩ n = ⟨b, o + n, none⟩ := by
 unfold Addr.add
 split
 ·subst_vars; rfl
 ·rfl
theorem Sim.loadCellsFrom {b o : Nat} {x : Img} : ∀ (n i : Nat) (acc acc' : Array Value) (ρ : Ren) (hb : ρ b = some x), ARel ρ acc acc' ->
 Sim P base fl ARel ρ (Go.loadCellsFrom ⟨b, o, none⟩ i n acc) (Go.loadCellsFrom ⟨x.blk, o + x.shift, none⟩ i n acc')
 | 0, i, acc, acc', ρ, hb, h => Sim.pure h
 | n + 1, i, acc, acc', ρ, hb, h => by
   unfold Go.loadCellsFrom
   rw [Yi, Yi, show o + x.shift + i = o + i + x.shift by omega]
   exact (Sim.load hb).bind fun ρ' a a' hle ha => Sim.loadCellsFrom n (i + 1) _ _ ρ' (hle _ _ hb) ((h.mono hle).push ha)
theorem Sim.loadCells {b o : Nat} {x : Img} (hb : ρ b = some x) (n : Nat) : Sim P base fl ARel ρ (Go.loadCells ⟨b, o, none⟩ n) (Go.loadCells ⟨x.blk, o + x.shift, none⟩ n) :=
 Sim.loadCellsFrom n 0 #[] #[] ρ hb .empty
inductive LRel (ρ : Ren) : List Value -> List Value -> Prop
 | nil : LRel ρ [] []
 | cons {v v' : Value} {vs vs' : List Value} (h : VRel ρ v v') (k : LRel ρ vs vs') : LRel ρ (v :: vs) (v' :: vs')
theorem LRel.mono {ρ ρ' : Ren} (hρ : ρ.Le ρ') {xs ys : List Value} (h : LRel ρ xs ys) : LRel ρ' xs ys := by
 induction h with
 | nil => exact .nil
 | cons h _ ih => exact .cons (h.mono hρ) ih
theorem ARel.list {xs ys : Array Value} (h : ARel ρ xs ys) : LRel ρ xs.toList ys.toList := by
 obtain ⟨xs⟩ := xs
 obtain ⟨ys⟩ := ys
 obtain ⟨h1, h2⟩ := h
 simp only [List.size_toArray] at h1
 simp only [List.getElem?_toArray] at h2
 induction xs generalizing ys with
 | nil => cases ys with
   | nil => exact .nil
   | cons y ys => simp at h1
 | cons a xs ih => cases ys with
   | nil => simp at h1
   | cons y ys =>
     refine .cons (h2 0 a y rfl rfl) (ih ys (by simpa using h1) (fun i v v' p q => h2 (i + 1) v v' (by simpa using p) (by simpa using q)))
theorem Sim.storeCells {b o : Nat} {x : Img} (hfb : fl <= b) : ∀ (vs vs' : List Value) (i : Nat) (ρ : Ren) (hb : ρ b = some x), LRel ρ vs vs' ->
 Sim P base fl (fun _ _ _ => True) ρ (Go.storeCells ⟨b, o, none⟩ vs i) (Go.storeCells ⟨x.blk, o + x.shift, none⟩ vs' i)
 | [], _, i, ρ, hb, h => by
   cases h
   exact Sim.pure trivial
 | v :: vs, _, i, ρ, hb, h => by
   cases h with
   | cons hv hs =>
     unfold Go.storeCells
     rw [Yi, Yi, show o + x.shift + i = o + i + x.shift by omega]
     exact (Sim.store hb hfb hv).bind fun ρ' _ _ hle _ => Sim.storeCells hfb vs _ (i + 1) ρ' (hle _ _ hb) (LRel.mono hle hs)
def Qqw (sz : Nat) (n : Nat) (ρ : Ren) (a a' : Addr) : Prop := ∃ b x, a = ⟨b, 0, none⟩ /\ a' = ⟨x.blk, 0, none⟩ /\ ρ b = some x /\ x.shift = 0 /\ x.sz = sz /\ x.tot = n
theorem Qqw.ptr {sz n : Nat} {a a' : Addr} (h : Qqw sz n ρ a a') : VRel ρ (.pointer (some a)) (.pointer (some a')) := by
 obtain ⟨b, x, rfl, rfl, hb, hs, _⟩ := h
 have := VRel.ptr (o := 0) hb
 rw [hs] at this
 exact this
theorem Sim.newObj {wo : Ren -> Obj -> Obj -> Img -> Prop} {o o' : Obj} {x : Img}
 (h : ∀ ρ' y, ρ.Le ρ' -> y.shift = x.shift -> y.tot = x.tot -> y.sz = x.sz -> alive o = true -> ORel P ρ' y o o') :
 Sim P base fl (fun ρ' n n' => ∃ y, ρ' n = some y /\ y.blk = n' /\ y.shift = x.shift /\ y.tot = x.tot /\ y.sz = x.sz) ρ (Go.newObj o) (Go.newObj o') := by
 intro wA w n wA' hr hf e
 rw [run_newObj_alloc] at e
 injection e with e1 e2
 subst e1; subst e2
 have hs := WRel.new (P := P) (base := base) (fl := fl) (o := o) (o' := o') (x := { x with blk := w.heap.size }) hr hf rfl
  (fun ha => h _ _ (fun b y e => by
   have := (hr.dom b y e).1
   show (if b = wA.heap.size then _ else ρ b) = some y
   rw [if_neg (by omega)]; exact e) rfl rfl rfl ha)
 exact ⟨_, w.heap.size, w.alloc o', run_newObj_alloc _ _ _, ⟨{ x with blk := w.heap.size }, if_pos rfl, rfl, rfl, rfl, rfl⟩, hs⟩
theorem Sim.newRow {t : TypeId} {sz : Nat} (hz : (P.info? t).map (·.size) = some sz) {cs cs' : Array Value} (hc : ARel ρ cs cs') :
 Sim P base fl (Qqw sz cs'.size) ρ (Go.newRow t cs) (Go.newRow t cs') := by
 unfold Go.newRow
 refine (Sim.newObj (x := ⟨0, 0, cs'.size, sz⟩) (wo := fun _ _ _ _ => True) ?_).bind ?_
 ·intro ρ' y hle h1 h2 h3 _
  refine .cells h2.symm (by rw [h1, h2, hc.1]; exact Nat.le_of_eq (Nat.zero_add _)) (by rw [h3]; exact hz) (fun i v hi => ?_)
  obtain ⟨v', a, b⟩ := hc.get hi
  exact ⟨v', by rw [h1]; exact a, b.mono hle⟩
 ·rintro ρ' n n' hle ⟨y, h1, h2, h3, h4, h5⟩
  exact Sim.pure ⟨n, y, rfl, by rw [h2], h1, h3, h5, h4⟩
theorem Qsp {t : TypeId} {n : Nat} (h : ∀ w, (Go.sizeOf t).run P w = .ok n w) : (P.info? t).map (·.size) = some n := by
 have := h default
 unfold Go.sizeOf Go.typeInfo at this
 simp only [Sem.run_bind, run_program, Result.andThen_ok] at this
 split at this
 ·rename_i i hi
  simp at this
  rw [hi]; simp [this]
 ·simp at this
end
end Go.Proofs.Ytfeedchjdnedjaa.Ev
namespace Go.Proofs.Ytfeedchjdnedjaa.Ev
open Go
def Zn : Value -> Bool
 | .bool _ | .int _ _ | .string _ | .pointer none | .slice none _ _ | .map none | .nilFunc | .nilIface => true
 | _ => false
def ground : Value -> Bool
 | .agg cs => cs.all Zn
 | .tuple cs => cs.all Zn
 | .func (.func _) fs cs => fs.isEmpty && cs.isEmpty
 | v => Zn v
section
variable {P : Program} {base fl : Nat} {ρ : Ren}
theorem Qf9 {v : Value} (h : Zn v = true) : VRel ρ v v := by
 cases v with
 | pointer a => cases a <;> simp [Zn] at h; exact .nilPtr
 | slice a n c => cases a <;> simp [Zn] at h; exact .nilSlice _ _
 | map a => cases a <;> simp [Zn] at h; exact .nilMap
 | bool b => exact .bool b
 | int k n => exact .int k n
 | string s => exact .string s
 | nilFunc => exact .nilFunc
 | nilIface => exact .nilIface
 | _ => simp [Zn] at h
theorem Qjw {cs : Array Value} (h : cs.all Zn = true) : ARel ρ cs cs := by
 rw [Array.all_eq_true_iff_forall_mem] at h
 refine ⟨rfl, fun i v v' a b => ?_⟩
 rw [a] at b; injection b with b; subst b
 exact Qf9 (h v (Array.mem_of_getElem? a))
theorem Qbq {v : Value} (h : ground v = true) : VRel ρ v v := by
 cases v with
 | agg cs => exact .agg rfl (Qjw h).2
 | tuple cs => exact .tuple rfl (Qjw h).2
 | func fn fs cs =>
   cases fn with
   | func f =>
     simp only [ground, Bool.and_eq_true, Array.isEmpty_iff] at h
     obtain ⟨rfl, rfl⟩ := h
     exact .func rfl rfl (fun i v v' a => by simp at a) rfl (fun i v v' a => by simp at a)
   | _ => simp [ground, Zn] at h
 | _ => exact Qf9 h
theorem Qbg {v v' : Value} (h : Zn v = true) (r : VRel ρ v v') : v' = v := by
 cases r <;> first | rfl | (simp [Zn] at h; done)
theorem Qmi {cs cs' : Array Value} (h : cs.all Zn = true) (r : ARel ρ cs cs') : cs' = cs := by
 rw [Array.all_eq_true_iff_forall_mem] at h
 refine Array.ext_getElem? fun i => ?_
 cases hi : cs[i]? with
 | none => exact r.none hi
 | some v =>
   obtain ⟨v', a, b⟩ := r.get hi
   rw [a, Qbg (h v (Array.mem_of_getElem? hi)) b]
theorem Qij {v v' : Value} (h : ground v = true) (r : VRel ρ v v') : v' = v := by
 cases r with
 | agg hc hh => rw [Qmi h ⟨hc, hh⟩]
 | tuple hc hh => rw [Qmi h ⟨hc, hh⟩]
 | @func fn fs fs' cs cs' hy hf h1 hc h2 =>
   cases fn with
   | func f =>
     simp only [ground, Bool.and_eq_true, Array.isEmpty_iff] at h
     obtain ⟨rfl, rfl⟩ := h
     have e1 : fs' = #[] := by rw [<- Array.size_eq_zero_iff, <- hf]; rfl
     have e2 : cs' = #[] := by rw [<- Array.size_eq_zero_iff, <- hc]; rfl
     rw [e1, e2]
   | _ => simp [ground, Zn] at h
 | _ => exact Qbg (ρ := ρ) h (by constructor <;> assumption)
inductive NRel (ρ : Ren) : Next -> Next -> Prop
 | value {v v' : Value} (h : VRel ρ v v') : NRel ρ (.value v) (.value v')
 | skip : NRel ρ .skip .skip
 | enter {f : FuncId} {as as' : Array Value} (h : ARel ρ as as') : NRel ρ (.enter f as) (.enter f as')
theorem Sim.value {s s' : Sem Value} (h : Sim P base fl VRel ρ s s') : Sim P base fl NRel ρ (do Pure.pure (Next.value (<- s))) (do Pure.pure (Next.value (<- s'))) :=
 h.bind fun _ _ _ _ hv => .pure (.value hv)
theorem Sim.unit {s s' : Sem Unit} (h : Sim P base fl (fun _ _ _ => True) ρ s s') : Sim P base fl NRel ρ (do s; Pure.pure Next.skip) (do s'; Pure.pure Next.skip) :=
 h.bind fun _ _ _ _ _ => .pure .skip
section free
theorem Free.intArith (op : BinOp) (k : IntKind) (x y : Int) : Free P (Op.intArith op k x y) := by
 unfold Op.intArith; split <;> first | exact .pure _ | exact .halt _
theorem Free.intDiv (op : BinOp) (k : IntKind) (x y : Int) : Free P (Op.intDiv op k x y) := by
 unfold Op.intDiv
 split
 ·exact .runtimePanic _ (fun _ _ _ _ h => by cases h) (fun h => by cases h)
 ·split <;> first | exact .pure _ | exact .halt _
theorem Free.intBits (op : BinOp) (k : IntKind) (x y : Int) : Free P (Op.intBits op k x y) := by
 unfold Op.intBits; split <;> first | exact .pure _ | exact .halt _
theorem Free.intCmp (op : BinOp) (x y : Int) : Free P (Op.intCmp op x y) := by
 unfold Op.intCmp; split <;> first | exact .pure _ | exact .halt _
theorem Free.shift (op : BinOp) (k : IntKind) (x : Int) (k' : IntKind) (y : Int) : Free P (Op.shift op k x k' y) := by
 unfold Op.shift
 split
 ·exact .runtimePanic _ (fun _ _ _ _ h => by cases h) (fun h => by cases h)
 ·split <;> first | exact .pure _ | exact .halt _
theorem Free.stringOp (op : BinOp) (x y : ByteArray) : Free P (Op.stringOp op x y) := by
 unfold Op.stringOp
 split <;> first | exact .pure _ | exact .halt _ | (split <;> first | exact .pure _ | exact .halt _)
theorem Free.unary (op : UnOp) {v : Value} (h : Zn v = true) : Free P (Op.unary op v) := by
 unfold Op.unary
 split <;> first | exact .pure _ | exact .halt _ | exact .intArith _ _ _ _ | exact .intBits _ _ _ _
theorem Free.part (t : TypeId) (cs : Array Value) (off : Nat) : Free P (Go.part t cs off) := by
 unfold Go.part
 refine .bind (.isAgg t) fun b => ?_
 split
 ·exact .bind (.sizeOf t) fun n => .pure _
 ·split <;> first | exact .pure _ | exact .halt _
theorem Qny {t : TypeId} {cs : Array Value} {off : Nat} (h : cs.all Zn = true) {v : Value} {w : World} (e : (Go.part t cs off).run P w = .ok v w) : ground v = true := by
 have hm := Array.all_eq_true_iff_forall_mem.1 h
 unfold Go.part at e
 rw [Sem.run_bind] at e
 cases hi : (Go.isAgg t).run P w with
 | halt a b => rw [hi] at e; cases e
 | ok b w1 =>
   rw [hi] at e
   simp only [Result.andThen_ok] at e
   cases b with
   | true =>
     simp only [if_true, Sem.run_bind] at e
     cases hs : (Go.sizeOf t).run P w1 with
     | halt a b => rw [hs] at e; cases e
     | ok n w2 =>
       rw [hs] at e
       simp only [Result.andThen_ok, Sem.run_pure, Result.ok.injEq] at e
       obtain ⟨rfl, _⟩ := e
       show (cs.extract off (off + n)).all Zn = true
       rw [Array.all_eq_true_iff_forall_mem]
       intro x hx
       obtain ⟨i, hi, rfl⟩ := Array.mem_iff_getElem.1 hx
       rw [Array.getElem_extract]
       exact hm _ (Array.getElem_mem _)
   | false =>
     simp only [Bool.false_eq_true, if_false] at e
     cases hc : cs[off]? with
     | none => rw [hc] at e; simp at e
     | some u =>
       rw [hc] at e
       simp only [Sem.run_pure, Result.ok.injEq] at e
       obtain ⟨rfl, _⟩ := e
       have h1 := hm u (Array.mem_of_getElem? hc)
       cases u <;> first | exact h1 | (simp [Zn] at h1; done)
theorem Free.Qkz {α β : Type} {s : Sem α} {f : α -> Sem β} (h : Free P s) (k : ∀ a, (∀ w, s.run P w = .ok a w) -> Free P (f a)) : Free P (s >>= f) := by
 rcases h with ⟨a, ha⟩ | hh
 ·rcases k a ha with ⟨b, hb⟩ | hk
  ·exact .inl ⟨b, fun w => by rw [Sem.run_bind, ha w]; exact hb w⟩
  ·refine .inr fun w => ?_
   obtain ⟨x, y, e⟩ := hk w
   exact ⟨x, y, by rw [Sem.run_bind, ha w]; exact e⟩
 ·refine .inr fun w => ?_
  obtain ⟨x, y, e⟩ := hh w
  exact ⟨x, y, by rw [Sem.run_bind, e]; rfl⟩
theorem Free.Qnz {α β : Type} (f : α -> β -> Sem (ForInStep β)) (h : ∀ a b, Free P (f a b)) : ∀ (l : List α) (b : β), Free P (forIn l b f)
 | [], b => by simp only [List.forIn_nil]; exact .pure _
 | a :: l, b => by
   simp only [List.forIn_cons]
   refine .bind (h a b) fun r => ?_
   cases r with
   | done b => exact .pure _
   | yield b => exact Free.Qnz f h l b
theorem Free.Qpb {α β : Type} (f : α -> β -> Sem (ForInStep β)) (h : ∀ a b, Free P (f a b)) (l : Array α) (b : β) : Free P (forIn l b f) := by
 rw [<- Array.forIn_toList]
 exact Free.Qnz f h l.toList b
theorem Free.Qpc {β : Type} (f : Nat -> β -> Sem (ForInStep β)) (h : ∀ a b, Free P (f a b)) (r : Std.Legacy.Range) (b : β) : Free P (forIn r b f) := by
 rw [Std.Legacy.Range.forIn_eq_forIn_range']
 exact Free.Qnz f h _ b
theorem Qmj {t : TypeId} {cs : Array Value} {off : Nat} (h : cs.all Zn = true) {v : Value} (e : ∀ w, (Go.part t cs off).run P w = .ok v w) : ground v = true :=
 Qny h (e default)
theorem Free.equalIn : ∀ (d : Nat) (t : TypeId) (x y : Value), ground x = true -> ground y = true -> Free P (Op.equalIn d t x y)
 | 0, t, x, y, _, _ => .halt _
 | d + 1, t, x, y, hx, hy => by
   rw [Op.equalIn.eq_2]
   refine .bind (.underlying t) fun de => ?_
   split
   any_goals exact .pure _
   any_goals exact .halt _
   all_goals (try (simp [ground, Zn] at hx; done))
   all_goals (try (simp [ground, Zn] at hy; done))
   any_goals (split <;> first | exact .pure _ | exact .halt _)
   ·rename_i a b
    cases a with
    | none => cases b <;> exact .pure _
    | some a => simp [ground, Zn] at hx
   ·rename_i xs ys
    have key : ∀ fields : Array Field, Free P (forIn (m := Sem) fields ((none, ()) : Option Bool × Unit) fun f __s =>
     if f.name ≠ "_" then do
      let __do_lift <- Go.part f.type xs f.offset
      let __do_lift_1 <- Go.part f.type ys f.offset
      let __do_lift <- Op.equalIn d f.type __do_lift __do_lift_1
      if (!__do_lift) = true then Pure.pure (ForInStep.done (some false, ()))
       else Pure.pure (ForInStep.yield (none, ()))
     else Pure.pure (ForInStep.yield (none, ()))) := by
     intro fields
     refine Free.Qpb _ (fun f b => ?_) _ _
     split
     ·refine .Qkz (.part _ _ _) fun u hu => .Qkz (.part _ _ _) fun v hv => .bind (Free.equalIn d _ u v (Qmj hx hu) (Qmj hy hv)) fun r => ?_
      split <;> exact .pure _
     ·exact .pure _
    refine .bind .program fun p => ?_
    split
    ·exact .bind (.halt _) fun _ => .bind (key _) fun r => by dsimp only; split <;> exact .pure _
    ·exact .bind (key _) fun r => by dsimp only; split <;> exact .pure _
   ·rename_i xs ys
    refine .bind (.sizeOf _) fun n => ?_
    refine .bind (Free.Qpc _ (fun i b => ?_) _ _) fun r => by dsimp only; split <;> exact .pure _
    refine .Qkz (.part _ _ _) fun u hu => .Qkz (.part _ _ _) fun v hv => .bind (Free.equalIn d _ u v (Qmj hx hu) (Qmj hy hv)) fun r => ?_
    split <;> exact .pure _
theorem Free.eqGuardIn : ∀ (d : Nat) (t : TypeId) (x y : Value), ground x = true -> ground y = true -> Free P (Op.eqGuardIn d t x y)
 | 0, t, x, y, _, _ => .halt _
 | d + 1, t, x, y, hx, hy => by
   rw [Op.eqGuardIn.eq_2]
   refine .bind (.underlying t) fun de => ?_
   split
   ·exact .pure _
   ·rename_i xs ys
    refine .bind (Free.Qpb _ (fun f b => ?_) _ _) fun r => by dsimp only; split <;> exact .pure _
    split
    ·refine .Qkz (.part _ _ _) fun u hu => .Qkz (.part _ _ _) fun v hv => .bind (Free.eqGuardIn d _ u v (Qmj hx hu) (Qmj hy hv)) fun r => ?_
     split <;> exact .pure _
    ·exact .pure _
   ·rename_i xs ys
    refine .bind (.sizeOf _) fun n => ?_
    refine .bind (Free.Qpc _ (fun i b => ?_) _ _) fun r => by dsimp only; split <;> exact .pure _
    refine .Qkz (.part _ _ _) fun u hu => .Qkz (.part _ _ _) fun v hv => .bind (Free.eqGuardIn d _ u v (Qmj hx hu) (Qmj hy hv)) fun r => ?_
    split <;> exact .pure _
   ·exact .pure _
theorem Free.eqGuard (op : BinOp) (t : TypeId) (x y : Operand) {a b : Value} (ha : ground a = true) (hb : ground b = true) : Free P (Go.eqGuard op t x y a b) := by
 unfold Go.eqGuard
 refine .ite (.pure _) ?_
 split
 ·refine .ite (.pure _) ?_
  refine .bind (Free.eqGuardIn _ _ _ _ ha hb) fun r => ?_
  exact .ite (.halt _) (.pure _)
 ·refine .bind .program fun p => .bind .program fun q => ?_
  refine .ite (.pure _) ?_
  refine .bind (Free.eqGuardIn _ _ _ _ ha hb) fun r => ?_
  exact .ite (.halt _) (.pure _)
 ·exact .pure _
def Qfk : Value -> Value -> Bool
 | .pointer _, .int _ _ | .int _ _, .pointer _ => false
 | a, b => ground a && ground b
theorem Qfk.spec {a b : Value} (h : Qfk a b = true) : ground a = true /\ ground b = true := by
 unfold Qfk at h
 split at h
 ·cases h
 ·cases h
 ·simpa using h
theorem Free.binOp (op : BinOp) (t : TypeId) {a b : Value} (h : Qfk a b = true) : Free P (Go.binOp op t a b) := by
 obtain ⟨ha, hb⟩ := Qfk.spec h
 unfold Go.binOp
 split
 any_goals exact .shift _ _ _ _ _
 any_goals exact .stringOp _ _ _
 all_goals (try (simp [ground, Zn] at ha; done))
 all_goals (try (simp [ground, Zn] at hb; done))
 all_goals (try (simp [Qfk] at h; done))
 any_goals exact .halt _
 any_goals exact .bind (Free.equalIn _ _ _ _ ha hb) fun r => .pure _
 all_goals (try (split <;> first | exact .halt _ | (split <;> first | exact .intArith _ _ _ _ | exact .intDiv _ _ _ _ | exact .intBits _ _ _ _ | exact .intCmp _ _ _)))
end free
end
end Go.Proofs.Ytfeedchjdnedjaa.Ev
namespace Go.Proofs.Ytfeedchjdnedjaa.Ev
open Go
section
variable {P : Program} {base fl : Nat} {ρ : Ren} {α β : Type}
def Nev (P : Program) (s : Sem α) : Prop := ∀ w, ∃ h w', s.run P w = .halt h w'
theorem Nev.halt (h : Halt) : Nev P (Sem.halt h : Sem α) := fun w => ⟨h, w, rfl⟩
theorem Nev.bind {s : Sem α} {f : α -> Sem β} (h : Nev P s) : Nev P (s >>= f) := fun w => by
 obtain ⟨x, y, e⟩ := h w
 exact ⟨x, y, by rw [Sem.run_bind, e]; rfl⟩
theorem Nev.Qmk {s : Sem α} {f : α -> Sem β} (h : ∀ a, Nev P (f a)) : Nev P (s >>= f) := fun w => by
 rw [Sem.run_bind]
 cases hs : s.run P w with
 | halt x y => exact ⟨x, y, rfl⟩
 | ok a w1 => obtain ⟨x, y, e⟩ := h a w1; exact ⟨x, y, e⟩
theorem Nev.runtimePanic (e : RuntimeError) : Nev P (Go.runtimePanic e : Sem α) := by
 unfold Go.runtimePanic
 refine .Qmk fun p => ?_
 cases e with
 | typeAssertion a b c d => exact .Qmk fun _ => .Qmk fun _ => .halt _
 | panicNil => exact .Qmk fun _ => .Qmk fun _ => .halt _
 | _ => exact .halt _
theorem Nev.boundsPanic (k : IntKind) (x y : Int) (c : BoundsCode) : Nev P (Go.boundsPanic k x y c : Sem α) := by
 unfold Go.boundsPanic
 dsimp only
 split <;> exact .Qmk fun _ => .runtimePanic _
theorem Sim.never {R : Ren -> α -> β -> Prop} {s : Sem α} {s' : Sem β} (h : Nev P s) : Sim P base fl R ρ s s' := by
 intro wA w a wA' _ _ e
 obtain ⟨x, y, e1⟩ := h wA
 rw [e1] at e; cases e
theorem Sim.ite {R : Ren -> α -> β -> Prop} {c : Prop} [Decidable c] {s t : Sem α} {s' t' : Sem β} (h : c -> Sim P base fl R ρ s s') (k : ¬ c -> Sim P base fl R ρ t t') :
 Sim P base fl R ρ (if c then s else t) (if c then s' else t') := by
 split
 ·exact h ‹_›
 ·exact k ‹_›
theorem Qib {t : TypeId} {z : Value} (h : ∀ w, (Go.zeroValue t).run P w = .ok z w) : ∃ i, P.info? t = some i /\ i.zero = some z := by
 have := h default
 unfold Go.zeroValue Go.typeInfo at this
 simp only [Sem.run_bind, run_program, Result.andThen_ok] at this
 split at this
 ·rename_i i hi
  simp only [Sem.run_pure, Result.andThen_ok] at this
  split at this
  ·rename_i v hv
   simp at this
   exact ⟨i, hi, by rw [hv, this]⟩
  ·simp at this
 ·simp at this
def Qeg (P : Program) (t : TypeId) : Bool := match P.info? t with
 | some i => (match i.zero with | some v => ground v | none => false)
 | none => false
theorem Qeg.spec {t : TypeId} (h : Qeg P t = true) {z : Value} (hz : ∀ w, (Go.zeroValue t).run P w = .ok z w) : ground z = true /\ ∃ sz, (P.info? t).map (·.size) = some sz := by
 obtain ⟨i, h1, h2⟩ := Qib hz
 unfold Qeg at h
 rw [h1] at h
 simp only [h2] at h
 exact ⟨h, i.size, by rw [h1]; rfl⟩
theorem Sim.newVar {t : TypeId} {sz : Nat} (hz : (P.info? t).map (·.size) = some sz) {v v' : Value} (hv : VRel ρ v v') :
 Sim P base fl (Qqw sz v'.cells.size) ρ (Go.newVar t v) (Go.newVar t v') := Sim.newRow hz hv.cells
theorem Sim.alloc {t : TypeId} (h : Qeg P t = true) : Sim P base fl VRel ρ (Instr.alloc t true (.tuple #[])) (Instr.alloc t true (.tuple #[])) := by
 unfold Instr.alloc
 refine Sim.Xc (.zeroValue t) fun z hz => ?_
 obtain ⟨hg, sz, hs⟩ := Qeg.spec h hz
 dsimp only
 exact (Sim.newVar hs (Qbq hg)).bind fun ρ' a a' _ hf => .pure hf.ptr
theorem Sim.box {t : TypeId} (h : (P.info? t).isSome = true) {v v' : Value} (hv : VRel ρ v v') : Sim P base fl VRel ρ (Instr.box t v) (Instr.box t v') := by
 unfold Instr.box
 obtain ⟨i, hi⟩ := Option.isSome_iff_exists.1 h
 exact (Sim.newVar (sz := i.size) (by rw [hi]; rfl) hv).bind fun ρ' a a' _ hf => .pure hf.ptr
def PRel (ρ : Ren) (xs ys : List (Nat × Value)) : Prop := xs.length = ys.length /\ ∀ (i : Nat) (p q : Nat × Value), xs[i]? = some p -> ys[i]? = some q -> p.1 = q.1 /\ VRel ρ p.2 q.2
theorem foldl_set {ρ : Ren} (off : Nat) : ∀ (vs vs' : List Value) (j : Nat) (cs cs' : Array Value), LRel ρ vs vs' -> ARel ρ cs cs' ->
 ARel ρ ((vs.zipIdx j).foldl (fun cs (c, j) => cs.setIfInBounds (off + j) c) cs) ((vs'.zipIdx j).foldl (fun cs (c, j) => cs.setIfInBounds (off + j) c) cs')
 | [], _, j, cs, cs', h, hc => by cases h; exact hc
 | v :: vs, _, j, cs, cs', h, hc => by
   cases h with
   | cons hv hs =>
     simp only [List.zipIdx_cons, List.foldl_cons]
     exact foldl_set off vs _ (j + 1) _ _ hs (hc.set _ hv)
theorem Qxd {ρ : Ren} (off : Nat) {vs vs' cs cs' : Array Value} (h : ARel ρ vs vs') (hc : ARel ρ cs cs') :
 ARel ρ (vs.zipIdx.foldl (fun cs (c, j) => cs.setIfInBounds (off + j) c) cs) (vs'.zipIdx.foldl (fun cs (c, j) => cs.setIfInBounds (off + j) c) cs') := by
 rw [<- Array.foldl_toList, <- Array.foldl_toList, Array.toList_zipIdx, Array.toList_zipIdx]
 exact foldl_set off _ _ 0 _ _ h.list hc
theorem Qk0 {ρ : Ren} (place : Nat -> Option (Nat × Nat)) : ∀ (ps ps' : List (Nat × Value)) (cs cs' : Array Value), PRel ρ ps ps' -> ARel ρ cs cs' ->
 ∀ r, Instr.fill place cs ps = some r -> ∃ r', Instr.fill place cs' ps' = some r' /\ ARel ρ r r'
 | [], ps', cs, cs', hp, hc, r, e => by
   cases ps' with
   | nil => simp only [Instr.fill] at e ⊢; injection e with e; subst e; exact ⟨cs', rfl, hc⟩
   | cons p ps' => simp [PRel] at hp
 | (i, v) :: ps, ps', cs, cs', hp, hc, r, e => by
   cases ps' with
   | nil => simp [PRel] at hp
   | cons p' ps' =>
     obtain ⟨i', v'⟩ := p'
     have h0 := hp.2 0 (i, v) (i', v') rfl rfl
     obtain ⟨h1, h2⟩ := h0
     dsimp only at h1 h2
     subst h1
     have hrest : PRel ρ ps ps' := ⟨by have := hp.1; simpa using this, fun j p q a b => hp.2 (j + 1) p q (by simpa using a) (by simpa using b)⟩
     have hcell := h2.cells
     simp only [Instr.fill] at e ⊢
     cases hpl : place i with
     | none => rw [hpl] at e; cases e
     | some y =>
       obtain ⟨off, size⟩ := y
       rw [hpl] at e
       dsimp only at e ⊢
       rw [<- hcell.1, <- hc.1]
       split at e
       ·cases e
       ·rw [if_neg ‹_›]
        exact Qk0 place ps ps' _ _ hrest (Qxd off hcell hc) r e
theorem Free.mapM {α β : Type} (f : α -> Sem β) (h : ∀ a, Free P (f a)) (l : Array α) : Free P (l.mapM f) := by
 rw [Array.mapM_eq_mapM_toList]
 have key : ∀ l : List α, Free P (l.mapM f) := by
  intro l
  induction l with
  | nil => exact .pure _
  | cons a l ih =>
    rw [List.mapM_cons]
    exact .bind (h a) fun b => .bind ih fun bs => .pure _
 rw [map_eq_pure_bind]
 exact .bind (key l.toList) fun _ => .pure _
theorem Sim.build {t : TypeId} (h : Qeg P t = true) {ps ps' : Array (Nat × Value)} (hp : PRel ρ ps.toList ps'.toList) : Sim P base fl VRel ρ (Instr.build t ps) (Instr.build t ps') := by
 unfold Instr.build
 refine Sim.Xc (.zeroValue t) fun z hz => ?_
 obtain ⟨hg, sz, hs⟩ := Qeg.spec h hz
 refine Sim.Xc (.underlying t) fun d hd => ?_
 have hc : ARel ρ z.cells z.cells := (Qbq hg).cells
 have fin : ∀ (place : Nat -> Option (Nat × Nat)) (why : String), Sim P base fl VRel ρ
  (match Instr.fill place z.cells ps.toList with | some cells => Pure.pure (Value.agg cells) | _ => Go.stuck why)
  (match Instr.fill place z.cells ps'.toList with | some cells => Pure.pure (Value.agg cells) | _ => Go.stuck why) := by
  intro place why
  cases hf : Instr.fill place z.cells ps.toList with
  | none => exact .stuck
  | some r =>
    obtain ⟨r', e, hr⟩ := Qk0 place _ _ _ _ hp hc r hf
    rw [e]
    exact .pure (.agg hr.1 hr.2)
 cases d with
 | struct fields =>
   dsimp only
   refine Sim.Xc (Free.mapM _ (fun f => .bind (.sizeOf _) fun _ => .pure _) _) fun places _ => ?_
   exact fin _ _
 | array n e =>
   dsimp only
   refine Sim.Xc (.sizeOf _) fun size _ => ?_
   exact fin _ _
 | _ => exact .stuck
theorem Qk1 : Zn (default : Value) = true := rfl
theorem Qjx {zero : Array Value} (h : zero.all Zn = true) (i : Nat) : Zn (zero[i]!) = true := by
 rw [Array.all_eq_true_iff_forall_mem] at h
 rw [getElem!_def]
 cases hi : zero[i]? with
 | none => exact Qk1
 | some v => exact h v (Array.mem_of_getElem? hi)
theorem Qga {zero : Array Value} (h : zero.all Zn = true) (n : Nat) : ARel ρ ((Array.range n).map (zero[·% zero.size]!)) ((Array.range n).map (zero[·% zero.size]!)) :=
 ARel.map _ fun x _ => Qf9 (Qjx h _)
def zeroCell (P : Program) (t : TypeId) : Bool := match P.info? t with
 | some i => (match i.zero with | some v => v.cells.all Zn | none => false)
 | none => false
theorem zeroCell.spec {t : TypeId} (h : zeroCell P t = true) {z : Value} (hz : ∀ w, (Go.zeroValue t).run P w = .ok z w) : z.cells.all Zn = true := by
 obtain ⟨i, h1, h2⟩ := Qib hz
 unfold zeroCell at h
 rw [h1] at h
 simp only [h2] at h
 exact h
theorem Qgb {t : TypeId} {n : Nat} (h : ∀ w, (Go.sizeOf t).run P w = .ok n w) : (P.info? t).map (·.size) = some n := Qsp h
theorem Qqw.slice {sz n : Nat} {a a' : Addr} (h : Qqw sz n ρ a a') {l c : Nat} (hc : c < big) : VRel ρ (.slice (some a) l c) (.slice (some a') l c) := by
 obtain ⟨b, x, rfl, rfl, hb, hs, _⟩ := h
 have := VRel.slice (o := 0) (n := l) hb hc
 rw [hs] at this
 exact this
theorem Qbh {t : TypeId} {d : TypeDesc} (h : ∀ w, (Go.underlying t).run P w = .ok d w) : P.underlying t = some d := by
 have := h default
 unfold Go.underlying at this
 simp only [Sem.run_bind, run_program, Result.andThen_ok] at this
 split at this
 ·rename_i e he
  simp at this
  rw [he, this]
 ·simp at this
def Qag (P : Program) (t : TypeId) : Bool := match P.underlying t with
 | some (.slice e) => zeroCell P e
 | _ => false
theorem Sim.buildSlice {t : TypeId} {n : Nat} (h : Qag P t = true) (hn : n < big) {ps ps' : Array (Nat × Value)} (hp : PRel ρ ps.toList ps'.toList) :
 Sim P base fl VRel ρ (Instr.buildSlice t n ps) (Instr.buildSlice t n ps') := by
 unfold Instr.buildSlice
 refine Sim.Xc (.underlying t) fun d hd => ?_
 have hu := Qbh hd
 cases d with
 | slice e =>
   dsimp only
   unfold Qag at h
   rw [hu] at h
   dsimp only at h
   refine Sim.Xc (.sizeOf e) fun size hs => ?_
   refine Sim.ite (fun _ => .never (.bind (.halt _))) fun _ => ?_
   have fin : ∀ zero : Array Value, zero.all Zn = true -> Sim P base fl VRel ρ
    (match Instr.fill (fun i => some (i * size, size)) ((Array.range (n * size)).map (zero[·% zero.size]!)) ps.toList with | some cells => (do Pure.pure (Value.slice (some (<- Go.newRow e cells)) n n)) | _ => Go.stuck "buildSlice: a part of the wrong size")
    (match Instr.fill (fun i => some (i * size, size)) ((Array.range (n * size)).map (zero[·% zero.size]!)) ps'.toList with | some cells => (do Pure.pure (Value.slice (some (<- Go.newRow e cells)) n n)) | _ => Go.stuck "buildSlice: a part of the wrong size") := by
    intro zero hz
    cases hf : Instr.fill (fun i => some (i * size, size)) ((Array.range (n * size)).map (zero[·% zero.size]!)) ps.toList with
    | none => exact .stuck
    | some r =>
      obtain ⟨r', e', hr⟩ := Qk0 _ _ _ _ _ hp (Qga hz _) r hf
      rw [e']
      exact (Sim.newRow (Qgb hs) hr).bind fun ρ' a a' _ hfr => .pure (hfr.slice hn)
   refine Sim.ite (fun _ => ?_) fun _ => ?_
   ·exact fin #[] (by simp)
   ·refine Sim.Xc (.zeroValue e) fun z hz => ?_
    exact fin z.cells (zeroCell.spec h hz)
 | _ => exact .stuck
theorem Sim.loadVar {t : TypeId} {b o : Nat} {x : Img} (hb : ρ b = some x) : Sim P base fl VRel ρ (Go.loadVar t ⟨b, o, none⟩) (Go.loadVar t ⟨x.blk, o + x.shift, none⟩) := by
 unfold Go.loadVar
 refine Sim.Xc (.isAgg t) fun g _ => ?_
 refine Sim.ite (fun _ => ?_) fun _ => Sim.load hb
 refine Sim.Xc (.sizeOf t) fun n _ => ?_
 exact (Sim.loadCells hb n).bind fun ρ' a a' _ h => .pure (.agg h.1 h.2)
theorem Sim.loadAt {t : TypeId} {v v' : Value} (hv : VRel ρ v v') : Sim P base fl VRel ρ (Instr.loadAt t v) (Instr.loadAt t v') := by
 unfold Instr.loadAt
 cases hv with
 | ptr h => exact Sim.loadVar h
 | _ => exact .never (.bind (.halt _))
theorem Sim.storeAt {t : TypeId} {v v' u u' : Value} (hv : VRel ρ v v') (hu : VRel ρ u u') (hf : ∀ a, v = .pointer (some a) -> fl <= a.block) :
 Sim P base fl (fun _ _ _ => True) ρ (Instr.storeAt t v u) (Instr.storeAt t v' u') := by
 unfold Instr.storeAt
 cases hv with
 | ptr h =>
   show Sim P base fl _ ρ (Go.storeVar t _ u) (Go.storeVar t _ u')
   unfold Go.storeVar
   have hc := hu.cells
   refine Sim.Xc (.sizeOf t) fun n _ => ?_
   rw [hc.1]
   refine Sim.ite (fun _ => .never (.bind (.halt _))) fun _ => ?_
   exact Sim.storeCells (hf _ rfl) _ _ 0 ρ h hc.list
 | _ => exact .never (.bind (.halt _))
theorem Sim.fieldAt {s : TypeId} {v v' : Value} {f : Nat} (hv : VRel ρ v v') (hz : ∀ fs fd, P.underlying s = some (.struct fs) -> fs[f]? = some fd -> (P.info? fd.type).map (·.size) ≠ some 0) :
 Sim P base fl VRel ρ (Instr.fieldAt s v f) (Instr.fieldAt s v' f) := by
 unfold Instr.fieldAt
 refine Sim.Xc (.underlying s) fun d hd => ?_
 cases d with
 | struct fs =>
   dsimp only
   cases hfd : fs[f]? with
   | none => exact .stuck
   | some fd =>
     dsimp only
     cases hv with
     | ptr h =>
       show Sim P base fl _ ρ (Go.fieldPlace _ fd >>= fun a => Pure.pure (Value.pointer (some a))) (Go.fieldPlace _ fd >>= fun a => Pure.pure (Value.pointer (some a)))
       unfold Go.fieldPlace
       rw [bind_assoc, bind_assoc]
       refine Sim.Xc (.sizeOf fd.type) fun n hn => ?_
       rw [if_neg (fun e => hz fs fd (Qbh hd) hfd (by rw [Qgb hn, e])), if_neg (fun e => hz fs fd (Qbh hd) hfd (by rw [Qgb hn, e]))]
       refine .pure ?_
       rw [Yi, Yi]
       rename_i b o x
       have := VRel.ptr (o := o + fd.offset) h
       rw [show o + fd.offset + x.shift = o + x.shift + fd.offset by omega] at this
       exact this
     | _ => exact .never (.bind (.halt _))
 | _ => exact .stuck
theorem Sim.Qyz {t : TypeId} {cs cs' : Array Value} (h : ARel ρ cs cs') (off : Nat) : Sim P base fl VRel ρ (Go.part t cs off) (Go.part t cs' off) := by
 unfold Go.part
 refine Sim.Xc (.isAgg t) fun g _ => ?_
 refine Sim.ite (fun _ => ?_) fun _ => ?_
 ·refine Sim.Xc (.sizeOf t) fun n _ => ?_
  have := h.extract off (off + n)
  exact .pure (.agg this.1 this.2)
 ·cases hc : cs[off]? with
  | none => exact .stuck
  | some v =>
    obtain ⟨v', a, b⟩ := h.get hc
    rw [a]
    exact .pure b
theorem Sim.field {t : TypeId} {v v' : Value} {f : Nat} (hv : VRel ρ v v') : Sim P base fl VRel ρ (Instr.field t v f) (Instr.field t v' f) := by
 unfold Instr.field
 refine Sim.Xc (.underlying t) fun d hd => ?_
 cases d with
 | struct fs =>
   dsimp only
   cases hfd : fs[f]? with
   | none => exact .stuck
   | some fd =>
     dsimp only
     cases hv with
     | agg hc h => exact Sim.Qyz ⟨hc, h⟩ _
     | _ => exact .never (.bind (.halt _))
 | _ => exact .stuck
theorem Sim.index {t : TypeId} {v v' : Value} {k : IntKind} {n : Int} (hv : VRel ρ v v') : Sim P base fl VRel ρ (Instr.index t v (.int k n)) (Instr.index t v' (.int k n)) := by
 unfold Instr.index
 simp only [asIntOf, pure_bind]
 refine Sim.Xc (.underlying t) fun d hd => ?_
 cases hv with
 | agg hc h =>
   cases d with
   | array len e =>
     dsimp only
     refine Sim.ite (fun _ => ?_) fun _ => .never (.boundsPanic _ _ _ _)
     refine Sim.Xc (.sizeOf e) fun m _ => ?_
     exact Sim.Qyz ⟨hc, h⟩ _
   | _ => exact .stuck
 | string s =>
   cases d with
   | string =>
     dsimp only
     split
     ·exact .pure (.int _ _)
     ·exact .never (.boundsPanic _ _ _ _)
   | _ => exact .stuck
 | _ => cases d <;> exact .stuck
theorem Sim.extract {v v' : Value} {i : Nat} (hv : VRel ρ v v') : Sim P base fl VRel ρ (Instr.extract v i) (Instr.extract v' i) := by
 unfold Instr.extract
 cases hv with
 | @tuple cs cs' hc h =>
   dsimp only
   cases hi : cs[i]? with
   | none => exact .stuck
   | some u =>
     obtain ⟨u', a, b⟩ := ARel.get ⟨hc, h⟩ hi
     rw [a]
     exact .pure b
 | _ => exact .stuck
end
end Go.Proofs.Ytfeedchjdnedjaa.Ev
namespace Go.Proofs.Ytfeedchjdnedjaa.Ev
open Go
section
variable {P : Program} {base fl : Nat} {ρ : Ren}
theorem Sim.indexAt {t : TypeId} {v v' : Value} {k : IntKind} {i : Int} (hv : VRel ρ v v') :
 Sim P base fl VRel ρ (Instr.indexAt t v (.int k i)) (Instr.indexAt t v' (.int k i)) := by
 unfold Instr.indexAt
 simp only [asIntOf, pure_bind]
 refine Sim.Xc (.underlying t) fun d hd => ?_
 have fin : ∀ (b o o' n : Nat) (x : Img) (e : TypeId), ρ b = some x -> (0 < n -> o' = o + x.shift) -> Sim P base fl VRel ρ
  (Go.underlying t >>= fun d2 => if 0 <= i /\ i < (n : Int) then (Go.sizeOf e >>= fun s => Pure.pure (Value.pointer (some (Addr.add ⟨b, o, none⟩ (i.toNat * s))))) else
   if (decide (n <= 1) && (match d2 with | .array _ _ => true | _ => false)) = true then Go.unsupported (.noEntry "op/indexAddr.an index out of range at an array of length 0 or 1 (ledger 616)") else Go.boundsPanic k i n .index)
  (Go.underlying t >>= fun d2 => if 0 <= i /\ i < (n : Int) then (Go.sizeOf e >>= fun s => Pure.pure (Value.pointer (some (Addr.add ⟨x.blk, o', none⟩ (i.toNat * s))))) else
   if (decide (n <= 1) && (match d2 with | .array _ _ => true | _ => false)) = true then Go.unsupported (.noEntry "op/indexAddr.an index out of range at an array of length 0 or 1 (ledger 616)") else Go.boundsPanic k i n .index) := by
  intro b o o' n x e hb ho
  refine Sim.Xc (.underlying t) fun d2 _ => ?_
  refine Sim.ite (fun hi => ?_) fun _ => Sim.ite (fun _ => .unsupported) fun _ => .never (.boundsPanic _ _ _ _)
  refine Sim.Xc (.sizeOf e) fun m _ => ?_
  refine .pure ?_
  rw [Yi, Yi, ho (by omega)]
  have := VRel.ptr (o := o + i.toNat * m) hb
  rw [show o + i.toNat * m + x.shift = o + x.shift + i.toNat * m by omega] at this
  exact this
 cases hv with
 | ptr h =>
   cases d with
   | array len e => exact fin _ _ _ _ _ e h (fun _ => rfl)
   | _ => exact .never (.bind (.halt _))
 | slice h hc =>
   cases d with
   | slice e => exact fin _ _ _ _ _ e h (fun _ => rfl)
   | array len e => exact .never (.bind (.halt _))
   | _ => exact .never (.bind (.halt _))
 | loose h hc hn' hx ho =>
   cases d with
   | slice e => exact fin _ _ _ _ _ e h ho
   | array len e => exact .never (.bind (.halt _))
   | _ => exact .never (.bind (.halt _))
 | nilSlice n c =>
   cases d with
   | slice e => exact .never (.Qmk fun _ => .boundsPanic _ _ _ _)
   | array len e => exact .never (.bind (.halt _))
   | _ => exact .never (.bind (.halt _))
 | _ => cases d <;> exact .never (.bind (.halt _))
theorem Sim.askRoom (n : Nat) : Sim P base fl (fun _ _ _ => True) ρ (Go.askRoom n) (Go.askRoom n) := by
 intro wA w u wA' hr hf e
 rw [run_askRoom] at e
 injection e with _ e
 subst e
 exact ⟨ρ, (), w, run_askRoom _ _ _, trivial, .refl hr⟩
theorem Sim.makeSlice {t : TypeId} (h : Qag P t = true) {k k' : IntKind} {l c : Int} (hc : (IntKind.i64.wrap c).toNat < big) :
 Sim P base fl VRel ρ (Instr.makeSlice t (.int k l) (.int k' c)) (Instr.makeSlice t (.int k l) (.int k' c)) := by
 unfold Instr.makeSlice
 refine Sim.Xc (.underlying t) fun d hd => ?_
 have hu := Qbh hd
 cases d with
 | slice e =>
   unfold Qag at h
   rw [hu] at h
   dsimp only at h ⊢
   simp only [asInt, asIntOf, pure_bind]
   refine Sim.Xc (.typeInfo e) fun i hi => ?_
   refine Sim.ite (fun _ => ?_) fun _ => ?_
   ·refine .never ?_
    split
    ·exact .bind (.runtimePanic _)
    ·split
     ·exact .bind (.runtimePanic _)
     ·exact .Qmk fun _ => .bind (.runtimePanic _)
   ·refine (Sim.askRoom _).bind fun ρ1 _ _ _ _ => ?_
    refine Sim.Xc (.sizeOf e) fun size hs => ?_
    have fin : ∀ zero : Array Value, zero.all Zn = true -> Sim P base fl VRel ρ1
     (do let a <- Go.newRow e ((Array.range ((IntKind.i64.wrap c).toNat * size)).map (zero[·% zero.size]!)); Pure.pure (Value.slice (some a) (IntKind.i64.wrap l).toNat (IntKind.i64.wrap c).toNat))
     (do let a <- Go.newRow e ((Array.range ((IntKind.i64.wrap c).toNat * size)).map (zero[·% zero.size]!)); Pure.pure (Value.slice (some a) (IntKind.i64.wrap l).toNat (IntKind.i64.wrap c).toNat)) := by
     intro zero hz
     exact (Sim.newRow (Qgb hs) (Qga hz _)).bind fun ρ' a a' _ hfr => .pure (hfr.slice hc)
    refine Sim.ite (fun _ => ?_) fun _ => ?_
    ·exact fin #[] (by simp)
    ·refine Sim.Xc (.zeroValue e) fun z hz => ?_
     exact fin z.cells (zeroCell.spec h hz)
 | _ => exact .stuck
theorem Sim.makeMap {t : TypeId} {r : Option Value} (h : ∀ v, r = some v -> Zn v = true) : Sim P base fl VRel ρ (Instr.makeMap t r) (Instr.makeMap t r) := by
 have fin : ∀ ρ1 : Ren, Sim P base fl VRel ρ1 (do Pure.pure (Value.map (some (<- Go.newObj (.map #[] 0))))) (do Pure.pure (Value.map (some (<- Go.newObj (.map #[] 0))))) := by
  intro ρ1
  refine (Sim.newObj (x := ⟨0, 0, 0, 0⟩) (wo := fun _ _ _ _ => True) ?_).bind ?_
  ·intro ρ' y _ _ _ _ _
   exact .map rfl (fun i e e' a => by simp at a)
  ·rintro ρ' n n' _ ⟨y, h1, h2, _⟩
   subst h2
   exact .pure (.map h1)
 unfold Instr.makeMap
 cases r with
 | none => exact fin ρ
 | some v =>
   dsimp only
   refine Sim.Xc (.underlying t) fun d hd => ?_
   cases d with
   | map k e =>
     dsimp only
     have : Free P (Go.asInt v) := by
      unfold Go.asInt Go.asIntOf
      split
      ·exact .pure _
      ·exact .bind (.halt _) fun _ => .pure _
      ·exact .bind (.halt _) fun _ => .pure _
     exact Sim.Xc this fun _ _ => fin ρ
   | _ => exact .never (.bind (.halt _))
end
end Go.Proofs.Ytfeedchjdnedjaa.Ev
namespace Go.Proofs.Ytfeedchjdnedjaa.Ev
open Go
section
variable {P : Program} {base fl : Nat} {ρ : Ren}
def bnd (v : Option Value) (d : Nat) : Option Nat :=
 match v with
 | none => some d
 | some (.int _ i) => if 0 <= i then some i.toNat else none
 | _ => none
theorem Qbx {k : IntKind} {i : Int} {y : Nat} {code : BoundsCode} (h : 0 <= i) (hn : i.toNat <= y) (w : World) : (Instr.sliceBound (.int k i) y code).run P w = .ok i.toNat w := by
 unfold Instr.sliceBound
 simp only [asIntOf, pure_bind]
 rw [if_pos ⟨h, by omega⟩]; rfl
theorem Qgc {v : Value} {d n : Nat} (h : bnd (some v) d = some n) : ∃ k i, v = .int k i /\ 0 <= i /\ i.toNat = n := by
 unfold bnd at h
 cases v <;> simp at h
 exact ⟨_, _, rfl, h.1, h.2⟩
theorem Y2 (s : Bool) {len cap l h m : Nat} {lo hi mx : Option Value} (hl : bnd lo 0 = some l) (hh : bnd hi len = some h) (hm : bnd mx cap = some m)
 (h1 : l <= h) (h2 : h <= m \/ hi = none) (h3 : m <= cap) (h4 : mx.isSome = true -> hi.isSome = true) (w : World) : (Instr.sliceBounds s len cap lo hi mx).run P w = .ok (l, h, m) w := by
 unfold Instr.sliceBounds
 have low : ∀ (m : Nat) (c : BoundsCode), Sem.run P (match lo with
  | some v => do
    let l <- Instr.sliceBound v h c
    Pure.pure (l, h, m)
  | none => do
    let l <- Pure.pure 0
    Pure.pure (l, h, m)) w = .ok (l, h, m) w := by
  intro m c
  cases lo with
  | none => simp [bnd] at hl; subst hl; rfl
  | some v =>
    obtain ⟨k, i, rfl, p, rfl⟩ := Qgc hl
    dsimp only
    rw [Sem.run_bind, Qbx p h1]; rfl
 cases mx with
 | none =>
   simp [bnd] at hm
   subst hm
   dsimp only
   simp only [pure_bind]
   cases hi with
   | none =>
     simp [bnd] at hh
     subst hh
     dsimp only
     exact low _ _
   | some v =>
     obtain ⟨k, i, rfl, p, rfl⟩ := Qgc hh
     dsimp only
     rw [Sem.run_bind, Qbx p (by simpa using h2)]
     exact low _ _
 | some u =>
   obtain ⟨k', i', rfl, p', rfl⟩ := Qgc hm
   cases hi with
   | none => simp at h4
   | some v =>
     obtain ⟨k, i, rfl, p, rfl⟩ := Qgc hh
     dsimp only
     rw [Sem.run_bind, Qbx p' h3]
     simp only [Result.andThen_ok]
     rw [Sem.run_bind, Qbx p (by simpa using h2)]
     exact low _ _
def szOf (P : Program) (t : TypeId) : Option Nat := (P.info? t).map (·.size)
theorem Xn {t : TypeId} {n : Nat} (h : szOf P t = some n) (w : World) : (Go.sizeOf t).run P w = .ok n w := by
 unfold szOf at h
 unfold Go.sizeOf Go.typeInfo
 cases hi : P.info? t with
 | none => rw [hi] at h; cases h
 | some i => rw [hi] at h; simp at h; subst h; simp [hi]
theorem Qh {t : TypeId} {d : TypeDesc} (h : P.underlying t = some d) (w : World) : (Go.underlying t).run P w = .ok d w := by
 unfold Go.underlying; simp [h]
def Qk2 (P : Program) (mem : Nat -> Option Obj) (b : Nat) : Option Nat := match mem b with
 | some (.cells _ t _) => szOf P t
 | _ => none
theorem Qik {wA w : World} (hr : WRel P base ρ wA w) {b n : Nat} {x : Img} (hb : ρ b = some x) (h : Qk2 P (fun b => wA.heap[b]?) b = some n) : x.sz = n := by
 unfold Qk2 at h
 dsimp only at h
 split at h
 ·rename_i c t fr he
  obtain ⟨o', _, h4⟩ := hr.obj b _ x he rfl hb
  cases h4 with
  | cells ht hs hz hh =>
    unfold szOf at h
    rw [h] at hz; injection hz with hz; exact hz.symm
 ·cases h
def Qid (P : Program) (mem : Nat -> Option Obj) (t : TypeId) (x : Value) (lo hi mx : Option Value) : Option Value :=
 match P.underlying t, x with
 | some .string, .string s =>
   match mx, bnd lo 0, bnd hi s.size with
   | none, some l, some h => if l <= h /\ h <= s.size then some (.string (s.extract l h)) else none
   | _, _, _ => none
 | some (.slice e), .slice none n c =>
   match szOf P e, bnd lo 0, bnd hi n, bnd mx c with
   | some _, some l, some h, some m => if l <= h /\ h <= m /\ m <= c /\ (mx.isSome = true -> hi.isSome = true) then some (.slice none (h - l) (m - l)) else none
   | _, _, _, _ => none
 | some (.slice e), .slice (some ⟨b, o, none⟩) n c =>
   match szOf P e, bnd lo 0, bnd hi n with
   | some size, some l, some h =>
     if c < big then
      match bnd mx c with
      | some m => if l <= h /\ h <= m /\ m <= c /\ (mx.isSome = true -> hi.isSome = true) then some (.slice (some ⟨b, if m = l then o else o + l * size, none⟩) (h - l) (m - l)) else none
      | none => none
     else
      match mx with
      | none => if l <= h /\ h <= n /\ big <= c - l /\ Qk2 P mem b = some size then some (.slice (some ⟨b, o + l * size, none⟩) (h - l) (c - l)) else none
      | some v => match bnd (some v) c with
        | some m => if l <= h /\ h <= m /\ m <= n /\ hi.isSome = true /\ m < big then
         if n = 0 then some (.slice (some ⟨b, o, none⟩) 0 (2 * big)) else some (.slice (some ⟨b, if m = l then o else o + l * size, none⟩) (h - l) (m - l))
         else none
        | none => none
   | _, _, _ => none
 | some (.array N e), .pointer (some ⟨b, o, none⟩) =>
   match szOf P e, bnd lo 0, bnd hi N, bnd mx N with
   | some size, some l, some h, some m => if l <= h /\ h <= m /\ m <= N /\ N < big /\ (mx.isSome = true -> hi.isSome = true) then some (.slice (some ⟨b, if m = l then o else o + l * size, none⟩) (h - l) (m - l)) else none
   | _, _, _, _ => none
 | _, _ => none
theorem Qb6 {t e : TypeId} {size len cap l h m : Nat} {lo hi mx : Option Value} {a : Option Addr} (hu : P.underlying t = some (.slice e)) (hs : szOf P e = some size)
 (hb : ∀ w, (Instr.sliceBounds true len cap lo hi mx).run P w = .ok (l, h, m) w) (w : World) :
 (Instr.sliceAt t (.slice a len cap) lo hi mx).run P w = .ok (.slice (if m = l then a else a.map (·.add (l * size))) (h - l) (m - l)) w := by
 unfold Instr.sliceAt
 rw [Sem.run_bind, Qh hu]
 simp only [Result.andThen_ok]
 unfold Instr.slice
 rw [Sem.run_bind, Qh hu]
 simp only [Result.andThen_ok]
 rw [Sem.run_bind, hb]
 simp only [Result.andThen_ok]
 rw [Sem.run_bind, Xn hs]
 rfl
theorem Qxe (b o l size m : Nat) (c : Prop) [Decidable c] : (if c then (some ⟨b, o, none⟩ : Option Addr) else (some ⟨b, o, none⟩ : Option Addr).map (·.add (l * size))) = some ⟨b, if c then o else o + l * size, none⟩ := by
 split
 ·rfl
 ·simp only [Option.map_some, Yi]
theorem Qqx {wA w0 : World} {t : TypeId} {x x' v : Value} {lo hi mx : Option Value} (he : Qid P (fun b => wA.heap[b]?) t x lo hi mx = some v) (hr : WRel P base ρ wA w0) (hx : VRel ρ x x') :
 ∃ v', (∀ w, (Instr.sliceAt t x' lo hi mx).run P w = .ok v' w) /\ VRel ρ v v' := by
 unfold Qid at he
 split at he
 ·
  rename_i hu
  split at he
  ·rename_i l h hl hh
   split at he
   ·rename_i hc
    injection he with he
    subst he
    cases hx
    refine ⟨_, fun w => ?_, .string _⟩
    unfold Instr.sliceAt
    rw [Sem.run_bind, Qh hu]
    simp only [Result.andThen_ok]
    unfold Instr.slice
    rw [Sem.run_bind, Qh hu]
    simp only [Result.andThen_ok, Option.isSome_none, Bool.false_eq_true, if_false]
    rw [Sem.run_bind, Y2 false hl hh (rfl : bnd none _ = some _) hc.1 (.inl hc.2) (Nat.le_refl _) (fun h => by cases h)]
    rfl
   ·cases he
  ·cases he
 ·
  rename_i hu
  split at he
  ·rename_i s l h m hs hl hh hm
   split at he
   ·rename_i hc
    injection he with he
    subst he
    cases hx
    refine ⟨_, Qb6 hu hs (Y2 true hl hh hm hc.1 (.inl hc.2.1) hc.2.2.1 hc.2.2.2), ?_⟩
    have : (if m = l then (none : Option Addr) else (none : Option Addr).map (·.add (l * s))) = none := by split <;> rfl
    rw [this]
    exact .nilSlice _ _
   ·cases he
  ·cases he
 ·
  rename_i b o n c hu
  split at he
  ·rename_i size l h hs hl hh
   cases hx with
   | @slice _ _ _ _ x hb hc0 =>
     rw [if_pos hc0] at he
     split at he
     ·rename_i m hm
      split at he
      ·rename_i hc
       injection he with he
       subst he
       refine ⟨_, Qb6 hu hs (Y2 true hl hh hm hc.1 (.inl hc.2.1) hc.2.2.1 hc.2.2.2), ?_⟩
       rw [Qxe _ _ _ _ m]
       have := VRel.slice (ρ := ρ) (o := if m = l then o else o + l * size) (n := h - l) (c := m - l) hb (by omega)
       rw [show (if m = l then o else o + l * size) + x.shift = (if m = l then o + x.shift else o + x.shift + l * size) by split <;> omega] at this
       exact this
      ·cases he
     ·cases he
   | @loose _ _ o' _ _ c' x hb hc0 hn ht ho =>
     rw [if_neg (by omega)] at he
     split at he
     ·split at he
      ·rename_i hc
       injection he with he
       subst he
       have hz := Qik hr hb hc.2.2.2
       refine ⟨_, Qb6 hu hs (Y2 true hl hh (rfl : bnd none c' = some c') hc.1 (.inl (by omega)) (Nat.le_refl _) (fun h => by cases h)), ?_⟩
       rw [Qxe _ _ _ _ c']
       refine .loose hb hc.2.2.1 (by omega) ?_ (fun hp => ?_)
       ·rw [hz] at ht ⊢
        have hle : l <= c' := by omega
        split
        ·rename_i e
         have : c' - l = 0 := by omega
         rw [this]
         have : o' <= o' + c' * size := Nat.le_add_right _ _
         omega
        ·have e1 : (c' - l) * size + l * size = c' * size := by rw [<- Nat.add_mul]; congr 1; omega
         omega
       ·rw [if_neg (by omega), ho (by omega)]; omega
      ·cases he
     ·rename_i u
      split at he
      ·rename_i m hm
       split at he
       ·rename_i hc
        obtain ⟨k, i, rfl, p, rfl⟩ := Qgc hm
        have hm' : bnd (some (.int k i)) c' = some i.toNat := by unfold bnd; simp [p]
        have hrun := Qb6 (a := some ⟨x.blk, o', none⟩) hu hs (Y2 (P := P) true hl hh hm' hc.1 (.inl hc.2.1) (by omega) (fun _ => hc.2.2.2.1))
        split at he
        ·rename_i hn0
         injection he with he
         subst he
         refine ⟨_, hrun, ?_⟩
         have e1 : i.toNat = l := by omega
         rw [if_pos e1]
         have e2 : h - l = 0 := by omega
         have e3 : i.toNat - l = 0 := by omega
         rw [e2, e3]
         refine .loose hb (by unfold big; omega) (Nat.le_refl _) ?_ (fun hp => by omega)
         have : o' <= o' + c' * x.sz := Nat.le_add_right _ _
         omega
        ·injection he with he
         subst he
         refine ⟨_, hrun, ?_⟩
         rw [Qxe _ _ _ _ i.toNat, ho (by omega)]
         have := VRel.slice (ρ := ρ) (o := if i.toNat = l then o else o + l * size) (n := h - l) (c := i.toNat - l) hb (by omega)
         rw [show (if i.toNat = l then o else o + l * size) + x.shift = (if i.toNat = l then o + x.shift else o + x.shift + l * size) by split <;> omega] at this
         exact this
       ·cases he
      ·cases he
  ·cases he
 ·
  rename_i N e b o hu
  split at he
  ·rename_i size l h m hs hl hh hm
   split at he
   ·rename_i hc
    injection he with he
    subst he
    cases hx with
    | @ptr _ _ x hb =>
      refine ⟨.slice (some ⟨x.blk, if m = l then o + x.shift else o + x.shift + l * size, none⟩) (h - l) (m - l), fun w => ?_, ?_⟩
      ·unfold Instr.sliceAt
       rw [Sem.run_bind, Qh hu]
       simp only [Result.andThen_ok]
       show Sem.run P (Instr.sliceBounds false N N lo hi mx >>= _) w = _
       rw [Sem.run_bind, Y2 false hl hh hm hc.1 (.inl hc.2.1) hc.2.2.1 hc.2.2.2.2]
       simp only [Result.andThen_ok]
       rw [Sem.run_bind, Xn hs]
       simp only [Result.andThen_ok, Sem.run_pure, Yi]
       split <;> rfl
      ·have := VRel.slice (ρ := ρ) (o := if m = l then o else o + l * size) (n := h - l) (c := m - l) hb (by omega)
       rw [show (if m = l then o else o + l * size) + x.shift = (if m = l then o + x.shift else o + x.shift + l * size) by split <;> omega] at this
       exact this
   ·cases he
  ·cases he
 ·cases he
end
end Go.Proofs.Ytfeedchjdnedjaa.Ev
namespace Go.Proofs.Ytfeedchjdnedjaa.Ev
open Go
section
variable {P : Program} {base fl : Nat} {ρ : Ren}
theorem Qgd {a : Addr} {w w' : World} {v : Value} (h : (Go.load a).run P w = .ok v w') : w' = w := by
 rw [run_load] at h
 split at h
 ·injection h with _ h; exact h.symm
 ·split at h
  ·injection h with _ h; exact h.symm
  ·cases h
theorem Qd8 {a : Addr} : ∀ (n i : Nat) (acc r : Array Value) (w w' : World), (Go.loadCellsFrom a i n acc).run P w = .ok r w' -> w' = w /\ r.size = acc.size + n
 | 0, i, acc, r, w, w', h => by
   simp only [Go.loadCellsFrom, Sem.run_pure, Result.ok.injEq] at h
   exact ⟨h.2.symm, by rw [h.1]; omega⟩
 | n + 1, i, acc, r, w, w', h => by
   simp only [Go.loadCellsFrom, Sem.run_bind] at h
   cases hl : (Go.load (a.add i)).run P w with
   | halt x y => rw [hl] at h; cases h
   | ok v w1 =>
     rw [hl] at h
     have e := Qgd hl
     subst e
     obtain ⟨h1, h2⟩ := Qd8 n (i + 1) _ r _ w' h
     exact ⟨h1, by rw [h2, Array.size_push]; omega⟩
theorem Qjy {size n : Nat} {a : Option Addr} {l c : Nat} {w w' : World} {r : Array Value} (h : (Builtin.firstCells size n (.slice a l c)).run P w = .ok r w') : w' = w := by
 unfold Builtin.firstCells at h
 cases a with
 | none => simp only [Sem.run_pure, Result.ok.injEq] at h; exact h.2.symm
 | some a => exact (Qd8 _ _ _ _ _ _ h).1
theorem Sim.first {size n : Nat} {x x' : Value} (hx : VRel ρ x x') (hn : ∀ a l c, x = .slice a l c -> n <= l) : Sim P base fl ARel ρ (Builtin.firstCells size n x) (Builtin.firstCells size n x') := by
 unfold Builtin.firstCells
 cases hx with
 | nilSlice l c => exact .pure .empty
 | slice hb hc => exact Sim.loadCells hb _
 | @loose b o o' l c c' x hb hc hl ht ho =>
   have := hn _ _ _ rfl
   dsimp only
   by_cases h0 : n * size = 0
   ·rw [h0]; exact .pure .empty
   ·have hpos : 0 < l := by
     rcases Nat.eq_zero_or_pos n with e | e
     ·rw [e] at h0; simp at h0
     ·omega
    rw [ho hpos]
    exact Sim.loadCells hb _
 | string s => exact .pure (ARel.map _ fun b _ => .int _ _)
 | _ => exact .stuck
theorem Qge {b o : Nat} {c : Array Value} {t : TypeId} {fr : Nat × Nat} {w : World} (hb : w.heap[b]? = some (.cells c t fr)) : ∀ (n i : Nat) (acc r : Array Value) (w' : World),
 (Go.loadCellsFrom ⟨b, o, none⟩ i n acc).run P w = .ok r w' -> (∀ j, j < n -> r[acc.size + j]? = c[o + i + j]?) /\ (∀ j, j < acc.size -> r[j]? = acc[j]?)
 | 0, i, acc, r, w', h => by
   simp only [Go.loadCellsFrom, Sem.run_pure, Result.ok.injEq] at h
   exact ⟨fun j hj => absurd hj (Nat.not_lt_zero _), fun j _ => by rw [h.1]⟩
 | n + 1, i, acc, r, w', h => by
   simp only [Go.loadCellsFrom, Sem.run_bind] at h
   cases hl : (Go.load ((⟨b, o, none⟩ : Addr).add i)).run P w with
   | halt x y => rw [hl] at h; cases h
   | ok v w1 =>
     rw [hl] at h
     have e := Qgd hl
     subst e
     have hv : c[o + i]? = some v := by
      rw [run_load, Yi] at hl
      have hcell : w1.cell? ⟨b, o + i, none⟩ = c[o + i]? := by unfold World.cell?; rw [hb]; simp
      rw [hcell] at hl
      cases hc : c[o + i]? with
      | some u => rw [hc] at hl; simp only [Result.ok.injEq] at hl; rw [hl.1]
      | none =>
        rw [hc] at hl
        unfold World.farLoad at hl
        rw [hb] at hl
        cases hl
     obtain ⟨h1, h2⟩ := Qge hb n (i + 1) _ r w' h
     simp only [Array.size_push] at h1 h2
     refine ⟨fun j hj => ?_, fun j hj => ?_⟩
     ·rcases Nat.eq_zero_or_pos j with rfl | hp
      ·rw [h2 _ (by omega)]
       simp [hv]
      ·have := h1 (j - 1) (by omega)
       rw [show acc.size + 1 + (j - 1) = acc.size + j by omega, show o + (i + 1) + (j - 1) = o + i + j by omega] at this
       exact this
     ·rw [h2 j (by omega), Array.getElem?_push, if_neg (by omega)]
theorem Qjj {b o n : Nat} {c : Array Value} {t : TypeId} {fr : Nat × Nat} {w w' : World} {r : Array Value} (hb : w.heap[b]? = some (.cells c t fr))
 (h : (Go.loadCells ⟨b, o, none⟩ n).run P w = .ok r w') (j : Nat) (hj : j < n) : r[j]? = c[o + j]? := by
 have := (Qge hb n 0 #[] r w' h).1 j hj
 simpa using this
theorem Qak (w : World) {t ty e : TypeId} {i : TypeInfo} (ht : P.underlying t = some (.slice e)) (hi : P.info? e = some i) {a a2 : Option Addr} {sLen sCap c2 : Nat} (hr : sLen <= sCap) :
 (Builtin.append_ #[t, t] ty #[.slice a sLen sCap, .slice a2 0 c2]).run P w = .ok (.slice a sLen sCap) w := by
 cases a <;> cases a2 <;> simp [Builtin.append_, run_underlying ht, sizeOf, typeInfo, hi, Builtin.lenOf, hr, Builtin.firstCells, storeCells, Go.loadCells, Go.loadCellsFrom]
theorem Qft (w : World) {t ty e : TypeId} {i : TypeInfo} (ht : P.underlying t = some (.slice e)) (hi : P.info? e = some i) {a : Addr} {a2 : Option Addr} {sLen sCap n c2 : Nat} (hr : sLen + n <= sCap) :
 (Builtin.append_ #[t, t] ty #[.slice (some a) sLen sCap, .slice a2 n c2]).run P w =
  (do let new <- Builtin.firstCells i.size n (.slice a2 n c2); Go.storeCells (a.add (sLen * i.size)) new.toList; Pure.pure (Value.slice (some a) (sLen + n) sCap)).run P w := by
 simp [Builtin.append_, run_underlying ht, sizeOf, typeInfo, hi, Builtin.lenOf, hr]
theorem Qbb (w : World) {t ty e : TypeId} {i : TypeInfo} {z : Value} (ht : P.underlying t = some (.slice e)) (hi : P.info? e = some i) (hz : i.zero = some z) {a a2 : Option Addr}
 {sLen sCap n c2 : Nat} {olds news : Array Value}
 (ho : (Builtin.firstCells i.size sLen (.slice a sLen sCap)).run P w.drew = .ok olds w.drew) (hn' : (Builtin.firstCells i.size n (.slice a2 n c2)).run P w.drew = .ok news w.drew)
 (hg : sCap < sLen + n) (h63 : sLen + n < 1099511627776) (hfit : (sLen + n) * i.bytes <= 140737488355328) :
 (Builtin.append_ #[t, t] ty #[.slice a sLen sCap, .slice a2 n c2]).run P w =
  .ok (.slice (some ⟨w.heap.size, 0, none⟩) (sLen + n) (grownCap w (sLen + n) sCap e))
   (w.drew.alloc (.cells (olds ++ news ++ Builtin.zeroCells z.cells (grownCap w (sLen + n) sCap e - (sLen + n))) e)) := by
 have hn : ¬ (sLen + n <= sCap) := by omega
 have h63' : ¬ (9223372036854775807 < ((sLen : Int) + (n : Int))) := by omega
 have h48' : ¬ (281474976710656 < Builtin.nextslicecap (sLen + n) sCap * i.bytes) := by have := growslice_fits hg hfit; omega
 simp [Builtin.append_, run_underlying ht, sizeOf, typeInfo, zeroValue, hi, hz, Builtin.lenOf, hn, h63', h48', Question.forced, hn', ho, newRow, grownCap]
end
end Go.Proofs.Ytfeedchjdnedjaa.Ev
namespace Go.Proofs.Ytfeedchjdnedjaa.Ev
open Go
section
variable {P : Program} {base fl : Nat} {ρ : Ren}
def World.kill (w : World) (b : Nat) : World := { w with heap := w.heap.setIfInBounds b (.pending #[] 0) }
def Qer : Nat := 4611686018427387904
def Qil (mem : Nat -> Option Obj) (b : Nat) : Option TypeId := match mem b with
 | some (.cells _ t _) => some t
 | _ => none
def Qfb (P : Program) (fl : Nat) (t : TypeId) (s x : Value) (wA : World) : Option (Value × World) :=
 match P.underlying t, s, x with
 | some (.slice e), .slice a sLen sCap, .slice a2 n c2 =>
   match P.info? e with
   | none => none
   | some i =>
     if n = 0 then (if sLen <= sCap then some (.slice a sLen sCap, wA) else none)
     else match i.zero with
     | none => none
     | some z =>
       if z.cells.size = i.size /\ 0 < i.size /\ (sLen + n) * i.bytes <= 140737488355328 /\ sLen + n < 1099511627776 then
        if sCap < big /\ sLen + n <= sCap then
         match a with
         | some ⟨b, o, none⟩ =>
           if fl <= b then
            match (do let new <- Builtin.firstCells i.size n (.slice a2 n c2); Go.storeCells ⟨b, o + sLen * i.size, none⟩ new.toList : Sem Unit).run P wA with
            | .ok _ wA' => some (.slice a (sLen + n) sCap, wA')
            | _ => none
           else none
         | _ => none
        else
         match (Builtin.firstCells i.size sLen (.slice a sLen sCap)).run P wA, (Builtin.firstCells i.size n (.slice a2 n c2)).run P wA with
         | .ok old _, .ok new _ =>
           if old.size = sLen * i.size /\ new.size = n * i.size /\ new.all (·.oneCell') = true then
            if sCap < big then some (.slice (some ⟨wA.heap.size, 0, none⟩) (sLen + n) Qer, wA.alloc (.cells (old ++ new) e))
            else match a with
             | some ⟨b, _, none⟩ => if fl <= b /\ Qil (fun b => wA.heap[b]?) b = some e then some (.slice (some ⟨wA.heap.size, 0, none⟩) (sLen + n) Qer, (World.kill wA b).alloc (.cells (old ++ new) e)) else none
             | _ => none
           else none
         | _, _ => none
       else none
 | _, _, _ => none
theorem Qdt (w : World) (b k : Nat) (hb : b < w.heap.size) : (World.kill w b).heap[k]? = if k = b then some (.pending #[] 0) else w.heap[k]? := by
 unfold World.kill
 simp only [Array.getElem?_setIfInBounds]
 by_cases e : b = k
 ·subst e; simp [hb]
 ·rw [if_neg e, if_neg (fun h => e h.symm)]
theorem Qb7 (w : World) (b : Nat) : (World.kill w b).heap.size = w.heap.size := by simp [World.kill]
theorem Qml {w : World} {g : Nat} {cur new : Array Value} {t : TypeId} {fr : Nat × Nat} (h : w.heap[g]? = some (.cells cur t fr)) (k : Nat) :
 (w.setRow g new).heap[k]? = if k = g then some (.cells new t fr) else w.heap[k]? := by
 unfold World.setRow
 simp only [Array.getElem?_modify]
 by_cases e : g = k
 ·subst e; simp [h]
 ·rw [if_neg e, if_neg (fun h => e h.symm)]
theorem Stp.Qy0 {wA w wA' w' : World} {n : Nat} {ρ' : Ren} (h : Stp P base fl ρ wA { w with drawn := n } ρ' wA' w') : Stp P base fl ρ wA w ρ' wA' w' :=
 ⟨h.le, h.rel, h.new, h.sizeA, h.size, h.os, h.tape, h.output, h.keepA, h.keep⟩
theorem Qsq {wA w : World} (hr : WRel P base ρ wA w) (hf : fl <= wA.heap.size) {e : TypeId} {i : TypeInfo} {z : Value} (hi : P.info? e = some i) (hzs : z.cells.size = i.size)
 {sLen n cap : Nat} {old new old' new' : Array Value} (ho : old.size = sLen * i.size) (hn : new.size = n * i.size) (r1 : ARel ρ old old') (r2 : ARel ρ new new') (hcap : sLen + n <= cap) :
 ∃ ρ', VRel ρ' (.slice (some ⟨wA.heap.size, 0, none⟩) (sLen + n) Qer) (.slice (some ⟨w.heap.size, 0, none⟩) (sLen + n) cap) /\
   Stp P base fl ρ wA w ρ' (wA.alloc (.cells (old ++ new) e)) (w.drew.alloc (.cells (old' ++ new' ++ Builtin.zeroCells z.cells (cap - (sLen + n))) e)) := by
 have htot : (old' ++ new' ++ Builtin.zeroCells z.cells (cap - (sLen + n))).size = cap * i.size := by
  rw [Array.size_append, Array.size_append, size_zeroCells, <- r1.1, <- r2.1, ho, hn, hzs, <- Nat.add_mul, <- Nat.add_mul]
  congr 1; omega
 have hs := WRel.new (P := P) (base := base) (fl := fl) (o := .cells (old ++ new) e) (o' := .cells (old' ++ new' ++ Builtin.zeroCells z.cells (cap - (sLen + n))) e)
  (x := ⟨w.heap.size, 0, cap * i.size, i.size⟩) (hr.Qzz (w.drawn + 1)) hf rfl (fun _ => by
   refine .cells htot ?_ (by rw [hi]; rfl) (fun j v hj => ?_)
   ·show 0 + (old ++ new).size <= cap * i.size
    rw [Array.size_append, ho, hn, <- Nat.add_mul, Nat.zero_add]
    exact Nat.mul_le_mul_right _ hcap
   ·have hle : ρ.Le (fun k => if k = wA.heap.size then some ⟨w.heap.size, 0, cap * i.size, i.size⟩ else ρ k) := fun b y e => by
     have := (hr.dom b y e).1
     show (if b = wA.heap.size then _ else ρ b) = some y
     rw [if_neg (by omega)]; exact e
    obtain ⟨v', p, q⟩ := (r1.append r2).get hj
    refine ⟨v', ?_, q.mono hle⟩
    show (old' ++ new' ++ _)[j + 0]? = some v'
    have hlt : j < (old' ++ new').size := (Array.getElem?_eq_some_iff.1 p).1
    rw [Nat.add_zero, Array.getElem?_append_left hlt]
    exact p)
 refine ⟨_, ?_, hs.Qy0⟩
 refine VRel.loose (x := ⟨w.heap.size, 0, cap * i.size, i.size⟩) (if_pos rfl) (by unfold big Qer; omega) hcap ?_ (fun _ => rfl)
 show 0 + cap * i.size <= cap * i.size
 omega
theorem WRel.kill {wA w : World} (h : WRel P base ρ wA w) (b : Nat) : WRel P base ρ (World.kill wA b) w where
 low := h.low
 dom b' x e := by rw [Qb7]; exact h.dom b' x e
 obj b' o x e1 e2 e3 := by
  by_cases hb : b < wA.heap.size
  ·rw [Qdt _ _ _ hb] at e1
   by_cases e : b' = b
   ·rw [if_pos e] at e1; injection e1 with e1; subst e1; cases e2
   ·rw [if_neg e] at e1; exact h.obj b' o x e1 e2 e3
  ·have : World.kill wA b = wA := by unfold World.kill; rw [Array.setIfInBounds_eq_of_size_le (by omega)]
   rw [this] at e1; exact h.obj b' o x e1 e2 e3
 inj b1 b2 o1 o2 x1 x2 e1 a1 e2 a2 r1 r2 hx := by
  by_cases hb : b < wA.heap.size
  ·rw [Qdt _ _ _ hb] at e1 e2
   by_cases c1 : b1 = b
   ·rw [if_pos c1] at e1; injection e1 with e1; subst e1; cases a1
   ·by_cases c2 : b2 = b
    ·rw [if_pos c2] at e2; injection e2 with e2; subst e2; cases a2
    ·rw [if_neg c1] at e1; rw [if_neg c2] at e2
     exact h.inj b1 b2 o1 o2 x1 x2 e1 a1 e2 a2 r1 r2 hx
  ·have : World.kill wA b = wA := by unfold World.kill; rw [Array.setIfInBounds_eq_of_size_le (by omega)]
   rw [this] at e1 e2
   exact h.inj b1 b2 o1 o2 x1 x2 e1 a1 e2 a2 r1 r2 hx
theorem Stp.kill {wA w : World} (h : WRel P base ρ wA w) {b : Nat} (hb : fl <= b) : Stp P base fl ρ wA w ρ (World.kill wA b) w where
 le := .refl _
 rel := h.kill b
 new _ _ e := .inl e
 sizeA := by rw [Qb7]; exact Nat.le_refl _
 size := Nat.le_refl _
 os := rfl
 tape := rfl
 output := rfl
 keepA k hk := by
  by_cases hlt : b < wA.heap.size
  ·rw [Qdt _ _ _ hlt, if_neg (by omega)]
  ·unfold World.kill; rw [Array.setIfInBounds_eq_of_size_le (by omega)]
 keep _ _ _ := rfl
theorem Quv {wA w : World} (hr : WRel P base ρ wA w) (hf : fl <= wA.heap.size) {e : TypeId} {i : TypeInfo} (hi : P.info? e = some i)
 {b o o' sLen n c' : Nat} {x : Img} (hb : ρ b = some x) (hfb : fl <= b) (hsz : Qil (fun b => wA.heap[b]?) b = some e) (hx : o' + c' * x.sz <= x.tot) (hoo : 0 < sLen -> o' = o + x.shift)
 {old new new' : Array Value} (ho : old.size = sLen * i.size) (hn : new.size = n * i.size) (hol : (Go.loadCells ⟨b, o, none⟩ (sLen * i.size)).run P wA = .ok old wA)
 (r2 : ARel ρ new new') (h1 : new.all (·.oneCell') = true) (hroom : sLen + n <= c') :
 ∃ ρ' w', (Go.storeCells ⟨x.blk, o' + sLen * i.size, none⟩ new'.toList).run P w = .ok () w' /\
   VRel ρ' (.slice (some ⟨wA.heap.size, 0, none⟩) (sLen + n) Qer) (.slice (some ⟨x.blk, o', none⟩) (sLen + n) c') /\
   Stp P base fl ρ wA w ρ' ((World.kill wA b).alloc (.cells (old ++ new) e)) w' := by
 have hxs : x.sz = i.size := by
  refine Qik hr hb ?_
  unfold Qil at hsz
  unfold Qk2
  dsimp only at hsz ⊢
  split at hsz
  ·rename_i he
   injection hsz with hsz; subst hsz
   (try rw [he]); show szOf P _ = _; unfold szOf; rw [hi]; rfl
  ·cases hsz
 have hblt := (hr.dom b x hb).1
 have hxlt := (hr.dom b x hb).2.2
 unfold Qil at hsz
 dsimp only at hsz
 split at hsz
 case h_2 => cases hsz
 rename_i cA tA fr hA
 injection hsz with hsz
 obtain rfl : tA = e := hsz
 obtain ⟨ob, hob, hrel⟩ := hr.obj b _ x hA rfl hb
 cases hrel with
 | @cells _ c _ ht hs hz hh =>
   have hmul : (sLen + n) * i.size <= c' * i.size := Nat.mul_le_mul_right _ hroom
   rw [Nat.add_mul] at hmul
   rw [hxs] at hx
   have hfit : o' + sLen * i.size + new'.toList.length <= c.size := by
    rw [Array.length_toList, <- r2.1, hn, ht]; omega
   have hone : ∀ v ∈ new'.toList, v.oneCell' = true := by
    intro v hv
    rw [Array.all_eq_true_iff_forall_mem] at h1
    have hv' : v ∈ new' := Array.mem_toList_iff.1 hv
    obtain ⟨j, hj⟩ := Array.mem_iff_getElem?.1 hv'
    have hlt : j < new.size := by rw [r2.1]; exact (Array.getElem?_eq_some_iff.1 hj).1
    have := r2.2 j new[j] v (Array.getElem?_eq_getElem hlt) hj
    rw [<- this.one]
    exact h1 _ (Array.getElem_mem hlt)
   have hst := run_storeCells_at P x.blk (o' + sLen * i.size) tA new'.toList 0 c w hob (by simpa using hfit) hone
   simp only [Nat.add_zero] at hst
   refine ⟨fun k => if k = wA.heap.size then some ⟨x.blk, o', x.tot, x.sz⟩ else ρ k, _, hst, ?_, ?_⟩
   ·refine VRel.loose (x := ⟨x.blk, o', x.tot, x.sz⟩) (if_pos rfl) (by unfold big Qer; omega) hroom ?_ (fun _ => ?_)
    ·show o' + c' * x.sz <= x.tot; rw [hxs]; exact hx
    ·show o' = 0 + o'; omega
   ·have hle : ρ.Le (fun k => if k = wA.heap.size then some ⟨x.blk, o', x.tot, x.sz⟩ else ρ k) := fun b y e => by
     have := (hr.dom b y e).1
     show (if b = wA.heap.size then _ else ρ b) = some y
     rw [if_neg (by omega)]; exact e
    have hgA : ∀ k, ((World.kill wA b).alloc (.cells (old ++ new) tA)).heap[k]? = if k = wA.heap.size then some (.cells (old ++ new) tA) else if k = b then some (.pending #[] 0) else wA.heap[k]? := by
     intro k
     show ((World.kill wA b).heap.push _)[k]? = _
     rw [Array.getElem?_push, Qb7]
     split
     ·rfl
     ·exact Qdt _ _ _ hblt
    generalize hnr : (c.toList.take (o' + sLen * i.size) ++ new'.toList ++ c.toList.drop (o' + sLen * i.size + new'.toList.length)).toArray = nr
    have hnrs : nr.size = x.tot := by
     rw [<- hnr]
     simp only [List.size_toArray, List.length_append, List.length_take, List.length_drop, Array.length_toList] at hfit ⊢
     omega
    have hgw : ∀ k, (w.setRow x.blk nr).heap[k]? = if k = x.blk then some (.cells nr tA (0, 0)) else w.heap[k]? := Qml hob
    have hsA : ((World.kill wA b).alloc (.cells (old ++ new) tA)).heap.size = wA.heap.size + 1 := by
     show ((World.kill wA b).heap.push _).size = _
     rw [Array.size_push, Qb7]
    have hsw : (w.setRow x.blk nr).heap.size = w.heap.size := by simp [World.setRow]
    refine ⟨hle, ⟨by rw [hsw]; exact hr.low, ?_, ?_, ?_⟩, ?_, by omega, by rw [hsw]; exact Nat.le_refl _, rfl, rfl, rfl, ?_, ?_⟩
    ·intro k y ey
     rw [hsA, hsw]
     by_cases hk : k = wA.heap.size
     ·rw [if_pos hk] at ey; injection ey with ey; subst ey
      have := hr.dom b x hb
      exact ⟨by omega, this.2.1, this.2.2⟩
     ·rw [if_neg hk] at ey; have := hr.dom k y ey; omega
    ·intro k ok y e1 e2 e3
     rw [hgA] at e1
     by_cases hk : k = wA.heap.size
     ·rw [if_pos hk] at e1 e3
      injection e1 with e1; injection e3 with e3
      subst e1; subst e3
      refine ⟨.cells nr tA (0, 0), by rw [hgw, if_pos rfl], ?_⟩
      refine .cells hnrs ?_ (by rw [hi, hxs]; rfl) (fun j v hj => ?_)
      ·show o' + (old ++ new).size <= x.tot
       rw [Array.size_append, ho, hn]; omega
      ·rw [Array.getElem?_append] at hj
       show ∃ v', nr[j + o']? = some v' /\ _
       have hnj : nr[j + o']? = (c.toList.take (o' + sLen * i.size) ++ new'.toList ++ c.toList.drop (o' + sLen * i.size + new'.toList.length))[j + o']? := by rw [<- hnr]; simp
       rw [hnj]
       have hlt : (c.toList.take (o' + sLen * i.size)).length = o' + sLen * i.size := by
        rw [List.length_take, Array.length_toList]; rw [Array.length_toList] at hfit; omega
       split at hj
       ·rename_i hjo
        have hjs : j < sLen * i.size := by omega
        have hpos : 0 < sLen := by
         rcases Nat.eq_zero_or_pos sLen with e | e
         ·rw [e] at hjs; simp at hjs
         ·exact e
        have h3 := Qjj hA hol j hjs
        rw [h3] at hj
        obtain ⟨v', p, q⟩ := hh (o + j) v hj
        refine ⟨v', ?_, q.mono hle⟩
        rw [List.append_assoc, List.getElem?_append_left (by omega), List.getElem?_take, if_pos (by omega), Array.getElem?_toList]
        rw [show j + o' = o + j + x.shift by rw [hoo hpos]; omega]
        exact p
       ·rename_i hjo
        obtain ⟨v', p, q⟩ := r2.get hj
        refine ⟨v', ?_, q.mono hle⟩
        have hl2 : j - old.size < new'.toList.length := by rw [Array.length_toList]; exact (Array.getElem?_eq_some_iff.1 p).1
        rw [List.append_assoc, List.getElem?_append_right (by omega), List.getElem?_append_left (by omega), hlt, show j + o' - (o' + sLen * i.size) = j - old.size by omega, Array.getElem?_toList]
        exact p
     ·rw [if_neg hk] at e1 e3
      by_cases hkb : k = b
      ·rw [if_pos hkb] at e1; injection e1 with e1; subst e1; cases e2
      ·rw [if_neg hkb] at e1
       obtain ⟨o2, p, q⟩ := hr.obj k ok y e1 e2 e3
       have hne : y.blk ≠ x.blk := fun he => hkb (hr.inj k b ok _ y x e1 e2 hA rfl e3 hb he)
       exact ⟨o2, by rw [hgw, if_neg hne]; exact p, q.mono hle⟩
    ·intro b1 b2 o1 o2 x1 x2 e1 a1 e2 a2 r1 r2' hxx
     rw [hgA] at e1 e2
     have dead : ∀ k ok y, k ≠ wA.heap.size -> (if k = wA.heap.size then some (Obj.cells (old ++ new) tA) else if k = b then some (.pending #[] 0) else wA.heap[k]?) = some ok -> alive ok = true ->
      ρ k = some y -> y.blk = x.blk -> False := by
      intro k ok y hk h1 h2 h3 h4
      rw [if_neg hk] at h1
      by_cases hkb : k = b
      ·rw [if_pos hkb] at h1; injection h1 with h1; subst h1; cases h2
      ·rw [if_neg hkb] at h1
       exact hkb (hr.inj k b ok _ y x h1 h2 hA rfl h3 hb h4)
     by_cases k1 : b1 = wA.heap.size <;> by_cases k2 : b2 = wA.heap.size
     ·omega
     ·rw [if_pos k1] at r1; rw [if_neg k2] at r2'
      injection r1 with r1; subst r1
      exact (dead b2 o2 x2 k2 e2 a2 r2' hxx.symm).elim
     ·rw [if_neg k1] at r1; rw [if_pos k2] at r2'
      injection r2' with r2'; subst r2'
      exact (dead b1 o1 x1 k1 e1 a1 r1 hxx).elim
     ·rw [if_neg k1] at r1 e1; rw [if_neg k2] at r2' e2
      by_cases kb1 : b1 = b
      ·rw [if_pos kb1] at e1; injection e1 with e1; subst e1; cases a1
      ·by_cases kb2 : b2 = b
       ·rw [if_pos kb2] at e2; injection e2 with e2; subst e2; cases a2
       ·rw [if_neg kb1] at e1; rw [if_neg kb2] at e2
        exact hr.inj b1 b2 o1 o2 x1 x2 e1 a1 e2 a2 r1 r2' hxx
    ·intro k y ey
     by_cases hk : k = wA.heap.size
     ·rw [if_pos hk] at ey; injection ey with ey; subst ey
      exact .inr ⟨by omega, .inr ⟨b, x, hfb, hb, rfl⟩⟩
     ·rw [if_neg hk] at ey; exact .inl ey
    ·intro k hk
     rw [hgA, if_neg (by omega), if_neg (by omega)]
    ·intro k hk hno
     rw [hgw, if_neg (fun e => hno b x hfb hb e.symm)]
theorem Qim {wA w : World} (hr : WRel P base ρ wA w) {b o : Nat} {x : Img} (hb : ρ b = some x) : ∀ (n i : Nat) (acc acc' r : Array Value) (wA' : World), ARel ρ acc acc' ->
 (Go.loadCellsFrom ⟨b, o, none⟩ i n acc).run P wA = .ok r wA' -> ∃ r', (∀ d, (Go.loadCellsFrom ⟨x.blk, o + x.shift, none⟩ i n acc').run P { w with drawn := d } = .ok r' { w with drawn := d }) /\ ARel ρ r r'
 | 0, i, acc, acc', r, wA', ha, h => by
   simp only [Go.loadCellsFrom, Sem.run_pure, Result.ok.injEq] at h
   exact ⟨acc', fun d => by simp only [Go.loadCellsFrom, Sem.run_pure], h.1 ▸ ha⟩
 | n + 1, i, acc, acc', r, wA', ha, h => by
   simp only [Go.loadCellsFrom, Sem.run_bind] at h
   cases hl : (Go.load ((⟨b, o, none⟩ : Addr).add i)).run P wA with
   | halt x y => rw [hl] at h; cases h
   | ok v w1 =>
     rw [hl] at h
     have e := Qgd hl
     subst e
     rw [run_load, Yi] at hl
     cases hc : w1.cell? ⟨b, o + i, none⟩ with
     | none =>
       obtain ⟨er, he⟩ := hr.Qyx hb (o := o + i) (Mode.plain == .atomic)
       rw [hc] at hl
       simp only [he] at hl
       cases hl
     | some u =>
       rw [hc] at hl
       simp only [Result.ok.injEq, and_true] at hl
       subst hl
       obtain ⟨v', h1, h2⟩ := hr.at hb hc
       obtain ⟨r', h3, h4⟩ := Qim hr hb n (i + 1) _ (acc'.push v') r wA' (ha.push h2) h
       refine ⟨r', fun d => ?_, h4⟩
       simp only [Go.loadCellsFrom, Sem.run_bind, Yi]
       rw [run_load]
       have : World.cell? { w with drawn := d } ⟨x.blk, o + x.shift + i, none⟩ = some v' := by
        rw [show o + x.shift + i = o + i + x.shift by omega]; exact h1
       rw [this]
       exact h3 d
theorem Qg2 {wA w : World} (hr : WRel P base ρ wA w) {size n : Nat} {a : Option Addr} {l c : Nat} {x' : Value} (hx : VRel ρ (.slice a l c) x') (hn : n <= l)
 {r : Array Value} {wA' : World} (h : (Builtin.firstCells size n (.slice a l c)).run P wA = .ok r wA') :
 ∃ r', (∀ d, (Builtin.firstCells size n x').run P { w with drawn := d } = .ok r' { w with drawn := d }) /\ ARel ρ r r' := by
 unfold Builtin.firstCells at h ⊢
 cases hx with
 | nilSlice l c =>
   simp only [Sem.run_pure, Result.ok.injEq] at h
   obtain ⟨rfl, _⟩ := h
   exact ⟨#[], fun d => rfl, .empty⟩
 | slice hb hc => exact Qim hr hb _ _ _ _ _ _ .empty h
 | @loose b o o' l c c' x hb hc hl ht ho =>
   by_cases h0 : n * size = 0
   ·rw [h0] at h ⊢
    simp only [Go.loadCells, Go.loadCellsFrom, Sem.run_pure, Result.ok.injEq] at h
    obtain ⟨rfl, _⟩ := h
    exact ⟨#[], fun d => rfl, .empty⟩
   ·have hpos : 0 < l := by
     rcases Nat.eq_zero_or_pos n with e | e
     ·rw [e] at h0; simp at h0
     ·omega
    rw [ho hpos]
    exact Qim hr hb _ _ _ _ _ _ .empty h
theorem Qn0 {wA w wA' : World} {t ty : TypeId} {s s' x x' v : Value} (he : Qfb P fl t s x wA = some (v, wA')) (hr : WRel P base ρ wA w) (hf : fl <= wA.heap.size)
 (hs : VRel ρ s s') (hx : VRel ρ x x') : ∃ ρ' v' w', (Builtin.append_ #[t, t] ty #[s', x']).run P w = .ok v' w' /\ VRel ρ' v v' /\ Stp P base fl ρ wA w ρ' wA' w' := by
 unfold Qfb at he
 split at he
 case h_2 => cases he
 rename_i e a sLen sCap a2 n c2 hu
 obtain ⟨A2, C2, rfl⟩ : ∃ A2 C2, x' = .slice A2 n C2 := by cases hx <;> exact ⟨_, _, rfl⟩
 cases hi : P.info? e with
 | none => rw [hi] at he; cases he
 | some i =>
   rw [hi] at he
   dsimp only at he
   split at he
   ·rename_i h0
    subst h0
    split at he
    ·rename_i hle
     injection he with he
     injection he with e1 e2
     subst e1; subst e2
     cases hs with
     | nilSlice => exact ⟨ρ, _, w, Qak w hu hi hle, .nilSlice _ _, .refl hr⟩
     | slice hb hc => exact ⟨ρ, _, w, Qak w hu hi hle, .slice hb hc, .refl hr⟩
     | loose hb hc hn ht ho => exact ⟨ρ, _, w, Qak w hu hi hn, .loose hb hc hn ht ho, .refl hr⟩
    ·cases he
   ·rename_i h0
    cases hz : i.zero with
    | none => rw [hz] at he; cases he
    | some z =>
      rw [hz] at he
      dsimp only at he
      split at he
      case isFalse => cases he
      rename_i hc
      obtain ⟨hzs, hsz, hby, h40⟩ := hc
      split at he
      ·
       rename_i hroom
       split at he
       ·rename_i b o
        split at he
        ·rename_i hfb
         split at he
         ·rename_i u w1 hrun
          injection he with he
          injection he with e1 e2
          subst e1; subst e2
          cases hs with
          | @slice _ _ _ _ y hb hcc =>
            have hsim : Sim P base fl (fun _ _ _ => True) ρ (do let new <- Builtin.firstCells i.size n (.slice a2 n c2); Go.storeCells ⟨b, o + sLen * i.size, none⟩ new.toList : Sem Unit)
             (do let new <- Builtin.firstCells i.size n (.slice A2 n C2); Go.storeCells ⟨y.blk, o + sLen * i.size + y.shift, none⟩ new.toList : Sem Unit) :=
             (Sim.first hx (fun _ _ _ e => by injection e with _ e; omega)).bind fun ρ1 r r' hle hrr => Sim.storeCells hfb _ _ 0 ρ1 (hle _ _ hb) hrr.list
            obtain ⟨ρ1, _, w1', h1, _, h3⟩ := hsim wA w _ w1 hr hf hrun
            refine ⟨ρ1, .slice (some ⟨y.blk, o + y.shift, none⟩) (sLen + n) sCap, w1', ?_, .slice (h3.le _ _ hb) hcc, h3⟩
            rw [Qft w hu hi hroom.2, Yi, show o + y.shift + sLen * i.size = o + sLen * i.size + y.shift by omega]
            simp only [Sem.run_bind] at h1 ⊢
            cases hff : (Builtin.firstCells i.size n (.slice A2 n C2)).run P w with
            | halt p q => rw [hff] at h1; cases h1
            | ok p q =>
              rw [hff] at h1
              simp only [Result.andThen_ok] at h1 ⊢
              rw [h1]; rfl
          | loose hb hcc => omega
         ·cases he
        ·cases he
       ·cases he
      ·rename_i hroom
       split at he
       case h_2 => cases he
       rename_i old wo new wn ho hn
       split at he
       case isFalse => cases he
       rename_i hsz2
       obtain ⟨hos, hns, hone⟩ := hsz2
       have eo := Qjy ho
       have en := Qjy hn
       subst eo
       obtain ⟨new', hn1, hn2⟩ := Qg2 hr hx (Nat.le_refl _) hn
       obtain ⟨old', ho1, ho2⟩ := Qg2 hr hs (Nat.le_refl _) ho
       split at he
       ·
        rename_i hcap
        injection he with he
        injection he with e1 e2
        subst e1; subst e2
        obtain ⟨A, hA⟩ : ∃ A, s' = .slice A sLen sCap := by
         cases hs with
         | nilSlice => exact ⟨_, rfl⟩
         | slice => exact ⟨_, rfl⟩
         | loose hb hcc => omega
        subst hA
        have hg := Qbb (ty := ty) w hu hi hz (ho1 _) (hn1 _) (by omega) h40 hby
        obtain ⟨ρ', hv, hst⟩ := Qsq hr hf hi hzs hos hns ho2 hn2 (grownCap_ge w (sLen + n) sCap e)
        exact ⟨ρ', _, _, hg, hv, hst⟩
       ·rename_i hcap
        split at he
        case h_2 => cases he
        rename_i b o
        split at he
        case isFalse => cases he
        rename_i hfb
        injection he with he
        injection he with e1 e2
        subst e1; subst e2
        cases hs with
        | slice hb hcc => exact absurd hcc hcap
        | @loose _ _ o' _ _ c' y hb hcc hl ht hoo =>
          by_cases hin : sLen + n <= c'
          ·have hol : (Go.loadCells ⟨b, o, none⟩ (sLen * i.size)).run P wo = .ok old wo := ho
           obtain ⟨ρ', w', p, q, r⟩ := Quv hr hf hi hb hfb.1 hfb.2 ht hoo hos hns hol hn2 hone hin
           refine ⟨ρ', _, w', ?_, q, r⟩
           rw [Qft w hu hi hin, Yi, Sem.run_bind, hn1 w.drawn]
           simp only [Result.andThen_ok]
           rw [Sem.run_bind, p]; rfl
          ·have hg := Qbb (ty := ty) w hu hi hz (ho1 _) (hn1 _) (by omega) h40 hby
           obtain ⟨ρ', hv, hst⟩ := Qsq (fl := fl) (hr.kill b) (by rw [Qb7]; exact hf) hi hzs hos hns ho2 hn2 (grownCap_ge w (sLen + n) c' e)
           rw [Qb7] at hv
           exact ⟨ρ', _, _, hg, hv, (Stp.kill hr hfb.1).trans hst⟩
end
end Go.Proofs.Ytfeedchjdnedjaa.Ev
namespace Go.Proofs.Ytfeedchjdnedjaa.Ev
open Go
section
variable {P : Program} {base fl : Nat} {ρ : Ren}
theorem J5 {w : World} {r : Nat} {o : Obj} (h : w.heap[r]? = some o) (hc : ∀ c t fr, o ≠ .cells c t fr) : (Go.getObj r).run P w = .ok o w := by
 unfold Go.getObj
 simp only [Sem.run, h]
theorem Y3 {w : World} {r : Nat} {o o1 : Obj} (h : w.heap[r]? = some o) (hc : ∀ c t fr, o ≠ .cells c t fr) : (Go.setObj r o1).run P w = .ok () { w with heap := w.heap.setIfInBounds r o1 } := by
 unfold Go.setObj
 simp only [Sem.run, h]
theorem heap_set {w : World} {i : Nat} {p : Obj} (q : Obj) (hp : w.heap[i]? = some p) (k : Nat) : (w.heap.setIfInBounds i q)[k]? = if k = i then some q else w.heap[k]? := by
 rw [Array.getElem?_setIfInBounds]
 have hlt := (Array.getElem?_eq_some_iff.1 hp).1
 by_cases e : i = k
 ·subst e; rw [if_pos rfl, if_pos hlt, if_pos rfl]
 ·rw [if_neg e, if_neg (fun h => e h.symm)]
def Qav : TypeDesc -> Value -> Bool
 | .int _, .int _ _ | .string, .string _ | .bool, .bool _ => true
 | _, _ => false
theorem Qb8 {kt : TypeId} {kd : TypeDesc} {k : Value} (hu : P.underlying kt = some kd) (hk : Qav kd k = true) (b : Bool) (w : World) : (Instr.checkKey b 10000 kt k).run P w = .ok () w := by
 show (Instr.checkKey b (9999 + 1) kt k).run P w = _
 unfold Instr.checkKey
 rw [Sem.run_bind, Qh hu]
 simp only [Result.andThen_ok]
 cases kd <;> cases k <;> simp [Qav] at hk <;> rfl
theorem Qin {kd : TypeDesc} {k a a' : Value} {b : Bool} (h : Instr.sameNow kd k a = some b) (r : VRel ρ a a') : Instr.sameNow kd k a' = some b := by
 have : ground a = true := by
  unfold Instr.sameNow at h
  split at h <;> first | rfl | (cases h; done)
 rw [Qij this r]; exact h
theorem Qhg {kd : TypeDesc} {k a : Value} (h : Instr.sameNow kd k a = some true) : a = k := by
 unfold Instr.sameNow at h
 split at h
 ·split at h
  ·rename_i e; subst e; simp at h; rw [h]
  ·cases h
 ·rename_i a b
  have e : a = b := by
   cases a; cases b
   have : ByteArray.beq _ _ = true := Option.some.inj h
   unfold ByteArray.beq at this
   simpa using this
  rw [e]
 ·simp at h; rw [h]
 ·cases h
def Qn1 (ρ : Ren) (es es' : List MapEntry) : Prop := es.length = es'.length /\ ∀ (i : Nat) (e e' : MapEntry), es[i]? = some e -> es'[i]? = some e' -> ERel ρ e e'
theorem Qn1.tail {e e' : MapEntry} {es es' : List MapEntry} (h : Qn1 ρ (e :: es) (e' :: es')) : ERel ρ e e' /\ Qn1 ρ es es' :=
 ⟨h.2 0 e e' rfl rfl, by have := h.1; simpa using this, fun i a b p q => h.2 (i + 1) a b (by simpa using p) (by simpa using q)⟩
theorem Qd9 {kd : TypeDesc} {k : Value} : ∀ (es es' : List MapEntry) (i : Nat) (r : Option (Nat × Value)), Qn1 ρ es es' -> Instr.findNow kd k es i = some r ->
 (r = none /\ Instr.findNow kd k es' i = some none) \/ (∃ j v v' e e', r = some (j, v) /\ Instr.findNow kd k es' i = some (some (j, v')) /\ VRel ρ v v' /\ i <= j /\ es[j - i]? = some e /\ es'[j - i]? = some e' /\ e.key = k /\ e'.key = k)
 | [], es', i, r, h, hf => by
   cases es' with
   | nil => simp only [Instr.findNow, Option.some.injEq] at hf; exact .inl ⟨hf.symm, rfl⟩
   | cons e' es' => have := h.1; simp at this
 | e :: es, es', i, r, h, hf => by
   cases es' with
   | nil => have := h.1; simp at this
   | cons e' es' =>
     obtain ⟨h1, h2⟩ := h.tail
     simp only [Instr.findNow] at hf ⊢
     cases hs : Instr.sameNow kd k e.key with
     | none => rw [hs] at hf; cases hf
     | some b =>
       rw [hs] at hf
       rw [Qin hs h1.key]
       cases b with
       | true =>
         simp only [Option.some.injEq] at hf
         subst hf
         exact .inr ⟨i, e.val, e'.val, e, e', rfl, rfl, h1.val, Nat.le_refl _, by simp, by simp, Qhg hs, Qhg (Qin hs h1.key)⟩
       | false =>
         dsimp only at hf ⊢
         rcases Qd9 es es' (i + 1) r h2 hf with ⟨p, q⟩ | ⟨j, v, v', a, a', p, q, s, t, u, x, y, z⟩
         ·exact .inl ⟨p, q⟩
         ·refine .inr ⟨j, v, v', a, a', p, q, s, by omega, ?_, ?_, y, z⟩
          ·rw [show j - i = (j - (i + 1)) + 1 by omega]; simpa using u
          ·rw [show j - i = (j - (i + 1)) + 1 by omega]; simpa using x
theorem Qas {kt : TypeId} {kd : TypeDesc} {k : Value} {es : List MapEntry} {r : Option (Nat × Value)} (hu : P.underlying kt = some kd) (h : Instr.findNow kd k es 0 = some r) (w : World) :
 (Instr.findKey kt k es).run P w = .ok r w := by
 unfold Instr.findKey
 rw [Sem.run_bind, Qh hu]
 simp only [Result.andThen_ok, h]; rfl
def mapOf (mem : Nat -> Option Obj) : Value -> Option (Array MapEntry)
 | .map none => some #[]
 | .map (some r) => match mem r with
   | some (.map es _) => some es
   | _ => none
 | _ => none
def Qfo (P : Program) (t : TypeId) : Option Value := match P.info? t with
 | some i => match i.zero with
   | some z => if ground z then some z else none
   | none => none
 | none => none
theorem Qes {t : TypeId} {z : Value} (h : Qfo P t = some z) (w : World) : (Go.zeroValue t).run P w = .ok z w /\ ground z = true := by
 unfold Qfo at h
 split at h
 ·rename_i i hi
  split at h
  ·rename_i z' hz
   split at h
   ·rename_i hg
    injection h with h; subst h
    refine ⟨?_, hg⟩
    unfold Go.zeroValue Go.typeInfo
    simp [hi, hz]
   ·cases h
  ·cases h
 ·cases h
def Qfz (P : Program) (mem : Nat -> Option Obj) (t : TypeId) (m k : Value) (ok : Bool) : Option Value :=
 match P.underlying t with
 | some (.map kt et) =>
   match P.underlying kt, mapOf mem m with
   | some kd, some es =>
     if Qav kd k then
      match Instr.findNow kd k es.toList 0 with
      | some (some (_, v)) => some (if ok then .tuple #[v, .bool true] else v)
      | some none => match Qfo P et with
        | some z => some (if ok then .tuple #[z, .bool false] else z)
        | none => none
      | none => none
     else none
   | _, _ => none
 | _ => none
theorem Qpd {v v' : Value} (h : VRel ρ v v') (b ok : Bool) : VRel ρ (if ok then .tuple #[v, .bool b] else v) (if ok then .tuple #[v', .bool b] else v') := by
 cases ok
 ·exact h
 ·refine .tuple rfl (fun i a a' p q => ?_)
  match i with
  | 0 => simp at p q; subst p; subst q; exact h
  | 1 => simp at p q; subst p; subst q; exact .bool b
  | n + 2 => simp at p
theorem Qn2 {wA w0 : World} {t : TypeId} {m m' k v : Value} {ok : Bool} (he : Qfz P (fun b => wA.heap[b]?) t m k ok = some v) (hr : WRel P base ρ wA w0) (hm : VRel ρ m m') :
 ∃ v', (Instr.lookup t m' k ok).run P w0 = .ok v' w0 /\ VRel ρ v v' := by
 unfold Qfz at he
 split at he
 case h_2 => cases he
 rename_i kt et hu
 split at he
 case h_2 => cases he
 rename_i kd es hk hmo
 split at he
 case isFalse => cases he
 rename_i hkk
 have hes : ∃ es', Qn1 ρ es.toList es'.toList /\ ∀ {β : Type} (f : Array MapEntry -> Sem β), (match m' with
  | Value.map none => Pure.pure #[] >>= f
  | Value.map (some r) => Go.getObj r >>= fun o => (match o with | Obj.map es _ => Pure.pure es >>= f | _ => Go.stuck "Lookup: map expected" >>= f)
  | _ => Go.stuck "Lookup: map expected" >>= f).run P w0 = (f es').run P w0 := by
  unfold mapOf at hmo
  cases hm with
  | nilMap =>
    simp only [Option.some.injEq] at hmo
    subst hmo
    exact ⟨#[], ⟨rfl, fun i e e' a => by simp at a⟩, fun f => rfl⟩
  | @map r x hb =>
    dsimp only at hmo
    split at hmo
    case h_2 => cases hmo
    rename_i es0 cl hA
    injection hmo with hmo
    subst hmo
    obtain ⟨o', h1, h2⟩ := hr.obj r _ x hA rfl hb
    cases h2 with
    | @map _ es' _ hs hh =>
      refine ⟨es', ⟨by simpa using hs, fun i e e' a b => hh i e e' (by simpa using a) (by simpa using b)⟩, fun f => ?_⟩
      dsimp only
      rw [Sem.run_bind, J5 h1 (fun _ _ _ h => by cases h)]
      rfl
  | _ => simp at hmo
 obtain ⟨es', hes, hrun⟩ := hes
 unfold Instr.lookup
 rw [Sem.run_bind, Qh hu]
 simp only [Result.andThen_ok]
 have hrun' := fun (f : Array MapEntry -> Sem Value) => hrun f
 have key : ∀ (r : Option (Nat × Value)), Instr.findNow kd k es'.toList 0 = some r -> ∀ (f : Option (Nat × Value) -> Sem Value), (Instr.checkKey es'.isEmpty 10000 kt k >>= fun _ => Instr.findKey kt k es'.toList >>= f).run P w0 = (f r).run P w0 := by
  intro r hf f
  rw [Sem.run_bind, Qb8 hk hkk]
  simp only [Result.andThen_ok]
  rw [Sem.run_bind, Qas hk hf]
  rfl
 cases hfn : Instr.findNow kd k es.toList 0 with
 | none => rw [hfn] at he; cases he
 | some r =>
   rw [hfn] at he
   rcases Qd9 _ _ 0 r hes hfn with ⟨rfl, q⟩ | ⟨j, u, u', e, e', rfl, q, s, _⟩
   ·dsimp only at he
    cases hz : Qfo P et with
    | none => rw [hz] at he; cases he
    | some z =>
      rw [hz] at he
      injection he with he
      subst he
      obtain ⟨hz1, hz2⟩ := Qes hz w0
      refine ⟨_, ?_, Qpd (Qbq hz2) false ok⟩
      refine (hrun' _).trans ?_
      refine (key _ q _).trans ?_
      dsimp only
      rw [Sem.run_bind, hz1]
      rfl
   ·dsimp only at he
    injection he with he
    subst he
    refine ⟨_, ?_, Qpd s true ok⟩
    refine (hrun' _).trans ?_
    refine (key _ q _).trans ?_
    rfl
theorem Qio {kd : TypeDesc} {k : Value} (h : Qav kd k = true) : Instr.sameBits 10000 k k = true := by
 cases kd <;> cases k <;> simp [Qav] at h
 ·simp [Instr.sameBits]
 ·simp [Instr.sameBits]
 ·show ByteArray.beq _ _ = true
  unfold ByteArray.beq; simp
def Qbw (P : Program) (fl : Nat) (mem : Nat -> Option Obj) (t : TypeId) (m k v : Value) : Option (Nat × Obj) :=
 match P.underlying t, m with
 | some (.map kt _), .map (some r) =>
   match P.underlying kt, mem r with
   | some kd, some (.map es clock) =>
     if fl <= r /\ Qav kd k = true then
      match Instr.findNow kd k es.toList 0 with
      | some (some (i, _)) => some (r, .map (es.modify i fun e => { e with key := k, val := v }) clock)
      | some none => some (r, .map (es.push { key := k, val := v, born := clock }) (clock + 1))
      | none => none
     else none
   | _, _ => none
 | _, _ => none
theorem Qip {wA w : World} {t : TypeId} {m m' k v v' : Value} {r0 : Nat} {o0 : Obj} (he : Qbw P fl (fun b => wA.heap[b]?) t m k v = some (r0, o0)) (hr : WRel P base ρ wA w) (hm : VRel ρ m m') (hv : VRel ρ v v') :
 ∃ w', (Instr.mapUpdate t m' k v').run P w = .ok () w' /\ Stp P base fl ρ wA w ρ { wA with heap := wA.heap.setIfInBounds r0 o0 } w' := by
 unfold Qbw at he
 split at he
 case h_2 => cases he
 rename_i kt et r hu
 split at he
 case h_2 => cases he
 rename_i kd es clock hk hA
 split at he
 case isFalse => cases he
 rename_i hc
 obtain ⟨hfr, hkk⟩ := hc
 cases hm with
 | @map _ x hb =>
   obtain ⟨o', h1, h2⟩ := hr.obj r _ x hA rfl hb
   cases h2 with
   | @map _ es' _ hs hh =>
     have hes : Qn1 ρ es.toList es'.toList := ⟨by simpa using hs, fun i e e' a b => hh i e e' (by simpa using a) (by simpa using b)⟩
     have hgk : VRel ρ k k := by
      cases kd <;> cases k <;> simp [Qav] at hkk <;> constructor
     unfold Instr.mapUpdate
     rw [Sem.run_bind, Qh hu]
     simp only [Result.andThen_ok]
     rw [Sem.run_bind, J5 h1 (fun _ _ _ h => by cases h)]
     simp only [Result.andThen_ok]
     rw [Sem.run_bind, Qb8 hk hkk]
     simp only [Result.andThen_ok]
     cases hfn : Instr.findNow kd k es.toList 0 with
     | none => rw [hfn] at he; cases he
     | some q =>
       rw [hfn] at he
       rcases Qd9 _ _ 0 q hes hfn with ⟨rfl, q2⟩ | ⟨j, u, u', e, e', rfl, q2, hs2, _, ge, ge', ke, ke'⟩
       ·injection he with he
        injection he with he1 he2
        subst he1; subst he2
        rw [Sem.run_bind, Qas hk q2]
        simp only [Result.andThen_ok]
        refine ⟨_, Y3 h1 (fun _ _ _ h => by cases h), Stp.put hr hfr hb hA rfl (heap_set _ hA) (heap_set _ h1) (by simp) (by simp) rfl rfl rfl (.map (by simp [hs]) ?_)⟩
        intro i a a' p q
        rw [Array.getElem?_push] at p q
        rw [<- hs] at q
        split at p
        ·rw [if_pos ‹_›] at q; injection p with p; injection q with q; subst p; subst q
         exact ⟨hgk, hv, rfl⟩
        ·rw [if_neg ‹_›] at q; exact hh i a a' p q
       ·injection he with he
        injection he with he1 he2
        subst he1; subst he2
        rw [Sem.run_bind, Qas hk q2]
        simp only [Result.andThen_ok]
        have hkey : ((es'[j]?).map (·.key)).getD k = k := by
         simp only [Nat.sub_zero, Array.getElem?_toList] at ge'
         rw [ge']; exact ke'
        rw [hkey, Sem.run_bind]
        have hstay : (Instr.keyThatStays k k).run P w = .ok k w := by
         unfold Instr.keyThatStays
         rw [if_pos (Qio hkk)]; rfl
        rw [hstay]
        simp only [Result.andThen_ok]
        refine ⟨_, Y3 h1 (fun _ _ _ h => by cases h), Stp.put hr hfr hb hA rfl (heap_set _ hA) (heap_set _ h1) (by simp) (by simp) rfl rfl rfl (.map (by simp [hs]) ?_)⟩
        intro i a a' p q
        rw [Array.getElem?_modify] at p q
        by_cases hij : j = i
        ·subst hij
         rw [if_pos rfl] at p q
         simp only [Nat.sub_zero, Array.getElem?_toList] at ge ge'
         rw [ge] at p; rw [ge'] at q
         simp only [Option.map_some, Option.some.injEq] at p q
         subst p; subst q
         exact ⟨hgk, hv, (hh j e e' ge ge').born⟩
        ·rw [if_neg hij] at p q
         exact hh i a a' p q
def Qr4 (P : Program) (mem : Nat -> Option Obj) (t : TypeId) (x : Value) : Option Value :=
 match P.underlying t, x with
 | some .string, .string s => some (goInt s.size)
 | some (.slice _), .slice _ n _ => some (goInt n)
 | some (.array n _), _ => some (goInt n)
 | some (.map _ _), m => (mapOf mem m).map fun es => goInt es.size
 | _, _ => none
theorem Quw {wA w : World} {t ty : TypeId} {x x' v : Value} (he : Qr4 P (fun b => wA.heap[b]?) t x = some v) (hr : WRel P base ρ wA w) (hx : VRel ρ x x') :
 (Builtin.len_ #[t] ty #[x']).run P w = .ok v w /\ Zn v = true := by
 unfold Qr4 at he
 split at he
 ·rename_i hu
  injection he with he; subst he
  cases hx
  exact ⟨by simp [Builtin.len_, run_underlying hu], rfl⟩
 ·rename_i hu
  injection he with he; subst he
  refine ⟨?_, rfl⟩
  cases hx <;> simp [Builtin.len_, run_underlying hu]
 ·rename_i hu
  injection he with he; subst he
  exact ⟨by simp [Builtin.len_, run_underlying hu], rfl⟩
 ·rename_i hu
  cases hx with
  | nilMap =>
    simp [mapOf] at he
    subst he
    exact ⟨by simp [Builtin.len_, run_underlying hu], rfl⟩
  | @map r x hb =>
    unfold mapOf at he
    dsimp only at he
    split at he
    ·rename_i es cl hA
     simp only [Option.map_some, Option.some.injEq] at he
     subst he
     obtain ⟨o', h1, h2⟩ := hr.obj r _ x hA rfl hb
     cases h2 with
     | @map _ es' _ hs hh =>
       refine ⟨?_, rfl⟩
       simp [Builtin.len_, run_underlying hu, J5 h1 (fun _ _ _ h => by cases h), hs]
    ·cases he
  | _ => simp [mapOf] at he
 ·cases he
def Ql8 (fl : Nat) (mem : Nat -> Option Obj) (it : Value) : Option (Value × Option (Nat × Obj)) :=
 match it with
 | .pointer (some ⟨r, 0, none⟩) =>
   match mem r with
   | some (.stringIter s pos) =>
     if fl <= r then
      if pos < s.size then
       some (.tuple #[.bool true, goInt pos, .int .i32 (Utf8.decode s pos).1], some (r, .stringIter s (pos + (Utf8.decode s pos).2)))
      else some (.tuple #[.bool false], none)
     else none
   | _ => none
 | _ => none
theorem Qn3 {cs : List Value} (h : ∀ v ∈ cs, Zn v = true) : VRel ρ (.tuple cs.toArray) (.tuple cs.toArray) :=
 Qbq (by show cs.toArray.all Zn = true; rw [Array.all_eq_true_iff_forall_mem]; intro x hx; exact h x (by simpa using hx))
def putO (w : World) : Option (Nat × Obj) -> World
 | none => w
 | some (r, o) => { w with heap := w.heap.setIfInBounds r o }
theorem Qsr {wA w : World} {ty : TypeId} {it it' v : Value} {u : Option (Nat × Obj)} (he : Ql8 fl (fun b => wA.heap[b]?) it = some (v, u)) (hr : WRel P base ρ wA w) (hi : VRel ρ it it') :
 ∃ v' w', (Instr.next it' true ty).run P w = .ok v' w' /\ VRel ρ v v' /\ Stp P base fl ρ wA w ρ (putO wA u) w' := by
 unfold Ql8 at he
 split at he
 case h_2 => cases he
 rename_i r
 split at he
 case h_2 => cases he
 rename_i s pos hA
 split at he
 case isFalse => cases he
 rename_i hfr
 cases hi with
 | @ptr _ _ x hb =>
   obtain ⟨o', h1, h2⟩ := hr.obj r _ x hA rfl hb
   cases h2 with
   | iter _ _ hsh =>
     rw [hsh]
     unfold Instr.next
     split at he
     ·rename_i hlt
      injection he with he
      injection he with e1 e2
      subst e1; subst e2
      refine ⟨.tuple #[.bool true, goInt pos, .int .i32 (Utf8.decode s pos).1], { w with heap := w.heap.setIfInBounds x.blk (.stringIter s (pos + (Utf8.decode s pos).2)) }, ?_, Qn3 (cs := [.bool true, goInt pos, .int .i32 (Utf8.decode s pos).1]) (by simp [Zn, goInt]), ?_⟩
      ·show (Go.getObj x.blk >>= _).run P w = _
       rw [Sem.run_bind, J5 h1 (fun _ _ _ h => by cases h)]
       simp only [Result.andThen_ok, hlt, if_true]
       show (Go.setObj x.blk _ >>= _).run P w = _
       rw [Sem.run_bind, Y3 h1 (fun _ _ _ h => by cases h)]
       rfl
      ·exact Stp.put hr hfr hb hA rfl (heap_set _ hA) (heap_set _ h1) (by simp [putO]) (by simp) rfl rfl rfl (.iter _ _ hsh)
     ·rename_i hlt
      injection he with he
      injection he with e1 e2
      subst e1; subst e2
      refine ⟨.tuple #[.bool false], w, ?_, Qn3 (cs := [.bool false]) (by simp [Zn]), .refl hr⟩
      show (Go.getObj x.blk >>= _).run P w = _
      rw [Sem.run_bind, J5 h1 (fun _ _ _ h => by cases h)]
      simp only [Result.andThen_ok, hlt, if_false]
      rfl
end
end Go.Proofs.Ytfeedchjdnedjaa.Ev

import Derived.Test.YtfeedchjdnedjaaEa
set_option linter.unusedVariables false
set_option linter.unusedSimpArgs false
namespace Go.Proofs.Ytfeedchjdnedjaa.Ev
open Go
section
variable {P : Program} {base fl : Nat} {ρ : Ren}
def Qep : Operand -> Bool
 | .const c => ground c
 | .global _ => false
 | _ => true
def Qcj (P : Program) (s : Sem Next) (wA : World) : Option (Next × World) := match s.run P wA with
 | .ok n w => some (n, w)
 | .halt _ _ => none
theorem Y9 {s s' : Sem Next} {wA w wA' : World} {n : Next} (h : Qcj P s wA = some (n, wA')) (hr : WRel P base ρ wA w) (hf : fl <= wA.heap.size) (hs : Sim P base fl NRel ρ s s') :
 ∃ ρ' n' w', s'.run P w = .ok n' w' /\ NRel ρ' n n' /\ Stp P base fl ρ wA w ρ' wA' w' := by
 unfold Qcj at h
 cases hs1 : s.run P wA with
 | halt x y => rw [hs1] at h; cases h
 | ok a b =>
   rw [hs1] at h
   injection h with h
   injection h with h1 h2
   subst h1; subst h2
   exact hs wA w a b hr hf hs1
def gRun (P : Program) (s : Sem Value) (wA : World) : Option (Next × World) := match s.run P wA with
 | .ok v _ => if ground v then some (.value v, wA) else none
 | .halt _ _ => none
theorem Qlt {s : Sem Value} {wA w wA' : World} {n : Next} (h : gRun P s wA = some (n, wA')) (hr : WRel P base ρ wA w) (hs : Free P s) :
 ∃ ρ' n' w', (do Pure.pure (Next.value (<- s)) : Sem Next).run P w = .ok n' w' /\ NRel ρ' n n' /\ Stp P base fl ρ wA w ρ' wA' w' := by
 unfold gRun at h
 cases hs1 : s.run P wA with
 | halt x y => rw [hs1] at h; cases h
 | ok a b =>
   rw [hs1] at h
   dsimp only at h
   split at h
   ·rename_i hg
    injection h with h
    injection h with h1 h2
    subst h1; subst h2
    obtain ⟨_, e⟩ := hs.run (w1 := w) hs1
    exact ⟨ρ, .value a, w, by rw [Sem.run_bind, e]; rfl, .value (Qbq hg), .refl hr⟩
   ·cases h
def Qi8 (P : Program) (t : TypeId) (x y : Value) : Option Bool :=
 match P.underlying t, x, y with
 | some (.slice _), .slice a _ _, .slice none _ _ => some a.isNone
 | some (.pointer _), .pointer a, .pointer none => some a.isNone
 | some (.map _ _), .map a, .map none => some a.isNone
 | some (.func _ _ _), .func _ _ _, .nilFunc => some false
 | _, _, _ => none
theorem Qi9 {t : TypeId} {x x' y y' : Value} {b : Bool} (h : Qi8 P t x y = some b) (hx : VRel ρ x x') (hy : VRel ρ y y') (w : World) : (Op.equal t x' y').run P w = .ok b w := by
 unfold Qi8 at h
 unfold Op.equal
 show (Op.equalIn (9999 + 1) t x' y').run P w = _
 rw [Op.equalIn.eq_2]
 split at h
 ·rename_i hu
  injection h with h; subst h
  rw [Sem.run_bind, Qh hu]
  cases hy
  cases hx <;> rfl
 ·rename_i hu
  injection h with h; subst h
  rw [Sem.run_bind, Qh hu]
  cases hy
  cases hx <;> rfl
 ·rename_i hu
  injection h with h; subst h
  rw [Sem.run_bind, Qh hu]
  cases hy
  cases hx <;> rfl
 ·rename_i hu
  injection h with h; subst h
  rw [Sem.run_bind, Qh hu]
  cases hy
  cases hx <;> rfl
 ·cases h
def Qg3 (P : Program) (op : BinOp) (t : TypeId) (ox oy : Operand) (x y : Value) (wA : World) : Option (Next × World) :=
 if Qfk x y then gRun P (do eqGuard op t ox oy x y; binOp op t x y) wA
 else match op, Qi8 P t x y with
  | .eql, some b => some (.value (.bool b), wA)
  | .neq, some b => some (.value (.bool !b), wA)
  | _, _ => none
theorem Qzc {x y x' y' : Value} {t : TypeId} {b : Bool} (h : Qi8 P t x y = some b) (hx : VRel ρ x x') (hy : VRel ρ y y') (op : BinOp) (ox oy : Operand) :
 Go.eqGuard op t ox oy x' y' = Pure.pure () /\ Go.binOp .eql t x' y' = (do Pure.pure (.bool (<- Op.equal t x' y'))) /\ Go.binOp .neq t x' y' = (do Pure.pure (.bool (!(<- Op.equal t x' y')))) := by
 have key : ∀ (k : Value -> Value -> Prop), (∀ a n c n' c', k (.slice a n c) (.slice none n' c')) -> (∀ a, k (.pointer a) (.pointer none)) -> (∀ a, k (.map a) (.map none)) -> (∀ f a c, k (.func f a c) .nilFunc) -> k x' y' := by
  intro k h1 h2 h3 h4
  unfold Qi8 at h
  split at h
  ·cases hy; cases hx <;> exact h1 _ _ _ _ _
  ·cases hy; cases hx <;> exact h2 _
  ·cases hy; cases hx <;> exact h3 _
  ·cases hy; cases hx <;> exact h4 _ _ _
  ·cases h
 apply key (fun x' y' => Go.eqGuard op t ox oy x' y' = Pure.pure () /\ Go.binOp .eql t x' y' = (do Pure.pure (.bool (<- Op.equal t x' y'))) /\ Go.binOp .neq t x' y' = (do Pure.pure (.bool (!(<- Op.equal t x' y')))))
 all_goals
  intros
  refine ⟨?_, rfl, rfl⟩
  unfold Go.eqGuard
  split <;> rfl
theorem Qvm {op : BinOp} {t : TypeId} {ox oy : Operand} {x x' y y' : Value} {wA w wA' : World} {n : Next} (h : Qg3 P op t ox oy x y wA = some (n, wA')) (hr : WRel P base ρ wA w) (hf : fl <= wA.heap.size)
 (hx : VRel ρ x x') (hy : VRel ρ y y') : ∃ ρ' n' w', (do Pure.pure (Next.value (<- (do eqGuard op t ox oy x' y'; binOp op t x' y'))) : Sem Next).run P w = .ok n' w' /\ NRel ρ' n n' /\ Stp P base fl ρ wA w ρ' wA' w' := by
 unfold Qg3 at h
 split at h
 ·rename_i hp
  obtain ⟨gx, gy⟩ := Qfk.spec hp
  rw [Qij gx hx, Qij gy hy]
  exact Qlt h hr (.bind (.eqGuard op t ox oy gx gy) fun _ => .binOp op t hp)
 ·split at h
  ·rename_i b hb
   injection h with h; injection h with e1 e2; subst e1; subst e2
   obtain ⟨g1, g2, _⟩ := Qzc hb hx hy .eql ox oy
   refine ⟨ρ, .value (.bool b), w, ?_, .value (.bool b), .refl hr⟩
   rw [g1, g2]
   simp only [pure_bind, bind_assoc]
   rw [Sem.run_bind, Qi9 hb hx hy]; rfl
  ·rename_i b hb
   injection h with h; injection h with e1 e2; subst e1; subst e2
   obtain ⟨g1, _, g2⟩ := Qzc hb hx hy .neq ox oy
   refine ⟨ρ, .value (.bool !b), w, ?_, .value (.bool _), .refl hr⟩
   rw [g1, g2]
   simp only [pure_bind, bind_assoc]
   rw [Sem.run_bind, Qi9 hb hx hy]; rfl
  ·cases h
def Qcy (P : Program) (src dst : TypeId) (x : Value) (wA : World) : Option (Next × World) :=
 match P.underlying src, P.underlying dst, x with
 | some _, some (.int k), .int _ n => some (.value (.int k (k.wrap n)), wA)
 | some (.string), some .string, .string s => some (.value (.string s), wA)
 | some (.int _), some .string, .int _ n => some (.value (.string (Utf8.encode n)), wA)
 | _, _, _ => none
theorem Qnb {src dst : TypeId} {x x' : Value} {wA w wA' : World} {n : Next} (h : Qcy P src dst x wA = some (n, wA')) (hr : WRel P base ρ wA w) (hx : VRel ρ x x') :
 ∃ ρ' n' w', (do Pure.pure (Next.value (<- Go.convert src dst x')) : Sem Next).run P w = .ok n' w' /\ NRel ρ' n n' /\ Stp P base fl ρ wA w ρ' wA' w' := by
 unfold Qcy at h
 split at h
 ·rename_i hs hd
  injection h with h; injection h with e1 e2; subst e1; subst e2
  cases hx
  exact ⟨ρ, _, w, by rw [Sem.run_bind]; unfold Go.convert; rw [Sem.run_bind, Qh hs]; simp only [Result.andThen_ok]; rw [Sem.run_bind, Qh hd]; rfl, .value (.int _ _), .refl hr⟩
 ·rename_i hs hd
  injection h with h; injection h with e1 e2; subst e1; subst e2
  cases hx
  exact ⟨ρ, _, w, by rw [Sem.run_bind]; unfold Go.convert; rw [Sem.run_bind, Qh hs]; simp only [Result.andThen_ok]; rw [Sem.run_bind, Qh hd]; rfl, .value (.string _), .refl hr⟩
 ·rename_i hs hd
  injection h with h; injection h with e1 e2; subst e1; subst e2
  cases hx
  exact ⟨ρ, _, w, by rw [Sem.run_bind]; unfold Go.convert; rw [Sem.run_bind, Qh hs]; simp only [Result.andThen_ok]; rw [Sem.run_bind, Qh hd]; rfl, .value (.string _), .refl hr⟩
 ·cases h
def Qlu (P : Program) (s : TypeId) (f : Nat) : Bool := match P.underlying s with
 | some (.struct fs) => match fs[f]? with
   | some fd => szOf P fd.type != some 0
   | none => false
 | _ => false
def Qk7 (P : Program) (t : TypeId) (x : Value) (wA : World) : Option (Next × World) :=
 match P.underlying t, x with
 | some .string, .string s => some (.value (.pointer (some ⟨wA.heap.size, 0, none⟩)), wA.alloc (.stringIter s 0))
 | _, _ => none
theorem Qrg {t : TypeId} {x x' : Value} {wA w wA' : World} {n : Next} (h : Qk7 P t x wA = some (n, wA')) (hr : WRel P base ρ wA w) (hf : fl <= wA.heap.size) (hx : VRel ρ x x') :
 ∃ ρ' n' w', (do Pure.pure (Next.value (<- Instr.range t x')) : Sem Next).run P w = .ok n' w' /\ NRel ρ' n n' /\ Stp P base fl ρ wA w ρ' wA' w' := by
 unfold Qk7 at h
 split at h
 ·rename_i s hu
  injection h with h; injection h with e1 e2; subst e1; subst e2
  cases hx
  refine ⟨_, .value (.pointer (some ⟨w.heap.size, 0, none⟩)), w.alloc (.stringIter s 0), ?_, .value ?_, WRel.new (x := ⟨w.heap.size, 0, 0, 0⟩) hr hf rfl (fun _ => .iter s 0 rfl)⟩
  ·rw [Sem.run_bind]; unfold Instr.range; rw [Sem.run_bind, Qh hu]; rfl
  ·exact VRel.ptr (o := 0) (x := ⟨w.heap.size, 0, 0, 0⟩) (if_pos rfl)
 ·cases h
theorem Sim.copy {dT sT ty : TypeId} {d d' x x' : Value} (hd : VRel ρ d d') (hx : VRel ρ x x') (hf : ∀ a l c, d = .slice (some a) l c -> fl <= a.block) (hsx : ∃ a l c, x = .slice a l c) :
 Sim P base fl VRel ρ (Builtin.copy_ #[dT, sT] ty #[d, x]) (Builtin.copy_ #[dT, sT] ty #[d', x']) := by
 obtain ⟨a2, n2, c2, rfl⟩ := hsx
 obtain ⟨A2, C2, rfl⟩ : ∃ A2 C2, x' = .slice A2 n2 C2 := by cases hx <;> exact ⟨_, _, rfl⟩
 unfold Builtin.copy_
 simp only [List.getElem?_toArray, List.getElem?_cons_zero, List.getElem?_cons_succ]
 refine Sim.Xc (.underlying dT) fun de hde => ?_
 cases de with
 | slice e =>
   dsimp only
   have fin : ∀ (b o o' l : Nat) (y : Img), ρ b = some y -> fl <= b -> (0 < l -> o' = o + y.shift) -> Sim P base fl VRel ρ
    (Builtin.lenOf (.slice a2 n2 c2) >>= fun n => Go.sizeOf e >>= fun s => Builtin.firstCells s (Nat.min n l) (.slice a2 n2 c2) >>= fun cells => Go.storeCells ⟨b, o, none⟩ cells.toList >>= fun _ => Pure.pure (goInt (Nat.min n l)))
    (Builtin.lenOf (.slice A2 n2 C2) >>= fun n => Go.sizeOf e >>= fun s => Builtin.firstCells s (Nat.min n l) (.slice A2 n2 C2) >>= fun cells => Go.storeCells ⟨y.blk, o', none⟩ cells.toList >>= fun _ => Pure.pure (goInt (Nat.min n l))) := by
    intro b o o' l y hb hfb ho
    simp only [Builtin.lenOf, pure_bind]
    refine Sim.Xc (.sizeOf e) fun s _ => ?_
    by_cases hl : 0 < l
    ·rw [ho hl]
     exact (Sim.first hx fun _ _ _ e => by injection e with _ e; subst e; exact Nat.min_le_left _ _).bind fun ρ1 r r' hle hrr =>
      (Sim.storeCells hfb _ _ 0 ρ1 (hle _ _ hb) hrr.list).bind fun ρ2 _ _ _ _ => .pure (.int _ _)
    ·have h0 : l = 0 := by omega
     subst h0
     have e0 : Nat.min n2 0 = 0 := Nat.min_zero _
     rw [e0]
     have z : ∀ (a : Option Addr) (c : Nat), Builtin.firstCells s 0 (.slice a n2 c) = (Pure.pure #[] : Sem (Array Value)) := by
      intro a c
      unfold Builtin.firstCells
      cases a with
      | none => rfl
      | some a => show Go.loadCells a (0 * s) = _; rw [Nat.zero_mul]; rfl
     rw [z, z]
     simp only [pure_bind]
     exact .pure (.int _ _)
   cases hd with
   | nilSlice l c =>
     dsimp only
     simp only [Builtin.lenOf, pure_bind]
     refine Sim.Xc (.sizeOf e) fun s _ => ?_
     exact (Sim.first hx fun _ _ _ e => by injection e with _ e; subst e; exact Nat.min_le_left _ _).bind fun ρ1 r r' hle hrr => .pure (.int _ _)
   | slice hb hc => exact fin _ _ _ _ _ hb (hf _ _ _ rfl) (fun _ => rfl)
   | loose hb hc hn ht ho => exact fin _ _ _ _ _ hb (hf _ _ _ rfl) ho
   | _ => exact .stuck
 | _ => exact .stuck
theorem Sim.clear {t ty : TypeId} {x x' : Value} (hx : VRel ρ x x') (h : Qag P t = true) (hf : ∀ a l c, x = .slice (some a) l c -> fl <= a.block) (hsx : ∃ a l c, x = .slice a l c) :
 Sim P base fl VRel ρ (Builtin.clear_ #[t] ty #[x]) (Builtin.clear_ #[t] ty #[x']) := by
 obtain ⟨a, n, c, rfl⟩ := hsx
 have tup : ∀ ρ1 : Ren, VRel ρ1 (.tuple #[]) (.tuple #[]) := fun ρ1 => Qn3 (cs := []) (by simp)
 unfold Builtin.clear_
 simp only [List.getElem?_toArray, List.getElem?_cons_zero]
 refine Sim.Xc (.underlying t) fun d hd => ?_
 have hu := Qbh hd
 unfold Qag at h
 rw [hu] at h
 cases d with
 | slice e =>
   dsimp only at h
   cases hx with
   | nilSlice l c => simp only [pure_bind]; exact .pure (tup _)
   | slice hb hc =>
     cases n with
     | zero => simp only [pure_bind]; exact .pure (tup _)
     | succ n =>
       simp only [bind_assoc]
       refine Sim.Xc (.zeroValue e) fun z hz => ?_
       unfold Builtin.zeroCells
       exact (Sim.storeCells (hf _ _ _ rfl) _ _ 0 ρ hb (Qga (zeroCell.spec h hz) _).list).bind fun ρ2 _ _ _ _ => .pure (tup _)
   | loose hb hc hl ht ho =>
     cases n with
     | zero => simp only [pure_bind]; exact .pure (tup _)
     | succ n =>
       simp only [bind_assoc]
       refine Sim.Xc (.zeroValue e) fun z hz => ?_
       unfold Builtin.zeroCells
       rw [ho (Nat.succ_pos _)]
       exact (Sim.storeCells (hf _ _ _ rfl) _ _ 0 ρ hb (Qga (zeroCell.spec h hz) _).list).bind fun ρ2 _ _ _ _ => .pure (tup _)
   | _ => exact .stuck
 | _ => cases h
def Qph (P : Program) (fl : Nat) (o : Oper) (ev : Operand -> Value) (wA : World) : Option (Next × World) :=
 match o.op with
 | .move x | .assign x => some (.value (ev x), wA)
 | .pick c a b => match ev c with
   | .bool t => some (.value (if t then ev a else ev b), wA)
   | _ => none
 | .alloc t => if Qeg P t then Qcj P (execOp ev o) wA else none
 | .box t _ => if (P.info? t).isSome then Qcj P (execOp ev o) wA else none
 | .build t _ => if Qeg P t then Qcj P (execOp ev o) wA else none
 | .buildSlice t n _ => if Qag P t && decide (n < big) then Qcj P (execOp ev o) wA else none
 | .load _ _ => Qcj P (execOp ev o) wA
 | .store _ a _ => match ev a with
   | .pointer (some ad) => if fl <= ad.block then Qcj P (execOp ev o) wA else none
   | _ => none
 | .nilCheck x => match ev x with
   | .pointer (some a) => some (.value (.pointer (some a)), wA)
   | .func (.func f) a c => some (.value (.func (.func f) a c), wA)
   | _ => none
 | .binOp op t x y _ => Qg3 P op t x y (ev x) (ev y) wA
 | .unOp op _ x => if Zn (ev x) then gRun P (Op.unary op (ev x)) wA else none
 | .convert s d x => Qcy P s d (ev x) wA
 | .makeFunc fn first captured => if Fn.calm fn then some (.value (.func fn (first.map ev) (captured.map ev)), wA) else none
 | .makeMap _ r => match r with
   | none => Qcj P (execOp ev o) wA
   | some x => if Zn (ev x) then Qcj P (execOp ev o) wA else none
 | .makeSlice t l c => match ev l, ev c with
   | .int _ _, .int _ n => if Qag P t && decide ((IntKind.i64.wrap n).toNat < big) then Qcj P (execOp ev o) wA else none
   | _, _ => none
 | .slice t x lo hi mx => if (lo.all fun x => Zn (ev x)) && (hi.all fun x => Zn (ev x)) && (mx.all fun x => Zn (ev x)) then
  (Qid P (fun b => wA.heap[b]?) t (ev x) (lo.map ev) (hi.map ev) (mx.map ev)).map fun v => (.value v, wA)
   else none
 | .fieldAddr s _ f => if Qlu P s f then Qcj P (execOp ev o) wA else none
 | .field _ _ _ => Qcj P (execOp ev o) wA
 | .indexAddr _ _ i => match ev i with
   | .int _ _ => Qcj P (execOp ev o) wA
   | _ => none
 | .index _ _ i => match ev i with
   | .int _ _ => Qcj P (execOp ev o) wA
   | _ => none
 | .lookup t m k ok => if Zn (ev k) then (Qfz P (fun b => wA.heap[b]?) t (ev m) (ev k) ok).map fun v => (.value v, wA) else none
 | .mapUpdate t m k v | .insert t m k v => if Zn (ev k) then (Qbw P fl (fun b => wA.heap[b]?) t (ev m) (ev k) (ev v)).map fun r => (.skip, { wA with heap := wA.heap.setIfInBounds r.1 r.2 }) else none
 | .range t x => Qk7 P t (ev x) wA
 | .next it true => (Ql8 fl (fun b => wA.heap[b]?) (ev it)).map fun r => (.value r.1, putO wA r.2)
 | .extract _ _ => Qcj P (execOp ev o) wA
 | .call { callee := .builtin .len, args, argTypes } => match argTypes.toList, args.toList with
   | [t], [x] => (Qr4 P (fun b => wA.heap[b]?) t (ev x)).map fun v => (.value v, wA)
   | _, _ => none
 | .call { callee := .builtin .append, args, argTypes } => match argTypes.toList, args.toList with
   | [t, u], [s, x] => if t = u then (Qfb P fl t (ev s) (ev x) wA).map fun r => (.value r.1, r.2) else none
   | _, _ => none
 | .call { callee := .builtin .copy, args, argTypes } => match argTypes.toList, args.toList with
   | [_, _], [d, x] => match ev d, ev x with
     | .slice none _ _, .slice _ _ _ => Qcj P (execOp ev o) wA
     | .slice (some a) _ _, .slice _ _ _ => if fl <= a.block then Qcj P (execOp ev o) wA else none
     | _, _ => none
   | _, _ => none
 | .call { callee := .builtin .clear, args, argTypes } => match argTypes.toList, args.toList with
   | [t], [x] => if Qag P t then match ev x with
     | .slice none _ _ => Qcj P (execOp ev o) wA
     | .slice (some a) _ _ => if fl <= a.block then Qcj P (execOp ev o) wA else none
     | _ => none else none
   | _, _ => none
 | .call { callee := .builtin .min, args, argTypes } => if args.all fun x => Zn (ev x) then gRun P (Builtin.min_ argTypes o.type (args.map ev)) wA else none
 | .call { callee := .builtin .max, args, argTypes } => if args.all fun x => Zn (ev x) then gRun P (Builtin.max_ argTypes o.type (args.map ev)) wA else none
 | _ => none
theorem Free.Qwf {f : Value -> Value -> Sem Value} (hf : ∀ a b, Zn a = true -> Zn b = true -> Free P (f a b) /\ ∀ v w w', (f a b).run P w = .ok v w' -> Zn v = true) :
 ∀ (l : List Value) (x : Value), Zn x = true -> (∀ y ∈ l, Zn y = true) -> Free P (l.foldlM f x)
 | [], x, _, _ => by rw [List.foldlM_nil]; exact .pure _
 | y :: l, x, hx, hl => by
   rw [List.foldlM_cons]
   refine .Qkz (hf x y hx (hl y (by simp))).1 fun v hv => ?_
   exact Free.Qwf hf l v ((hf x y hx (hl y (by simp))).2 v default default (hv default)) fun z hz => hl z (by simp [hz])
theorem Free.min2 (a b : Value) (ha : Zn a = true) (hb : Zn b = true) : Free P (Builtin.min2 a b) /\ ∀ v w w', (Builtin.min2 a b).run P w = .ok v w' -> Zn v = true := by
 unfold Builtin.min2
 split
 ·exact ⟨.pure _, fun v w w' h => by simp only [Sem.run_pure, Result.ok.injEq] at h; rw [<- h.1]; rfl⟩
 ·simp [Zn] at ha
 ·rename_i x y
  have hs : Free P (Op.stringOp .leq x y) := .stringOp _ _ _
  have hb : ∀ v, Free P (Go.asBool v) := fun v => by unfold Go.asBool; split <;> first | exact .pure _ | exact .halt _
  refine ⟨.bind hs fun r => .bind (hb r) fun _ => .pure _, fun v w w' h => ?_⟩
  simp only [Sem.run_bind] at h
  cases h1 : (Op.stringOp .leq x y).run P w with
  | halt p q => rw [h1] at h; cases h
  | ok p q =>
    rw [h1] at h
    simp only [Result.andThen_ok] at h
    cases h2 : (Go.asBool p).run P q with
    | halt p q => rw [h2] at h; cases h
    | ok p q =>
      rw [h2] at h
      simp only [Result.andThen_ok, Sem.run_pure, Result.ok.injEq] at h
      rw [<- h.1]; rfl
 ·simp [Zn] at ha
 ·simp [Zn] at hb
 ·exact ⟨.halt _, fun v w w' h => by cases h⟩
theorem Free.max2 (a b : Value) (ha : Zn a = true) (hb : Zn b = true) : Free P (Builtin.max2 a b) /\ ∀ v w w', (Builtin.max2 a b).run P w = .ok v w' -> Zn v = true := by
 unfold Builtin.max2
 split
 ·exact ⟨.pure _, fun v w w' h => by simp only [Sem.run_pure, Result.ok.injEq] at h; rw [<- h.1]; rfl⟩
 ·simp [Zn] at ha
 ·rename_i x y
  have hs : Free P (Op.stringOp .geq x y) := .stringOp _ _ _
  have hb : ∀ v, Free P (Go.asBool v) := fun v => by unfold Go.asBool; split <;> first | exact .pure _ | exact .halt _
  refine ⟨.bind hs fun r => .bind (hb r) fun _ => .pure _, fun v w w' h => ?_⟩
  simp only [Sem.run_bind] at h
  cases h1 : (Op.stringOp .geq x y).run P w with
  | halt p q => rw [h1] at h; cases h
  | ok p q =>
    rw [h1] at h
    simp only [Result.andThen_ok] at h
    cases h2 : (Go.asBool p).run P q with
    | halt p q => rw [h2] at h; cases h
    | ok p q =>
      rw [h2] at h
      simp only [Result.andThen_ok, Sem.run_pure, Result.ok.injEq] at h
      rw [<- h.1]; rfl
 ·simp [Zn] at ha
 ·simp [Zn] at hb
 ·exact ⟨.halt _, fun v w w' h => by cases h⟩
theorem Free.Qk8 {f : Value -> Value -> Sem Value} (hf : ∀ a b, Zn a = true -> Zn b = true -> Free P (f a b) /\ ∀ v w w', (f a b).run P w = .ok v w' -> Zn v = true) {l : List Value} {why : String}
 (h : ∀ y ∈ l, Zn y = true) : Free P (match l with | [] => Go.stuck why | x :: rest => rest.foldlM f x) := by
 cases l with
 | nil => exact .halt _
 | cons x l => exact Free.Qwf hf l x (h x (by simp)) fun y hy => h y (by simp [hy])
theorem Qnc {ρ : Ren} {evA ev : Operand -> Value} {l : Array Operand} (h : ∀ x ∈ l, VRel ρ (evA x) (ev x)) (hg : (l.all fun x => Zn (evA x)) = true) : l.map ev = l.map evA := by
 rw [Array.all_eq_true_iff_forall_mem] at hg
 exact Array.map_congr_left fun x hx => Qbg (hg x hx) (h x hx)
theorem Qnd {ρ : Ren} {evA ev : Operand -> Value} {ps : Array (Nat × Operand)} (h : ∀ x ∈ (ps.toList.map (·.2)).toArray, VRel ρ (evA x) (ev x)) :
 PRel ρ (ps.map fun (i, x) => (i, evA x)).toList (ps.map fun (i, x) => (i, ev x)).toList := by
 refine ⟨by simp, fun i p q hp hq => ?_⟩
 simp only [Array.getElem?_toList, Array.getElem?_map] at hp hq
 cases hi : ps[i]? with
 | none => rw [hi] at hp; cases hp
 | some y =>
   rw [hi] at hp hq
   simp only [Option.map_some, Option.some.injEq] at hp hq
   subst hp; subst hq
   refine ⟨rfl, h y.2 ?_⟩
   simp only [List.mem_toArray, List.mem_map]
   exact ⟨y, Array.mem_toList_iff.2 (Array.mem_of_getElem? hi), rfl⟩
theorem Qsx {o : Oper} {evA ev : Operand -> Value} {wA w wA' : World} {n : Next} (h : Qph P fl o evA wA = some (n, wA')) (hr : WRel P base ρ wA w) (hf : fl <= wA.heap.size)
 (he : ∀ x ∈ o.op.operands, VRel ρ (evA x) (ev x)) : ∃ ρ' n' w', (execOp ev o).run P w = .ok n' w' /\ NRel ρ' n n' /\ Stp P base fl ρ wA w ρ' wA' w' := by
 obtain ⟨dst, op, type, pos, after, guard⟩ := o
 have put : ∀ {v v' : Value}, some (Next.value v, wA) = some (n, wA') -> VRel ρ v v' -> ∃ ρ' n' w', (Pure.pure (Next.value v') : Sem Next).run P w = .ok n' w' /\ NRel ρ' n n' /\ Stp P base fl ρ wA w ρ' wA' w' := by
  intro v v' h1 h2
  injection h1 with h1; injection h1 with e1 e2; subst e1; subst e2
  exact ⟨ρ, _, w, rfl, .value h2, .refl hr⟩
 cases op <;> simp only [Qph, Op.operands] at h he
 case move x => exact put h (he x (by simp))
 case assign x => exact put h (he x (by simp))
 case pick c a b =>
  have hc := he c (by simp)
  split at h
  ·rename_i t ht
   rw [ht] at hc
   have hcb : ev c = .bool t := by generalize ev c = y at hc; cases hc; rfl
   simp only [execOp, hcb, asBool, pure_bind]
   exact put h (by cases t; exact he b (by simp); exact he a (by simp))
  ·cases h
 case alloc t =>
  split at h
  ·exact Y9 h hr hf (Sim.value (Sim.alloc ‹_›))
  ·cases h
 case box t x =>
  split at h
  ·exact Y9 h hr hf (Sim.value (Sim.box ‹_› (he x (by simp))))
  ·cases h
 case build t ps =>
  split at h
  ·exact Y9 h hr hf (Sim.value (Sim.build ‹_› (Qnd he)))
  ·cases h
 case buildSlice t m ps =>
  split at h
  ·rename_i hc
   simp only [Bool.and_eq_true, decide_eq_true_eq] at hc
   exact Y9 h hr hf (Sim.value (Sim.buildSlice hc.1 hc.2 (Qnd he)))
  ·cases h
 case load t a => exact Y9 h hr hf (Sim.value (Sim.loadAt (he a (by simp))))
 case store t a x =>
  split at h
  ·rename_i ad had
   split at h
   ·rename_i hfl
    refine Y9 h hr hf (Sim.unit (Sim.storeAt (he a (by simp)) (he x (by simp)) fun a' ha' => ?_))
    rw [had] at ha'; injection ha' with ha'; injection ha' with ha'; subst ha'; exact hfl
   ·cases h
  ·cases h
 case nilCheck x =>
  have hx := he x (by simp)
  split at h
  ·rename_i a ha
   rw [ha] at hx
   simp only [execOp]
   generalize ev x = y at hx
   have hx' := hx
   cases hx
   exact put h hx'
  ·rename_i f a c ha
   rw [ha] at hx
   simp only [execOp]
   generalize ev x = y at hx
   have hx' := hx
   cases hx
   exact put h hx'
  ·cases h
 case binOp op t x y yt => exact Qvm h hr hf (he x (by simp)) (he y (by simp))
 case unOp op t x =>
  split at h
  ·rename_i hg
   have hx := Qbg hg (he x (by simp))
   simp only [execOp, hx]
   exact Qlt h hr (.unary _ hg)
  ·cases h
 case convert s d x => exact Qnb h hr (he x (by simp))
 case makeFunc fn first captured =>
  split at h
  ·rename_i hc
   have h1 : ARel ρ (first.map evA) (first.map ev) := ARel.map _ fun x hx => he x (by simp [hx])
   have h2 : ARel ρ (captured.map evA) (captured.map ev) := ARel.map _ fun x hx => he x (by simp [hx])
   exact put h (.func hc h1.1 h1.2 h2.1 h2.2)
  ·cases h
 case makeMap t r =>
  split at h
  ·exact Y9 h hr hf (Sim.value (Sim.makeMap (fun v hv => by cases hv)))
  ·rename_i x
   split at h
   ·rename_i hg
    have hx := Qbg hg (he x (by simp))
    refine Y9 h hr hf ?_
    simp only [execOp, Option.map_some, hx]
    exact Sim.value (Sim.makeMap (fun v hv => by injection hv with hv; subst hv; exact hg))
   ·cases h
 case makeSlice t l c =>
  have hl := he l (by simp)
  have hc := he c (by simp)
  split at h
  ·rename_i k1 n1 k2 n2 e1 e2
   split at h
   ·rename_i hcond
    simp only [Bool.and_eq_true, decide_eq_true_eq] at hcond
    rw [e1] at hl; rw [e2] at hc
    refine Y9 h hr hf ?_
    have f1 : ev l = .int k1 n1 := by generalize ev l = y at hl; cases hl; rfl
    have f2 : ev c = .int k2 n2 := by generalize ev c = y at hc; cases hc; rfl
    simp only [execOp, e1, e2, f1, f2]
    exact Sim.value (Sim.makeSlice hcond.1 hcond.2)
   ·cases h
  ·cases h
 case slice t x lo hi mx =>
  split at h
  case isFalse => cases h
  rename_i hg
  simp only [Bool.and_eq_true] at hg
  have opt : ∀ y : Option Operand, (y.all fun x => Zn (evA x)) = true -> (∀ z, y = some z -> VRel ρ (evA z) (ev z)) -> y.map ev = y.map evA := by
   intro y hy hz
   cases y with
   | none => rfl
   | some z => simp only [Option.map_some]; rw [Qbg (by simpa using hy) (hz z rfl)]
  have e1 := opt lo hg.1.1 (fun z hz => he z (by subst hz; simp))
  have e2 := opt hi hg.1.2 (fun z hz => he z (by subst hz; simp))
  have e3 := opt mx hg.2 (fun z hz => he z (by subst hz; simp))
  cases hs : Qid P (fun b => wA.heap[b]?) t (evA x) (lo.map evA) (hi.map evA) (mx.map evA) with
  | none => rw [hs] at h; cases h
  | some v =>
    rw [hs] at h
    simp only [Option.map_some] at h
    obtain ⟨v', h1, h2⟩ := Qqx hs hr (he x (by simp))
    injection h with h; injection h with g1 g2; subst g1; subst g2
    exact ⟨ρ, .value v', w, by simp only [execOp, e1, e2, e3]; rw [Sem.run_bind, h1]; rfl, .value h2, .refl hr⟩
 case fieldAddr s x f =>
  split at h
  ·rename_i hfo
   refine Y9 h hr hf (Sim.value (Sim.fieldAt (he x (by simp)) fun fs fd hu hfd hz => ?_))
   unfold Qlu at hfo
   rw [hu] at hfo
   simp only [hfd] at hfo
   unfold szOf at hfo
   rw [hz] at hfo
   simp at hfo
  ·cases h
 case field t x f => exact Y9 h hr hf (Sim.value (Sim.field (he x (by simp))))
 case indexAddr t x i =>
  have hi := he i (by simp)
  split at h
  ·rename_i k m hk
   rw [hk] at hi
   have f1 : ev i = .int k m := by generalize ev i = y at hi; cases hi; rfl
   refine Y9 h hr hf ?_
   simp only [execOp, hk, f1]
   exact Sim.value (Sim.indexAt (he x (by simp)))
  ·cases h
 case index t x i =>
  have hi := he i (by simp)
  split at h
  ·rename_i k m hk
   rw [hk] at hi
   have f1 : ev i = .int k m := by generalize ev i = y at hi; cases hi; rfl
   refine Y9 h hr hf ?_
   simp only [execOp, hk, f1]
   exact Sim.value (Sim.index (he x (by simp)))
  ·cases h
 case lookup t m k ok =>
  split at h
  case isFalse => cases h
  rename_i hg
  have hk := Qbg hg (he k (by simp))
  cases hs : Qfz P (fun b => wA.heap[b]?) t (evA m) (evA k) ok with
  | none => rw [hs] at h; cases h
  | some v =>
    rw [hs] at h
    simp only [Option.map_some] at h
    obtain ⟨v', h1, h2⟩ := Qn2 hs hr (he m (by simp))
    injection h with h; injection h with g1 g2; subst g1; subst g2
    exact ⟨ρ, .value v', w, by simp only [execOp, hk]; rw [Sem.run_bind, h1]; rfl, .value h2, .refl hr⟩
 case mapUpdate t m k v =>
  split at h
  case isFalse => cases h
  rename_i hg
  have hk := Qbg hg (he k (by simp))
  cases hs : Qbw P fl (fun b => wA.heap[b]?) t (evA m) (evA k) (evA v) with
  | none => rw [hs] at h; cases h
  | some r0 =>
    obtain ⟨r0, o0⟩ := r0
    rw [hs] at h
    simp only [Option.map_some] at h
    obtain ⟨w', h1, h2⟩ := Qip hs hr (he m (by simp)) (he v (by simp))
    injection h with h; injection h with g1 g2; subst g1; subst g2
    exact ⟨ρ, .skip, w', by simp only [execOp, hk]; rw [Sem.run_bind, h1]; rfl, .skip, h2⟩
 case insert t m k v =>
  split at h
  case isFalse => cases h
  rename_i hg
  have hk := Qbg hg (he k (by simp))
  cases hs : Qbw P fl (fun b => wA.heap[b]?) t (evA m) (evA k) (evA v) with
  | none => rw [hs] at h; cases h
  | some r0 =>
    obtain ⟨r0, o0⟩ := r0
    rw [hs] at h
    simp only [Option.map_some] at h
    obtain ⟨w', h1, h2⟩ := Qip hs hr (he m (by simp)) (he v (by simp))
    injection h with h; injection h with g1 g2; subst g1; subst g2
    exact ⟨ρ, .skip, w', by simp only [execOp, hk]; rw [Sem.run_bind, h1]; rfl, .skip, h2⟩
 case range t x => exact Qrg h hr hf (he x (by simp))
 case next it s =>
  cases s with
  | false => cases h
  | true =>
    simp only at h
    cases hs : Ql8 fl (fun b => wA.heap[b]?) (evA it) with
    | none => rw [hs] at h; cases h
    | some r =>
      obtain ⟨v, wA1⟩ := r
      rw [hs] at h
      simp only [Option.map_some] at h
      obtain ⟨v', w', h1, h2, h3⟩ := Qsr (ty := type) hs hr (he it (by simp))
      injection h with h; injection h with g1 g2; subst g1; subst g2
      exact ⟨ρ, .value v', w', by simp only [execOp]; rw [Sem.run_bind, h1]; rfl, .value h2, h3⟩
 case extract t i => exact Y9 h hr hf (Sim.value (Sim.extract (he t (by simp))))
 case call c =>
  obtain ⟨callee, args, argTypes⟩ := c
  cases callee with
  | value f => cases h
  | invoke f m => cases h
  | builtin b =>
    cases b <;> simp only [Call.operands] at h he
    case len =>
     split at h
     case h_2 => cases h
     rename_i t x e1 e2
     obtain ⟨argTypes⟩ := argTypes
     obtain ⟨args⟩ := args
     dsimp only at e1 e2
     subst e1; subst e2
     cases hs : Qr4 P (fun b => wA.heap[b]?) t (evA x) with
     | none => rw [hs] at h; cases h
     | some v =>
       rw [hs] at h
       simp only [Option.map_some] at h
       obtain ⟨h1, h2⟩ := Quw (ty := type) hs hr (he x (by simp))
       injection h with h; injection h with g1 g2; subst g1; subst g2
       exact ⟨ρ, .value v, w, by show ((do Pure.pure (Next.value (<- Builtin.len_ #[t] type (#[x].map ev)))) : Sem Next).run P w = _; rw [show (#[x].map ev) = #[ev x] by simp, Sem.run_bind, h1]; rfl, .value (Qf9 h2), .refl hr⟩
    case append =>
     split at h
     case h_2 => cases h
     rename_i t u s x e1 e2
     obtain ⟨argTypes⟩ := argTypes
     obtain ⟨args⟩ := args
     dsimp only at e1 e2
     subst e1; subst e2
     split at h
     case isFalse => cases h
     rename_i htu
     subst htu
     cases hs : Qfb P fl t (evA s) (evA x) wA with
     | none => rw [hs] at h; cases h
     | some r =>
       obtain ⟨v, wA1⟩ := r
       rw [hs] at h
       simp only [Option.map_some] at h
       obtain ⟨ρ1, v', w', h1, h2, h3⟩ := Qn0 (ty := type) hs hr hf (he s (by simp)) (he x (by simp))
       injection h with h; injection h with g1 g2; subst g1; subst g2
       exact ⟨ρ1, .value v', w', by show ((do Pure.pure (Next.value (<- Builtin.append_ #[t, t] type (#[s, x].map ev)))) : Sem Next).run P w = _; rw [show (#[s, x].map ev) = #[ev s, ev x] by simp, Sem.run_bind, h1]; rfl, .value h2, h3⟩
    case copy =>
     split at h
     case h_2 => cases h
     rename_i t u d x e1 e2
     obtain ⟨argTypes⟩ := argTypes
     obtain ⟨args⟩ := args
     dsimp only at e1 e2
     subst e1; subst e2
     have hd := he d (by simp)
     have hx := he x (by simp)
     have hex : ∀ e : Operand -> Value, execOp e { dst := dst, op := .call { callee := .builtin .copy, args := #[d, x], argTypes := #[t, u] }, type := type, pos := pos, after := after, guard := guard } =
      (do Pure.pure (Next.value (<- Builtin.copy_ #[t, u] type #[e d, e x]))) := fun e => by
      rw [show #[e d, e x] = #[d, x].map e by simp]; rfl
     split at h
     ·rename_i e1 e2
      rw [hex] at h ⊢
      exact Y9 h hr hf (Sim.value (Sim.copy hd hx (fun a l c e => by rw [e1] at e; cases e) ⟨_, _, _, e2⟩))
     ·rename_i e1 e2
      split at h
      ·rename_i hfl
       rw [hex] at h ⊢
       exact Y9 h hr hf (Sim.value (Sim.copy hd hx (fun a l c e => by rw [e1] at e; injection e with e; injection e with e; subst e; exact hfl) ⟨_, _, _, e2⟩))
      ·cases h
     ·cases h
    case clear =>
     split at h
     case h_2 => cases h
     rename_i t x e1 e2
     obtain ⟨argTypes⟩ := argTypes
     obtain ⟨args⟩ := args
     dsimp only at e1 e2
     subst e1; subst e2
     have hx := he x (by simp)
     have hex : ∀ e : Operand -> Value, execOp e { dst := dst, op := .call { callee := .builtin .clear, args := #[x], argTypes := #[t] }, type := type, pos := pos, after := after, guard := guard } =
      (do Pure.pure (Next.value (<- Builtin.clear_ #[t] type #[e x]))) := fun e => by
      rw [show #[e x] = #[x].map e by simp]; rfl
     split at h
     case isFalse => cases h
     rename_i hz
     split at h
     ·rename_i e1
      rw [hex] at h ⊢
      exact Y9 h hr hf (Sim.value (Sim.clear hx hz (fun a l c e => by rw [e1] at e; cases e) ⟨_, _, _, e1⟩))
     ·rename_i e1
      split at h
      ·rename_i hfl
       rw [hex] at h ⊢
       exact Y9 h hr hf (Sim.value (Sim.clear hx hz (fun a l c e => by rw [e1] at e; injection e with e; injection e with e; subst e; exact hfl) ⟨_, _, _, e1⟩))
      ·cases h
     ·cases h
    case min =>
     split at h
     case isFalse => cases h
     rename_i hg
     have e1 := Qnc (fun x hx => he x (by simpa using hx)) hg
     have hall : ∀ y ∈ (args.map evA).toList, Zn y = true := by
      intro y hy
      simp only [Array.toList_map, List.mem_map] at hy
      obtain ⟨z, hz, rfl⟩ := hy
      exact (Array.all_eq_true_iff_forall_mem.1 hg) z (Array.mem_toList_iff.1 hz)
     have := Qlt (fl := fl) h hr (by unfold Builtin.min_; exact Free.Qk8 Free.min2 hall)
     show ∃ ρ' n' w', ((do Pure.pure (Next.value (<- Builtin.min_ argTypes type (args.map ev)))) : Sem Next).run P w = _ /\ _
     rw [e1]; exact this
    case max =>
     split at h
     case isFalse => cases h
     rename_i hg
     have e1 := Qnc (fun x hx => he x (by simpa using hx)) hg
     have hall : ∀ y ∈ (args.map evA).toList, Zn y = true := by
      intro y hy
      simp only [Array.toList_map, List.mem_map] at hy
      obtain ⟨z, hz, rfl⟩ := hy
      exact (Array.all_eq_true_iff_forall_mem.1 hg) z (Array.mem_toList_iff.1 hz)
     have := Qlt (fl := fl) h hr (by unfold Builtin.max_; exact Free.Qk8 Free.max2 hall)
     show ∃ ρ' n' w', ((do Pure.pure (Next.value (<- Builtin.max_ argTypes type (args.map ev)))) : Sem Next).run P w = _ /\ _
     rw [e1]; exact this
    all_goals cases h
 all_goals (first | (cases h; done) | skip)
end
end Go.Proofs.Ytfeedchjdnedjaa.Ev

import Derived.Test.YtfeedchjdnedjaaVv3
import Derived.Laws.Strings
set_option linter.unusedVariables false
set_option linter.unusedSimpArgs false
namespace Go.Proofs.Ytfeedchjdnedjaa.Vv
open Go Go.Proofs.Ytfeedchjdnedjaa.Ev
open Go.RowKit (Below)
section
variable {P : Program} {gv : Nat -> Value} {base : Nat} {o : OM} {m : MM} {L : List (Option Blk)} {w : World} {N : Nat}
def PL (o : OM) (base : Nat) (m : MM) : List (Nat × VV) -> List (Nat × Value) -> Prop
 | [], [] => True
 | (i, v) :: l, (j, v') :: l' => i = j /\ R o base m v v' /\ PL o base m l l'
 | _, _ => False
theorem Qjf (place : Nat -> Option (Nat × Nat)) : ∀ (ps : List (Nat × VV)) (ps' : List (Nat × Value)) (cells l : List VV) (cells' : List Value), Qjr place cells ps = some l -> RL o base m cells cells' -> PL o base m ps ps' ->
 ∃ l', Qiy place cells' ps' = some l' /\ RL o base m l l'
 | [], [], cells, l, cells', h, hc, _ => by
   simp only [Qjr, Option.some.injEq] at h; subst h
   exact ⟨_, rfl, hc⟩
 | [], _ :: _, _, _, _, _, _, hp => by simp [PL] at hp
 | (i, v) :: ps, [], cells, l, cells', h, hc, hp => by simp [PL] at hp
 | (i, v) :: ps, (j, v') :: ps', cells, l, cells', h, hc, hp => by
   obtain ⟨rfl, hv, hp⟩ := hp
   simp only [Qjr] at h
   simp only [Qiy]
   split at h
   case h_1 => cases h
   rename_i off size hpl
   rw [hpl]
   dsimp only
   obtain ⟨hc1, h⟩ := Qe h
   simp only [Bool.and_eq_true] at hc1
   split at h
   case h_2 => cases h
   rename_i c1 hset
   obtain ⟨hvc, _⟩ := hv.cells (Qgp hc1.2)
   obtain ⟨e1, e2⟩ := Qi5 hset
   subst e1
   have hl : Nat.beq v'.cells.toList.length size = true := by rw [<- hvc.1]; exact hc1.1
   have hat : At o base m cells ⟨cells'⟩ 0 := ⟨by simpa using Nat.le_of_eq hc.1, fun j u u' a b => hc.2 j u u' a (by simpa using b)⟩
   obtain ⟨l', g1, g2, g3⟩ := hat.put hvc e2
   rw [hl, cond_true]
   rw [Nat.zero_add] at g1
   rw [show (⟨cells'⟩ : Array Value).toList = cells' from rfl] at g1
   rw [g1]
   refine Qjf place ps ps' _ l l' h ⟨?_, fun j u u' a b => g3.2 j u u' a (by simpa using b)⟩ hp
   rw [Qlg e2, g2]; simpa using hc.1
theorem Qec {cs : List Value} (h : ∀ v ∈ cs, Zn v = true) : RL o base m (cs.map .c) cs :=
 ⟨by simp, fun j v v' a b => by
  rw [List.getElem?_map, b] at a
  simp only [Option.map_some, Option.some.injEq] at a
  subst a
  exact .t (.c (Qu8 (h _ (List.mem_of_getElem? b))))⟩
theorem Qjg {t : TypeId} {z : Value} (h : Qqh P t = true) (hz : Qfo P t = some z) : ∀ v ∈ z.cells.toList, Zn v = true := by
 unfold Qqh at h
 rw [hz] at h
 intro v hv
 exact Array.all_eq_true_iff_forall_mem.1 h v (by simpa using hv)
theorem Qt2 {t : TypeId} {ps : List (Nat × VV)} {ps' : List (Nat × Value)} {v : VV} (h : Qt9 P t ps = some v) (hg : Qqh P t = true) (hp : PL o base m ps ps') : ∃ v', Ql7 P t ps' = some v' /\ R o base m v v' := by
 unfold Qt9 at h
 unfold Ql7
 split at h
 ·rename_i z pl hz hpl
  split at h
  case h_2 => cases h
  rename_i l hl
  injection h with h; subst h
  obtain ⟨l', g1, g2⟩ := Qjf _ _ _ _ _ _ hl (Qec (Qjg hg hz)) hp
  rw [hz, hpl]
  dsimp only
  rw [g1]
  exact ⟨_, rfl, R.Qd4 (cs := ⟨l'⟩) g2⟩
 ·rename_i z s hz hpl
  split at h
  case h_2 => cases h
  rename_i l hl
  injection h with h; subst h
  obtain ⟨l', g1, g2⟩ := Qjf _ _ _ _ _ _ hl (Qec (Qjg hg hz)) hp
  rw [hz, hpl]
  dsimp only
  rw [g1]
  exact ⟨_, rfl, R.Qd4 (cs := ⟨l'⟩) g2⟩
 ·cases h
theorem Qjb {e : TypeId} {k : Nat} {l : List Value} (h : Qcf P e k = some l) : ∀ v ∈ l, Zn v = true := by
 unfold Qcf at h
 split at h
 case h_2 => cases h
 split at h
 case h_2 => cases h
 rename_i i hi z hz
 obtain ⟨hg, h⟩ := Qe h
 injection h with h; subst h
 intro v hv
 obtain ⟨j, _, rfl⟩ := List.mem_map.1 hv
 exact Qjx hg _
theorem Qdw {n : Nat} (h : Nat.blt n bigH = true) : n < bigH := Nat.le_of_ble_eq_true h
theorem Qbt {cells : List VV} {l : List Value} (h : RL o base m cells l) : At o base m cells ⟨l⟩ 0 :=
 ⟨by simpa using Nat.le_of_eq h.1, fun j v v' a b => h.2 j v v' a (by simpa using b)⟩
theorem Qjn {t : TypeId} {n : Nat} {ps : List (Nat × VV)} {ps' : Array (Nat × Value)} {v : VV} {blk : Blk} (h : Qbv P N t n ps = some (v, blk)) (hbl : base <= w.heap.size) (hp : PL o base m ps ps'.toList) :
 ∃ v' w', (Instr.buildSlice t n ps').run P w = .ok v' w' /\ Res base o m L w N (.new blk) v v' w' /\ (n = 0 -> Res base o m L w N (.new blk) .e0 v' w') := by
 unfold Qbv at h
 split at h
 case h_2 => cases h
 rename_i e hu
 split at h
 case h_2 => cases h
 rename_i s hs
 obtain ⟨hc, h⟩ := Qe h
 rw [Bool.and_eq_true] at hc
 split at h
 case h_2 => cases h
 rename_i zl hzl
 split at h
 case h_2 => cases h
 rename_i l hl
 injection h with h; injection h with h1 h2
 subst h1; subst h2
 obtain ⟨l', g1, g2⟩ := Qjf _ _ _ _ _ _ hl (Qec (Qjb hzl)) hp
 have hf : Qa6 P w.heap.size t n ps'.toList = some (.slice (some ⟨w.heap.size, 0, none⟩) n n, .cells ⟨l'⟩ e) := by
  unfold Qa6
  rw [hu]; dsimp only; rw [hs]; dsimp only; rw [hc.1]; simp only [cond_true]; rw [hzl]; dsimp only; rw [g1]
 obtain ⟨r1, _, _⟩ := Qc1 hf
 have hat : At (o.of (!(l.all VV.still))) base m l ⟨l'⟩ 0 := by
  cases hst : l.all VV.still with
  | false => exact Qbt g2
  | true => exact Qbt (g2.still hst)
 refine ⟨_, _, r1, .new (d := w.drawn) rfl (Holds.fresh (Qdw hc.2) hbl hat) (fun o' _ ho => ?_), fun hn0 => .new (d := w.drawn) rfl (Holds.fresh (Qdw hc.2) hbl hat) (fun o' _ ho => by subst hn0; exact .t .z)⟩
 have hlen : l'.length = n * s := by
  have h0 : zl.length = n * s := by
   unfold Qcf at hzl
   split at hzl
   case h_2 => cases hzl
   split at hzl
   case h_2 => cases hzl
   obtain ⟨_, hzl⟩ := Qe hzl
   injection hzl with hzl; rw [<- hzl]; simp
  have h1 : ∀ (ps : List (Nat × VV)) (cells l : List VV), Qjr (fun i => some (i * s, s)) cells ps = some l -> l.length = cells.length := by
   intro ps
   induction ps with
   | nil => intro cells l h; simp only [Qjr, Option.some.injEq] at h; rw [h]
   | cons p ps ih =>
     intro cells l h
     obtain ⟨i, v⟩ := p
     simp only [Qjr] at h
     obtain ⟨_, h⟩ := Qe h
     split at h
     case h_2 => cases h
     rename_i c1 hset
     obtain ⟨e1, e2⟩ := Qi5 hset
     subst e1
     rw [ih _ _ h, Qlg e2]
  rw [<- g2.1, h1 _ _ _ hl]; simpa using h0
 have := R.rf (o := o') (fb := base) (m := m) (k := N) (off := 0) (n := n) (cap := n) ho (Nat.le_refl _) (by show 0 + 0 + n * s <= l'.toArray.size; simp [hlen])
 simpa using this
theorem Qfl {t : TypeId} {n : Nat} {ps : List (Nat × VV)} {ps' : Array (Nat × Value)} {v : VV} {blk : Blk} (h : Qbv P N t n ps = some (v, blk)) (hbl : base <= w.heap.size) (hp : PL o base m ps ps'.toList) (hc0 : blk.cells.all VV.isC = true) :
 ∃ v' w', (Instr.buildSlice t n ps').run P w = .ok v' w' /\ Res base o m L w N .no (.fr blk.cells n) v' w' /\ Res base o m L w N .no (.fw 0 blk.cells n) v' w' := by
 unfold Qbv at h
 split at h
 case h_2 => cases h
 rename_i e hu
 split at h
 case h_2 => cases h
 rename_i s hs
 obtain ⟨hc, h⟩ := Qe h
 rw [Bool.and_eq_true] at hc
 split at h
 case h_2 => cases h
 rename_i zl hzl
 split at h
 case h_2 => cases h
 rename_i l hl
 injection h with h; injection h with h1 h2
 subst h1; subst h2
 obtain ⟨l', g1, g2⟩ := Qjf _ _ _ _ _ _ hl (Qec (Qjb hzl)) hp
 have hf : Qa6 P w.heap.size t n ps'.toList = some (.slice (some ⟨w.heap.size, 0, none⟩) n n, .cells ⟨l'⟩ e) := by
  unfold Qa6
  rw [hu]; dsimp only; rw [hs]; dsimp only; rw [hc.1]; simp only [cond_true]; rw [hzl]; dsimp only; rw [g1]
 obtain ⟨r1, _, _⟩ := Qc1 hf
 have key : ∀ m' : MM, m' w.heap.size = some (.cells ⟨l'⟩ e) -> T (m'.fr base) (.tr l n) (.slice (some ⟨w.heap.size, 0, none⟩) n n) := fun m' hm' => .tr (fz := (0, 0)) (MM.Qch.2 ⟨hbl, hm', rfl⟩) (Nat.le_refl _) (by show 0 + l.length <= l'.toArray.size; rw [g2.1]; simp) (fun j v v' a b => ?_)
 ·refine ⟨_, _, r1, .frNo (d := w.drawn) (fun m' _ hm' => .fr (key m' hm')), .frNo (d := w.drawn) (fun m' _ hm' => .fw (key m' hm') (fun b off c ee hp => ?_))⟩
  injection ee with e1 e2 e3
  injection e1 with e1; injection e1 with e1 e4
  subst e1; subst e3; subst e4
  exact ⟨fun _ => rfl, ⟨l'⟩, e, hm', by omega⟩
 have hcv := List.all_eq_true.1 hc0 v (List.mem_of_getElem? a)
 have hr := g2.2 j v v' a (by simpa using b)
 cases v <;> first | (cases hcv; done) | skip
 obtain ⟨rfl, hg⟩ := hr.J9
 exact .c hg
theorem Qyg {op : BinOp} {k : IntKind} {a b : Int} {v : VV} {q : Prop} (h : vInt op k a b = some (v, q)) (hq : q) (t : TypeId) (ox oy : Operand) :
 ∃ v', (do eqGuard op t ox oy (.int k a) (.int k b); binOp op t (.int k a) (.int k b) : Sem Value).run P w = .ok v' w /\ R o base m v v' := by
 have key : ∀ v', fInt op k a b = some v' -> R o base m v v' -> ∃ v', (do eqGuard op t ox oy (.int k a) (.int k b); binOp op t (.int k a) (.int k b) : Sem Value).run P w = .ok v' w /\ R o base m v v' :=
  fun v' h1 h2 => ⟨v', (Qpg h1 t ox oy w).1, h2⟩
 have e1 : ∀ op, Go.eqGuard op t ox oy (.int k a) (.int k b) = Pure.pure () := by
  intro op; unfold Go.eqGuard; split <;> rfl
 have bit : ∀ v', (binOp op t (.int k a) (.int k b)).run P w = .ok v' w -> R o base m v v' -> ∃ v', (do eqGuard op t ox oy (.int k a) (.int k b); binOp op t (.int k a) (.int k b) : Sem Value).run P w = .ok v' w /\ R o base m v v' :=
  fun v' h1 h2 => ⟨v', by rw [e1, pure_bind]; exact h1, h2⟩
 unfold vInt at h
 cases op <;> simp only at h
 all_goals (first | (cases h; done) | skip)
 case and => injection h with h; injection h with h1 h2; subst h1; subst h2; exact bit _ (by show (if k ≠ k then _ else Op.intBits .and k a b : Sem Value).run P w = _; rw [if_neg (by simp)]; rfl) (.t (.c rfl))
 case or => injection h with h; injection h with h1 h2; subst h1; subst h2; exact bit _ (by show (if k ≠ k then _ else Op.intBits .or k a b : Sem Value).run P w = _; rw [if_neg (by simp)]; rfl) (.t (.c rfl))
 case xor => injection h with h; injection h with h1 h2; subst h1; subst h2; exact bit _ (by show (if k ≠ k then _ else Op.intBits .xor k a b : Sem Value).run P w = _; rw [if_neg (by simp)]; rfl) (.t (.c rfl))
 case andNot => injection h with h; injection h with h1 h2; subst h1; subst h2; exact bit _ (by show (if k ≠ k then _ else Op.intBits .andNot k a b : Sem Value).run P w = _; rw [if_neg (by simp)]; rfl) (.t (.c rfl))
 all_goals (injection h with h; injection h with h1 h2; subst h1; subst h2; refine key _ ?_ (.t (.c rfl)); unfold fInt)
 all_goals (first | rfl | (simp only [Qk6]; done) | (dsimp only; rw [if_neg hq]; (try rw [Qk6])))
theorem Qyh {op : BinOp} {t : TypeId} {x v : VV} {q : Prop} {x' : Value} {n c : Nat} (h : vNil P op t x = some (v, q)) (hq : q) (hx : R o base m x x') (ox oy : Operand) :
 ∃ v', (do eqGuard op t ox oy x' (.slice none n c); binOp op t x' (.slice none n c) : Sem Value).run P w = .ok v' w /\ R o base m v v' := by
 unfold vNil at h
 obtain ⟨hs, h⟩ := Qe h
 unfold Qqg at hs
 split at hs
 case h_2 => cases hs
 rename_i e hu
 have run : ∀ (a : Option Addr) (l k : Nat), (do eqGuard .eql t ox oy (.slice a l k) (.slice none n c); binOp .eql t (.slice a l k) (.slice none n c) : Sem Value).run P w = .ok (.bool a.isNone) w /\
  (do eqGuard .neq t ox oy (.slice a l k) (.slice none n c); binOp .neq t (.slice a l k) (.slice none n c) : Sem Value).run P w = .ok (.bool !a.isNone) w := by
  intro a l k
  have e1 : ∀ op, Go.eqGuard op t ox oy (.slice a l k) (.slice none n c) = Pure.pure () := by
   intro op; unfold Go.eqGuard; split <;> rfl
  have e2 : (Op.equal t (.slice a l k) (.slice none n c)).run P w = .ok a.isNone w := by
   unfold Op.equal
   show (Op.equalIn (9999 + 1) t _ _).run P w = _
   rw [Op.equalIn.eq_2, Sem.run_bind, Qh hu]
   cases a <;> rfl
  constructor
  ·rw [e1, pure_bind]
   show (do Pure.pure (Value.bool (<- Op.equal t _ _)) : Sem Value).run P w = _
   rw [Sem.run_bind, e2]; rfl
  ·rw [e1, pure_bind]
   show (do Pure.pure (Value.bool (!(<- Op.equal t _ _))) : Sem Value).run P w = _
   rw [Sem.run_bind, e2]; rfl
 have some_of : ∀ {cells k}, 0 < k -> ∀ {m' : MM}, T m' (.tr cells k) x' -> ∃ a l c, x' = .slice (some a) l c := by
  intro cells k hk m' h
  cases h with
  | e => omega
  | tr a b c d => exact ⟨_, _, _, rfl⟩
 split at h
 ·injection h with h; injection h with h1 h2; subst h1; subst h2
  obtain ⟨rfl, _⟩ := hx.J9
  exact ⟨_, (run _ _ _).1, .t (.c rfl)⟩
 ·injection h with h; injection h with h1 h2; subst h1; subst h2
  obtain ⟨rfl, _⟩ := hx.J9
  exact ⟨_, (run _ _ _).2, .t (.c rfl)⟩
 ·injection h with h; injection h with h1 h2; subst h1; subst h2
  cases hx with
  | t hx => cases hx; exact ⟨_, (run _ _ _).1, .t (.c rfl)⟩
 ·injection h with h; injection h with h1 h2; subst h1; subst h2
  cases hx with
  | t hx => cases hx; exact ⟨_, (run _ _ _).2, .t (.c rfl)⟩
 all_goals (first | (cases h; done) | skip)
 ·injection h with h; injection h with h1 h2; subst h1; subst h2
  cases hx with
  | t hx => obtain ⟨a, l, k, rfl⟩ := some_of hq hx; exact ⟨_, (run _ _ _).1, .t (.c rfl)⟩
 ·injection h with h; injection h with h1 h2; subst h1; subst h2
  cases hx with
  | t hx => cases hx
  | fr hx => obtain ⟨a, l, k, rfl⟩ := some_of hq hx; exact ⟨_, (run _ _ _).1, .t (.c rfl)⟩
 ·injection h with h; injection h with h1 h2; subst h1; subst h2
  cases hx with
  | t hx => cases hx
  | rf a b c => exact ⟨_, (run _ _ _).1, .t (.c rfl)⟩
  | rf0 => exact absurd hq (Nat.lt_irrefl _)
 ·injection h with h; injection h with h1 h2; subst h1; subst h2
  cases hx with
  | t hx => obtain ⟨a, l, k, rfl⟩ := some_of hq hx; exact ⟨_, (run _ _ _).2, .t (.c rfl)⟩
 ·injection h with h; injection h with h1 h2; subst h1; subst h2
  cases hx with
  | t hx => cases hx
  | fr hx => obtain ⟨a, l, k, rfl⟩ := some_of hq hx; exact ⟨_, (run _ _ _).2, .t (.c rfl)⟩
 ·injection h with h; injection h with h1 h2; subst h1; subst h2
  cases hx with
  | t hx => cases hx
  | rf a b c => exact ⟨_, (run _ _ _).2, .t (.c rfl)⟩
  | rf0 => exact absurd hq (Nat.lt_irrefl _)
theorem Qgz : ∀ {cs : List VV} {l : List Value}, Qua cs = some l -> cs = l.map VV.c
 | [], l, h => by injection h with h; subst h; rfl
 | v :: cs, l, h => by
   unfold Qua at h
   split at h
   ·rename_i e1; cases e1
   ·rename_i a l' e1
    injection e1 with e1 e2; subst e1; subst e2
    split at h
    ·rename_i r hr
     injection h with h; subst h
     rw [Qgz hr]; rfl
    ·cases h
   ·cases h
theorem Qqm {l : List Value} {x' : Value} (hx : R o base m (.ag (l.map VV.c)) x') : x' = .agg l.toArray := by
 have key : ∀ (cs : Array Value), (l.map VV.c).length = cs.size -> (∀ (j : Nat) (v : VV) (v' : Value), (l.map VV.c)[j]? = some v -> cs[j]? = some v' -> R o base m v v') -> Value.agg cs = .agg l.toArray := by
  intro cs hs h
  congr 1
  apply Array.ext
  ·simpa using hs.symm
  ·intro i h1 h2
   have h3 : i < l.length := by simpa using h2
   have := h i (VV.c l[i]) cs[i] (by simp [h3]) (by simp [h1])
   rw [this.J9.1]; simp
 cases hx with
 | t hx => cases hx with
   | ag hs h => exact key _ hs fun j v v' a b => .t (h j v v' a b)
 | ag hs h => exact key _ hs h
theorem Qvz {op : BinOp} {t : TypeId} {x y : List VV} {v : VV} {q : Prop} {x' y' : Value} (h : Qx7 P op t x y = some (v, q)) (hq : q) (hx : R o base m (.ag x) x') (hy : R o base m (.ag y) y') (ox oy : Operand) :
 ∃ v', (do eqGuard op t ox oy x' y'; binOp op t x' y' : Sem Value).run P w = .ok v' w /\ R o base m v v' := by
 have guard : ∀ (op : BinOp) (l r : List Value), P.eqGuardType P.depth t = false -> (Go.eqGuard op t ox oy (.agg l.toArray) (.agg r.toArray)).run P w = .ok () w := by
  intro op l r hg
  unfold Go.eqGuard
  simp only []
  cases op <;> first | rfl | skip
  all_goals
   rw [if_neg (by decide), Sem.run_bind]
   show Sem.run P (do let p <- program; if (!P.eqGuardType p.depth t) = true then Pure.pure () else _) w = _
   rw [Sem.run_bind]
   show Sem.run P (if (!P.eqGuardType P.depth t) = true then Pure.pure () else _) w = _
   rw [hg]; rfl
 unfold Qx7 at h
 split at h
 ·rename_i l r e1 e2
  rw [Qgz e1] at hx; rw [Qgz e2] at hy
  obtain rfl := Qqm hx
  obtain rfl := Qqm hy
  injection h with h; injection h with h1 h2; subst h1; subst h2
  refine ⟨.bool (eqL l r), ?_, .t (.c rfl)⟩
  rw [Sem.run_bind, guard _ l r hq.2.1]
  show (do Pure.pure (Value.bool (<- Op.equal t _ _)) : Sem Value).run P w = _
  rw [Sem.run_bind, hq.2.2 l r hq.1 rfl]; rfl
 ·rename_i l r e1 e2
  rw [Qgz e1] at hx; rw [Qgz e2] at hy
  obtain rfl := Qqm hx
  obtain rfl := Qqm hy
  injection h with h; injection h with h1 h2; subst h1; subst h2
  refine ⟨.bool (!eqL l r), ?_, .t (.c rfl)⟩
  rw [Sem.run_bind, guard _ l r hq.2.1]
  show (do Pure.pure (Value.bool (!(<- Op.equal t _ _))) : Sem Value).run P w = _
  rw [Sem.run_bind, hq.2.2 l r hq.1 rfl]; rfl
 ·cases h
theorem Quq (a b : ByteArray) : (a.toList == b.toList) = decide (a = b) := by
 rw [ByteArray.toList_eq, ByteArray.toList_eq]
 by_cases h : a = b
 ·subst h; simp
 ·rw [decide_eq_false h]
  cases e : (a.data.toList == b.data.toList) with
  | false => rfl
  | true =>
    exfalso
    apply h
    have e := eq_of_beq e
    cases a; cases b
    congr 1
    exact Array.toList_inj.1 e
theorem Qyi {op : BinOp} {t : TypeId} {a b : ByteArray} {v : VV} {q : Prop} (h : vStr op a b = some (v, q)) (hq : q) (ox oy : Operand) :
 ∃ v', (do eqGuard op t ox oy (.string a) (.string b); binOp op t (.string a) (.string b) : Sem Value).run P w = .ok v' w /\ R o base m v v' := by
 have e1 : ∀ op, Go.eqGuard op t ox oy (.string a) (.string b) = Pure.pure () := by
  intro op; unfold Go.eqGuard; split <;> rfl
 unfold vStr at h
 split at h
 ·injection h with h; injection h with h1 h2; subst h1; subst h2
  refine ⟨.bool (decide (a = b)), ?_, .t (.c rfl)⟩
  rw [e1, pure_bind, <- Quq]; rfl
 ·injection h with h; injection h with h1 h2; subst h1; subst h2
  refine ⟨.bool (!decide (a = b)), ?_, .t (.c rfl)⟩
  rw [e1, pure_bind, <- Quq]; rfl
 ·injection h with h; injection h with h1 h2; subst h1; subst h2
  refine ⟨.string (a ++ b), ?_, .t (.c rfl)⟩
  rw [e1, pure_bind]
  show (if ((a.size + b.size : Nat) : Int) > IntKind.i64.max then _ else Pure.pure (Value.string (a ++ b)) : Sem Value).run P w = _
  rw [if_neg]
  ·rfl
  ·have : IntKind.i64.max = 9223372036854775807 := by decide
   rw [this]; omega
 ·cases h
theorem Qnp {op : BinOp} {t : TypeId} {k k' : IntKind} {a b : Int} {v : VV} {q : Prop} (h : Qub op k a b = some (v, q)) (hq : q) (ox oy : Operand) :
 ∃ v', (do eqGuard op t ox oy (.int k a) (.int k' b); binOp op t (.int k a) (.int k' b) : Sem Value).run P w = .ok v' w /\ R o base m v v' := by
 have e1 : ∀ op, Go.eqGuard op t ox oy (.int k a) (.int k' b) = Pure.pure () := by
  intro op; unfold Go.eqGuard; split <;> rfl
 unfold Qub at h
 split at h
 all_goals (first | (cases h; done) | skip)
 all_goals
  injection h with h; injection h with h1 h2; subst h1; subst h2
  refine ⟨_, ?_, .t (.c rfl)⟩
  rw [e1, pure_bind]
  first
   | (show (Op.shift .shl k a k' b).run P w = _; unfold Op.shift; rw [if_neg (by omega)]; rfl)
   | (show (Op.shift .shr k a k' b).run P w = _; unfold Op.shift; rw [if_neg (by omega)]; rfl)
theorem Qx2 {op : BinOp} {t : TypeId} {x y v : VV} {q : Prop} {x' y' : Value} (h : vBin P op t x y = some (v, q)) (hq : q) (hx : R o base m x x') (hy : R o base m y y') (ox oy : Operand) :
 ∃ v', (do eqGuard op t ox oy x' y'; binOp op t x' y' : Sem Value).run P w = .ok v' w /\ R o base m v v' := by
 unfold vBin at h
 split at h
 ·rename_i k a k' b
  obtain ⟨rfl, _⟩ := hx.J9
  obtain ⟨rfl, _⟩ := hy.J9
  split at h
  ·exact Qnp h hq ox oy
  ·exact Qnp h hq ox oy
  have hb0 := Qe h; clear h; obtain ⟨hk, h⟩ := hb0
  have hk : k = k' := by simpa using hk
  subst hk
  exact Qyg h hq t ox oy
 ·rename_i a b
  obtain ⟨rfl, _⟩ := hx.J9
  obtain ⟨rfl, _⟩ := hy.J9
  have e1 : ∀ op, Go.eqGuard op t ox oy (.bool a) (.bool b) = Pure.pure () := by
   intro op; unfold Go.eqGuard; split <;> rfl
  have e2 : P.underlying t = some .bool -> (Op.equal t (.bool a) (.bool b)).run P w = .ok (a == b) w := by
   intro hu
   unfold Op.equal
   show (Op.equalIn (9999 + 1) t _ _).run P w = _
   rw [Op.equalIn.eq_2, Sem.run_bind, Qh hu]; rfl
  split at h
  ·rename_i hu
   injection h with h; injection h with h1 h2; subst h1; subst h2
   refine ⟨.bool (a == b), ?_, .t (.c rfl)⟩
   rw [e1, pure_bind]
   show (do Pure.pure (Value.bool (<- Op.equal t _ _)) : Sem Value).run P w = _
   rw [Sem.run_bind, e2 hu]; rfl
  ·rename_i hu
   injection h with h; injection h with h1 h2; subst h1; subst h2
   refine ⟨.bool (!(a == b)), ?_, .t (.c rfl)⟩
   rw [e1, pure_bind]
   show (do Pure.pure (Value.bool (!(<- Op.equal t _ _))) : Sem Value).run P w = _
   rw [Sem.run_bind, e2 hu]; rfl
  ·cases h
 ·obtain ⟨rfl, _⟩ := hx.J9
  obtain ⟨rfl, _⟩ := hy.J9
  exact Qyi h hq ox oy
 ·exact Qvz h hq hx hy ox oy
 ·obtain ⟨rfl, _⟩ := hy.J9
  exact Qyh h hq hx ox oy
 ·cases h
theorem Qzb {op : UnOp} {x v : VV} {x' : Value} (h : vUn op x = some v) (hx : R o base m x x') : ∃ v', (Op.unary op x').run P w = .ok v' w /\ R o base m v v' := by
 unfold vUn at h
 split at h
 ·injection h with h; subst h
  obtain ⟨rfl, _⟩ := hx.J9
  exact ⟨_, rfl, .t (.c rfl)⟩
 ·injection h with h; subst h
  obtain ⟨rfl, _⟩ := hx.J9
  exact ⟨_, rfl, .t (.c rfl)⟩
 ·cases h
theorem Qoi {s d : TypeId} {x v : VV} {x' : Value} (h : Qlx P s d x = some v) (hx : R o base m x x') : ∃ v', (Go.convert s d x').run P w = .ok v' w /\ R o base m v v' := by
 unfold Qlx at h
 split at h
 ·rename_i hs hd
  injection h with h; subst h
  obtain ⟨rfl, _⟩ := hx.J9
  refine ⟨_, ?_, .t (.c rfl)⟩
  unfold Go.convert; rw [Sem.run_bind, Qh hs]; simp only [Result.andThen_ok]; rw [Sem.run_bind, Qh hd]; rfl
 ·cases h
end
end Go.Proofs.Ytfeedchjdnedjaa.Vv

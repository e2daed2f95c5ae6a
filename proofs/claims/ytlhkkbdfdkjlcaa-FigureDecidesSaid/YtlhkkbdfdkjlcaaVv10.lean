/- A calculus of calls over values that are trees. Part 10: any step in the text's order. -/
import Derived.Test.YtlhkkbdfdkjlcaaVv9
set_option linter.unusedVariables false
set_option linter.unusedSimpArgs false
namespace Go.Proofs.Ytlhkkbdfdkjlcaa.Vv
open Go Go.Proofs.Ytlhkkbdfdkjlcaa.Ev
open Go.RowKit (Below)
section
variable {P : Program} {gv : Nat → Value} {base : Nat} {w0 : World} {m0 : MM} {sz : Nat} {s : VS} {o o' : OM} {m : MM} {a : Act} {w w' : World}

theorem Rel.stored (h : Rel gv base w0 m0 sz s o m a w) {k : Nat} {blk : Blk} {oi : OI} {c c0 : Array Value} {t : TypeId} (ho : o k = some oi) (hc : w.heap[oi.b]? = some (.cells c0 t (0, 0))) (hs : c.size = oi.tot) (hz : oi.sz = blk.sz)
    (hl : At (o.of blk.bx) base m blk.cells c oi.off) (hst : blk.bx = false → blk.cells.all VV.still = true) : Rel gv base w0 m0 sz ((Eff.put k blk).app s) o m a (World.upd w (.put oi.b (.cells c t (0, 0)))) := by
  have hg : ∀ j, (World.upd w (.put oi.b (.cells c t (0, 0)))).heap[j]? = if j = oi.b then some (.cells c t (0, 0)) else w.heap[j]? := fun j => by
    rw [show (World.upd w (.put oi.b (.cells c t (0, 0)))).heap = w.heap.setIfInBounds oi.b (.cells c t (0, 0)) from rfl, heap_set _ hc j]
  have hsize : (World.upd w (.put oi.b (.cells c t (0, 0)))).heap.size = w.heap.size := by simp [World.upd]
  obtain ⟨d1, d2, d3⟩ := h.own.dom k oi ho
  refine ⟨h.asz, h.adf, h.tm, ⟨fun j i b e1 e2 => ?_, fun j i e => ?_, h.own.inj⟩, fun j i e => by show j < (setB k blk s.L).length; rw [setB_len]; exact h.olt j i e, fun j b e hbx => ?_, fun b ob e => ?_, h.mfr, ⟨h.below.os, h.below.tape, h.below.output, by rw [hsize]; exact h.below.size, fun j hj => ?_⟩, h.hb, h.gh, h.mlo⟩
  · have e2' : gb (setB k blk s.L) j = some b := e2
    rw [gb_set] at e2'
    rw [hg]
    split at e2'
    · rename_i hjk
      obtain ⟨rfl, _⟩ := hjk
      rw [ho] at e1
      injection e1 with e1; injection e2' with e2'; subst e1; subst e2'
      rw [if_pos rfl]
      exact ⟨c, t, rfl, hs, hz, hl⟩
    · rename_i hjk
      have hne : j ≠ k := fun e => hjk ⟨e, by rw [← e]; exact h.olt j i e1⟩
      rw [if_neg (fun e => hne (h.own.inj j k i oi e1 ho e))]
      exact h.own.at_ j i b e1 e2'
  · rw [hsize]; exact h.own.dom j i e
  · have e' : gb (setB k blk s.L) j = some b := e
    rw [gb_set] at e'
    split at e'
    · injection e' with e'; subst e'; exact hst hbx
    · exact h.still j b e' hbx
  · rw [hg, if_neg (fun e' => by subst e'; rw [d3] at e; cases e)]
    exact h.mem b ob e
  · rw [hg, if_neg (by omega)]; exact h.below.block j hj
theorem Rel.grown (h : Rel gv base w0 m0 sz s o m a w) {k : Nat} {blk : Blk} (hk : k < s.L.length) (ho : ∀ j, j ≠ k → o' j = o j) (hbx : blk.bx = false) (hst : blk.cells.all VV.still = true)
    (hat : ∀ oi, o' k = some oi → ∃ c t, w'.heap[oi.b]? = some (.cells c t (0, 0)) ∧ c.size = oi.tot ∧ oi.sz = blk.sz ∧ At .no base m blk.cells c oi.off)
    (hdom : ∀ oi, o' k = some oi → base ≤ oi.b ∧ oi.b < w'.heap.size ∧ m oi.b = none) (hinj : ∀ j oi oi', j ≠ k → o' k = some oi → o j = some oi' → oi.b ≠ oi'.b)
    (hkeep : ∀ b, (∀ oi, o' k = some oi → oi.b ≠ b) → b < w.heap.size → w'.heap[b]? = w.heap[b]?) (hsize : w.heap.size ≤ w'.heap.size) (hsame : Same w w') :
    Rel gv base w0 m0 sz ((Eff.grow k blk).app s) o' m a w' := by
  have hb := h.base_le
  have hget : ∀ j b, gb (setB k blk (killL k s.L)) j = some b → (j = k ∧ b = blk) ∨ (j ≠ k ∧ ∃ b0, gb s.L j = some b0 ∧ b = bif b0.bx then ⟨true, b0.sz, kvL k b0.cells⟩ else b0) := by
    intro j b e
    rw [gb_set, killL_len] at e
    split at e
    · rename_i hjk; injection e with e; exact .inl ⟨hjk.1, e.symm⟩
    · rename_i hjk
      have hne : j ≠ k := fun e => hjk ⟨e, hk⟩
      rw [gb_kill] at e
      cases hg : gb s.L j with
      | none => rw [hg] at e; cases e
      | some b0 => rw [hg] at e; simp only [Option.map_some, Option.some.injEq] at e; exact .inr ⟨hne, b0, rfl, e.symm⟩
  refine ⟨h.asz, h.adf, fun t => ?_, ⟨fun j i b e1 e2 => ?_, fun j i e => ?_, fun j j' i i' e e' hbb => ?_⟩, fun j i e => ?_, fun j b e hbx' => ?_, fun b ob e => ?_, h.mfr,
    ⟨hsame.os.trans h.below.os, hsame.tape.trans h.below.tape, hsame.output.trans h.below.output, Nat.le_trans h.below.size hsize, fun j hj => ?_⟩, h.hb, fun t => ?_, h.mlo⟩
  · have := (h.tm t).kill (k := k) ho
    show R o' base m (Vv.ev (trMap (kv k) s.A) (.tmp t)) _
    simp only [Vv.ev] at this ⊢
    rw [trMap_get]
    cases hA : s.A.get t with
    | none => exact .undef
    | some v => rw [hA] at this; exact this
  · rcases hget j b e2 with ⟨rfl, rfl⟩ | ⟨hne, b0, g1, rfl⟩
    · obtain ⟨c, t, k1, k2, k3, k4⟩ := hat i e1
      exact ⟨c, t, k1, k2, k3, by rw [if_neg (by rw [hbx]; simp)]; exact k4⟩
    · rw [ho j hne] at e1
      obtain ⟨c, t, k1, k2, k3, k4⟩ := h.own.at_ j i b0 e1 g1
      have hbk := (h.own.dom j i e1).2.1
      refine ⟨c, t, by rw [hkeep _ (fun oi e => hinj j oi i hne e e1) hbk]; exact k1, k2, ?_, ?_⟩
      · cases b0.bx <;> exact k3
      · cases hb0 : b0.bx with
        | false =>
          simp only [cond_false]
          rw [if_neg (by rw [hb0]; simp)] at k4 ⊢
          exact k4
        | true =>
          simp only [cond_true]
          rw [if_pos hb0] at k4
          refine ⟨by rw [kvL_len]; exact k4.1, fun q u u' x y => ?_⟩
          rw [kvL_get] at x
          cases hq : b0.cells[q]? with
          | none => rw [hq] at x; cases x
          | some z =>
            rw [hq] at x; simp only [Option.map_some, Option.some.injEq] at x; subst x
            exact (k4.2 q z u' hq y).kill ho
  · by_cases hj : j = k
    · subst hj; exact hdom i e
    · rw [ho j hj] at e
      obtain ⟨d1, d2, d3⟩ := h.own.dom j i e
      exact ⟨d1, by omega, d3⟩
  · by_cases hj : j = k
    · by_cases hj' : j' = k
      · rw [hj, hj']
      · subst hj; rw [ho j' hj'] at e'; exact absurd hbb (hinj j' i i' hj' e e')
    · by_cases hj' : j' = k
      · subst hj'; rw [ho j hj] at e; exact absurd hbb.symm (hinj j i' i hj e' e)
      · rw [ho j hj] at e; rw [ho j' hj'] at e'; exact h.own.inj j j' i i' e e' hbb
  · show j < (setB k blk (killL k s.L)).length
    rw [setB_len, killL_len]
    by_cases hj : j = k
    · subst hj; exact hk
    · rw [ho j hj] at e; exact h.olt j i e
  · rcases hget j b e with ⟨rfl, rfl⟩ | ⟨hne, b0, g1, rfl⟩
    · exact hst
    · cases hb0 : b0.bx with
      | false => simp only [hb0, cond_false] at hbx' ⊢; exact h.still j b0 g1 hb0
      | true => simp only [hb0, cond_true] at hbx'; cases hbx'
  · rw [hkeep b (fun oi e' => fun e'' => by subst e''; rw [(hdom oi e').2.2] at e; cases e) (h.mem.lt e)]
    exact h.mem b ob e
  · rw [hkeep j (fun oi e' => by have := (hdom oi e').1; omega) (by omega)]
    exact h.below.block j hj
  · have := (h.gh t).kill (k := k) ho
    show R o' base m (Vv.ev (trMap (kv k) s.G) (.tmp t)) _
    simp only [Vv.ev] at this ⊢
    rw [trMap_get]
    cases hA : s.G.get t with
    | none => exact .undef
    | some v => rw [hA] at this; exact this
/-- what an operation puts into slices names no own block. -/
theorem op_still {op : Oper} {A : Tr VV} {L : List (Option Blk)} {N : Nat} {an : Ans} {v : VV} {eff : Eff} {q : Prop} (h : vStep P op A L N an = some (v, eff, q)) (hq : q) (hS : Still L) :
    ∀ blk, (eff = .new blk ∨ (∃ k, eff = .put k blk) ∨ ∃ k, eff = .grow k blk) → blk.bx = false → blk.cells.all VV.still = true := by
  have allC : ∀ l : List VV, l.all VV.isC = true → l.all VV.still = true := fun l h => by
    rw [List.all_eq_true] at h ⊢
    intro x hx; have := h x hx; cases x <;> first | rfl | cases this
  intro blk hblk hbx
  have hcs := step_cases h; clear h
  rcases hcs with ⟨g, args, ts, as, ho, has, ⟨rfl, _, _⟩ | ⟨cells, n, i, r, p, hown, rfl, rfl, _⟩⟩ | ⟨_, _, _, _, _, _, _, _, _, _, _, rfl, _, _⟩ | h
  · rcases hblk with e | ⟨_, e⟩ | ⟨_, e⟩ <;> cases e
  · rcases hblk with e | ⟨_, e⟩ | ⟨_, e⟩ <;> cases e
    exact allC _ hq.2.2.1
  · rcases hblk with e | ⟨_, e⟩ | ⟨_, e⟩ <;> cases e
  · obtain ⟨dst, oo, type, pos, after, guard⟩ := op
    have nono : ∀ {v0 : Option VV}, noP v0 = some (v, eff, q) → blk.cells.all VV.still = true := fun h => by
      obtain ⟨_, rfl⟩ := noP_some h; rcases hblk with e | ⟨_, e⟩ | ⟨_, e⟩ <;> cases e
    have nowi : ∀ {v0 : Option (VV × Prop)}, wiP v0 = some (v, eff, q) → blk.cells.all VV.still = true := fun h => by
      obtain ⟨_, rfl⟩ := wiP_some h; rcases hblk with e | ⟨_, e⟩ | ⟨_, e⟩ <;> cases e
    have nono' : ∀ {u : VV} {p : Prop}, some (u, Eff.no, p) = some (v, eff, q) → blk.cells.all VV.still = true := fun h => by
      injection h with h; injection h with h1 h2; injection h2 with h2 h3; subst h2; rcases hblk with e | ⟨_, e⟩ | ⟨_, e⟩ <;> cases e
    cases oo <;> simp only [vOp] at h
    case move => exact nono' h
    case assign => exact nono' h
    case pick =>
      split at h
      · exact nono' h
      · cases h
    case alloc =>
      split at h
      case h_2 => cases h
      have hb0 := bif_cases h; clear h; obtain ⟨_, h⟩ := hb0
      injection h with h; injection h with h1 h2; injection h2 with h2 h3; subst h2
      rcases hblk with e | ⟨_, e⟩ | ⟨_, e⟩ <;> cases e
      cases hbx
    case box =>
      have hb0 := bif_cases h; clear h; obtain ⟨_, h⟩ := hb0
      injection h with h; injection h with h1 h2; injection h2 with h2 h3; subst h2
      rcases hblk with e | ⟨_, e⟩ | ⟨_, e⟩ <;> cases e
      cases hbx
    case build =>
      have hb0 := bif_cases h; clear h; obtain ⟨_, h⟩ := hb0
      exact nono h
    case buildSlice =>
      split at h
      case h_2 => cases h
      rename_i u b hu
      injection h with h; injection h with h1 h2; injection h2 with h2 h3; subst h2
      rcases hblk with e | ⟨_, e⟩ | ⟨_, e⟩ <;> cases e
      unfold vBuildSlice at hu
      split at hu
      case h_2 => cases hu
      split at hu
      case h_2 => cases hu
      have hb0 := bif_cases hu; clear hu; obtain ⟨_, hu⟩ := hb0
      split at hu
      case h_2 => cases hu
      split at hu
      case h_2 => cases hu
      have hb0 := bif_cases hu; clear hu; obtain ⟨hst, hu⟩ := hb0
      injection hu with hu; injection hu with h1 h2; subst h2
      exact hst
    case load => exact nowi h
    case store t p x =>
      split at h
      case h_2 => cases h
      rename_i e1 q1 hs
      injection h with h; injection h with h1 h2; injection h2 with h2 h3; subst h2; subst h3
      unfold vStore at hs
      split at hs
      case h_2 => cases hs
      split at hs
      case h_2 => cases hs
      rename_i k off b0 n hb0' hn
      have hb0 := bif_cases hs; clear hs; obtain ⟨hfl, hs⟩ := hb0
      cases hb1 : b0.bx with
      | true =>
        rw [hb1] at hs
        simp only [cond_true] at hs
        split at hs
        case h_2 => cases hs
        injection hs with hs; injection hs with h1 h2; subst h1
        rcases hblk with e | ⟨_, e⟩ | ⟨_, e⟩ <;> cases e
        cases hbx
      | false =>
        rw [hb1] at hs
        simp only [cond_false] at hs
        have hb0 := bif_cases hs; clear hs; obtain ⟨hst, hs⟩ := hb0
        injection hs with hs; injection hs with h1 h2; subst h1
        rcases hblk with e | ⟨_, e⟩ | ⟨_, e⟩ <;> cases e
        have h0 := hS _ _ hb0' hb1
        show (putT _ b0.cells _).all VV.still = true
        unfold putT
        rw [List.all_eq_true] at h0 hst ⊢
        intro y hy
        rw [List.mem_append, List.mem_append] at hy
        rcases hy with (hy | hy) | hy
        · exact h0 y (List.mem_of_mem_take hy)
        · exact hst y hy
        · exact h0 y (List.mem_of_mem_drop hy)
    case binOp => exact nowi h
    case unOp => exact nono h
    case convert => exact nono h
    case makeSlice t l c =>
      split at h
      case h_2 => cases h
      rename_i u b p hu
      injection h with h; injection h with h1 h2; injection h2 with h2 h3; subst h2
      rcases hblk with e | ⟨_, e⟩ | ⟨_, e⟩ <;> cases e
      refine allC _ ?_
      unfold vMakeSlice at hu
      split at hu
      case h_2 => cases hu
      split at hu
      case h_2 => cases hu
      split at hu
      case h_2 => cases hu
      have hb0 := bif_cases hu; clear hu; obtain ⟨_, hu⟩ := hb0
      rename_i i _ _ z _ _
      cases hb1 : Nat.beq i.size 1 with
      | true =>
        rw [hb1] at hu
        simp only [cond_true, Option.some.injEq, Prod.mk.injEq] at hu
        obtain ⟨_, rfl, _⟩ := hu
        rw [List.all_eq_true]; intro y hy; rw [List.eq_of_mem_replicate hy]; rfl
      | false =>
        rw [hb1] at hu
        simp only [cond_false, Option.some.injEq, Prod.mk.injEq] at hu
        obtain ⟨_, rfl, _⟩ := hu
        unfold zeroCells
        rw [List.all_eq_true]; intro y hy
        obtain ⟨j, _, rfl⟩ := List.mem_map.1 hy; rfl
    case slice t x lo hi mx =>
      cases mx with
      | none => exact nowi h
      | some => cases h
    case fieldAddr => exact nono h
    case field => exact nono h
    case indexAddr => exact nowi h
    case index => exact nowi h
    case extract => exact nono h
    case makeFunc fn first caps =>
      cases fn with
      | func g =>
        simp only [vOp] at h
        split at h
        · exact nono' h
        · cases h
      | _ => cases h
    case call c =>
      obtain ⟨callee, args, argTypes⟩ := c
      cases callee with
      | value f => cases h
      | invoke f m => cases h
      | builtin b =>
        cases b <;> simp only at h
        case len =>
          split at h
          · exact nono h
          · cases h
        case append =>
          split at h
          case h_2 => cases h
          have hb0 := bif_cases h; clear h; obtain ⟨_, h⟩ := hb0
          unfold vAppend at h
          split at h
          case h_2 => cases h
          split at h
          case h_2 => cases h
          split at h
          case h_2 => cases h
          have hb0 := bif_cases h; clear h; obtain ⟨_, h⟩ := hb0
          split at h
          · injection h with h; injection h with h1 h2; injection h2 with h2 h3; subst h2; subst h3
            rcases hblk with e | ⟨_, e⟩ | ⟨_, e⟩ <;> cases e
            exact hq.2.2.2
          · split at h
            case h_2 => cases h
            rename_i b0 hb0'
            have hb0 := bif_cases h; clear h; obtain ⟨hcb, h⟩ := hb0
            simp only [Bool.and_eq_true, Bool.not_eq_true'] at hcb
            injection h with h; injection h with h1 h2; injection h2 with h2 h3; subst h2; subst h3
            rcases hblk with e | ⟨_, e⟩ | ⟨_, e⟩ <;> cases e
            show (b0.cells ++ _).all VV.still = true
            rw [List.all_append, hS _ _ hb0' hcb.1, hq.2.2.2.2]; rfl
          · cases h
        case min => exact nono h
        case max => exact nono h
        all_goals (cases h)
    all_goals (cases h)
end
end Go.Proofs.Ytlhkkbdfdkjlcaa.Vv

/- A calculus of calls over values that are trees. Part 11: regions in the text's order. -/
import Derived.Test.YtlhkkbdfdkjlcaaVv10
set_option linter.unusedVariables false
set_option linter.unusedSimpArgs false
namespace Go.Proofs.Ytlhkkbdfdkjlcaa.Vv
open Go Go.Proofs.Ytlhkkbdfdkjlcaa.Ev
open Go.RowKit (Below)
section
variable {P : Program} {gv : Nat → Value} {base : Nat} {w0 : World} {m0 : MM} {sz : Nat} {s : VS} {o : OM} {m : MM} {a : Act} {w : World} {rd : Option Nat}

theorem step_wp (hn : Named P) (hR : Rel gv base w0 m0 sz s o m a w) {op : Oper} {an : Ans} {v : VV} {eff : Eff} {q : Prop} (hd : ∀ d : Nat, op.dst = some d → d < sz) (hsz : sz < 1000000)
    (h : vStep P op s.A s.L s.L.length an = some (v, eff, q)) (hq : q) {K : Act → World → Prop} {Q : Exit → Act → World → Prop}
    (k : ∀ o' m' a' w', Rel gv base w0 m0 sz ((eff.app s).put op.dst v) o' m' a' w' → K a' w') : op.wpIn (fen rd) 0 P a w K Q := by
  have hst := op_still h hq hR.still
  cases hqu : eff.quiet with
  | true =>
    refine quiet_wp hn h hqu hq hR.own hR.still hR.mem hR.base_le (fun x _ => hR.ev x) (fun v' m' w' hQ => ?_)
    obtain ⟨o', h1, h2⟩ := hR.quiet hQ hqu (fun blk e => hst blk (.inl e))
    exact k o' m' _ w' (h1.put hd hsz h2)
  | false =>
    have hcs := step_cases h; clear h
    rcases hcs with ⟨g, args, ts, as, ho, has, ⟨rfl, _, _⟩ | ⟨cells, n, i, r, p, hown, rfl, rfl, _⟩⟩ | ⟨_, _, _, _, _, _, _, _, _, _, _, rfl, _, _⟩ | h
    · cases hqu
    · cases hqu
    · cases hqu
    · refine ⟨fun _ _ => trivial, ?_⟩
      have hnd : ∀ c, op.op ≠ .defer c := by
        intro c e
        unfold vOp at h
        rw [e] at h
        cases h
      have hsem : op.semAt rd a.eval = execOp a.eval op := Oper.semAt_eq _ _ _ hnd
      show op.uponIn (fen rd) 0 P a K Q ((op.semAt rd a.eval).run P w)
      rw [hsem]
      obtain ⟨nx, v', w', g1, g2, g3⟩ := vOp_ok h hq hR.own hR.mem (fun x _ => hR.ev x)
      rw [g1]
      have main : K (a.put op.dst v') w' := by
        have hfresh : m w.heap.size = none := by
          cases hm : m w.heap.size with
          | none => rfl
          | some ob => have := hR.mem.lt hm; omega
        have hbl := hR.base_le
        cases g3 with
        | no => cases hqu
        | newNo => cases hqu
        | new => cases hqu
        | put ho hc hs hz hl hv => exact k o m _ _ ((hR.stored ho hc hs hz hl (fun e => hst _ (.inr (.inl ⟨_, rfl⟩)) e)).put hd hsz (hv o))
        | @growNo k' blk _ _ hb hx hv =>
          have hk := gb_lt hb
          refine k o m _ _ ((hR.grown (o' := o) hk (fun _ _ => rfl) hx (hst _ (.inr (.inr ⟨_, rfl⟩)) hx) (fun oi e => ?_) (fun oi e => hR.own.dom _ _ e) (fun j oi oi' hj e e' hbb => hj (hR.own.inj _ _ _ _ e' e hbb.symm)) (fun _ _ _ => rfl) (Nat.le_refl _) ⟨rfl, rfl, rfl⟩).put hd hsz hv)
          obtain ⟨c, t, k1, k2, k3, k4⟩ := hR.own.at_ _ oi blk e hb
          exact ⟨c, t, k1, k2, k3, by rw [if_neg (by rw [hx]; simp)] at k4; exact k4⟩
        | @growIn k' blk _ _ oi c c0 t ho hc hs hz hx hl hv =>
          have hg : ∀ j, (World.upd w (.put oi.b (.cells c t (0, 0)))).heap[j]? = if j = oi.b then some (.cells c t (0, 0)) else w.heap[j]? := fun j => by
            rw [show (World.upd w (.put oi.b (.cells c t (0, 0)))).heap = w.heap.setIfInBounds oi.b (.cells c t (0, 0)) from rfl, heap_set _ hc j]
          have hsize : (World.upd w (.put oi.b (.cells c t (0, 0)))).heap.size = w.heap.size := by simp [World.upd]
          refine k o m _ _ ((hR.grown (o' := o) (w' := World.upd w (.put oi.b (.cells c t (0, 0)))) (hR.olt _ _ ho) (fun _ _ => rfl) hx (hst _ (.inr (.inr ⟨_, rfl⟩)) hx) (fun oi' e => ?_) (fun oi' e => ?_) (fun j oi oi' hj e e' hbb => hj (hR.own.inj _ _ _ _ e' e hbb.symm)) (fun b hbb _ => ?_) (by rw [hsize]; exact Nat.le_refl _) ⟨rfl, rfl, rfl⟩).put hd hsz (hv o ho))
          · rw [ho] at e; injection e with e; subst e
            exact ⟨c, t, by rw [hg, if_pos rfl], hs, hz, hl⟩
          · rw [hsize]; exact hR.own.dom _ _ e
          · rw [hg, if_neg (fun e => hbb oi ho e.symm)]
        | @growNew k' blk _ _ c t d hb hx hl hv =>
          have hk : k' < s.L.length := gb_lt hb.choose_spec
          have hg : ∀ j, j < w.heap.size → ({ (w.alloc (.cells c t)) with drawn := d } : World).heap[j]? = w.heap[j]? := fun j hj => by
            show (w.heap.push _)[j]? = _
            rw [Array.getElem?_push, if_neg (by omega)]
          have hg0 : ({ (w.alloc (.cells c t)) with drawn := d } : World).heap[w.heap.size]? = some (.cells c t (0, 0)) := by
            show (w.heap.push _)[w.heap.size]? = _
            rw [Array.getElem?_push, if_pos rfl]
          have hsize : ({ (w.alloc (.cells c t)) with drawn := d } : World).heap.size = w.heap.size + 1 := by show (w.heap.push _).size = _; simp
          have ho' : (fun j => if j = k' then some (⟨w.heap.size, 0, c.size, blk.sz⟩ : OI) else o j) k' = some ⟨w.heap.size, 0, c.size, blk.sz⟩ := if_pos rfl
          refine k _ m _ _ ((hR.grown (o' := fun j => if j = k' then some ⟨w.heap.size, 0, c.size, blk.sz⟩ else o j) (w' := { (w.alloc (.cells c t)) with drawn := d }) hk (fun j hj => if_neg hj) hx (hst _ (.inr (.inr ⟨_, rfl⟩)) hx) (fun oi' e => ?_) (fun oi' e => ?_) (fun j oi oi' hj e e' hbb => ?_) (fun b _ hb => hg b hb) (by rw [hsize]; omega) ⟨rfl, rfl, rfl⟩).put hd hsz (hv _ ho'))
          · rw [if_pos rfl] at e; injection e with e; subst e
            exact ⟨c, t, hg0, rfl, rfl, hl⟩
          · rw [if_pos rfl] at e; injection e with e; subst e
            exact ⟨hbl, by rw [hsize]; exact Nat.lt_succ_self _, hfresh⟩
          · rw [if_pos rfl] at e; injection e with e; subst e
            have := (hR.own.dom j oi' e').2.1
            have hbb : w.heap.size = oi'.b := hbb
            omega
      cases nx <;> first | (simp [valOf] at g2; done) | (simp only [valOf, Option.some.injEq] at g2; subst g2; exact main)
end
end Go.Proofs.Ytlhkkbdfdkjlcaa.Vv

/- An evaluator of closed calls, proved right. Part 8: append, as the evaluator does it. -/
import Derived.Test.YtlhkkbdfdkjlcaaEv7
set_option linter.unusedVariables false
set_option linter.unusedSimpArgs false
namespace Go.Proofs.Ytlhkkbdfdkjlcaa.Ev
open Go
section
variable {P : Program} {base fl : Nat} {ρ : Ren}

def World.kill (w : World) (b : Nat) : World := { w with heap := w.heap.setIfInBounds b (.pending #[] 0) }
def loudCap : Nat := 4611686018427387904
/-- The type of the elements of a block of cells. -/
def blockTy (mem : Nat → Option Obj) (b : Nat) : Option TypeId := match mem b with
  | some (.cells _ t _) => some t
  | _ => none
def evAppend (P : Program) (fl : Nat) (t : TypeId) (s x : Value) (wA : World) : Option (Value × World) :=
  match P.underlying t, s, x with
  | some (.slice e), .slice a sLen sCap, .slice a2 n c2 =>
    match P.info? e with
    | none => none
    | some i =>
      if n = 0 then (if sLen ≤ sCap then some (.slice a sLen sCap, wA) else none)
      else match i.zero with
      | none => none
      | some z =>
        if z.cells.size = i.size ∧ 0 < i.size ∧ (sLen + n) * i.bytes ≤ 140737488355328 ∧ sLen + n < 1099511627776 then
          if sCap < big ∧ sLen + n ≤ sCap then
            match a with
            | some ⟨b, o, none⟩ =>
              if fl ≤ b then
                match (do let new ← Builtin.firstCells i.size n (.slice a2 n c2); Go.storeCells ⟨b, o + sLen * i.size, none⟩ new.toList : Sem Unit).run P wA with
                | .ok _ wA' => some (.slice a (sLen + n) sCap, wA')
                | _ => none
              else none
            | _ => none
          else
            match (Builtin.firstCells i.size sLen (.slice a sLen sCap)).run P wA, (Builtin.firstCells i.size n (.slice a2 n c2)).run P wA with
            | .ok old _, .ok new _ =>
              if old.size = sLen * i.size ∧ new.size = n * i.size ∧ new.all (·.oneCell') = true then
                if sCap < big then some (.slice (some ⟨wA.heap.size, 0, none⟩) (sLen + n) loudCap, wA.alloc (.cells (old ++ new) e))
                else match a with
                  | some ⟨b, _, none⟩ => if fl ≤ b ∧ blockTy (fun b => wA.heap[b]?) b = some e then some (.slice (some ⟨wA.heap.size, 0, none⟩) (sLen + n) loudCap, (World.kill wA b).alloc (.cells (old ++ new) e)) else none
                  | _ => none
              else none
            | _, _ => none
        else none
  | _, _, _ => none

theorem kill_heap (w : World) (b k : Nat) (hb : b < w.heap.size) : (World.kill w b).heap[k]? = if k = b then some (.pending #[] 0) else w.heap[k]? := by
  unfold World.kill
  simp only [Array.getElem?_setIfInBounds]
  by_cases e : b = k
  · subst e; simp [hb]
  · rw [if_neg e, if_neg (fun h => e h.symm)]
theorem kill_size (w : World) (b : Nat) : (World.kill w b).heap.size = w.heap.size := by simp [World.kill]
theorem setRow_heap' {w : World} {g : Nat} {cur new : Array Value} {t : TypeId} {fr : Nat × Nat} (h : w.heap[g]? = some (.cells cur t fr)) (k : Nat) :
    (w.setRow g new).heap[k]? = if k = g then some (.cells new t fr) else w.heap[k]? := by
  unfold World.setRow
  simp only [Array.getElem?_modify]
  by_cases e : g = k
  · subst e; simp [h]
  · rw [if_neg e, if_neg (fun h => e h.symm)]

theorem Stp.undraw {wA w wA' w' : World} {n : Nat} {ρ' : Ren} (h : Stp P base fl ρ wA { w with drawn := n } ρ' wA' w') : Stp P base fl ρ wA w ρ' wA' w' :=
  ⟨h.le, h.rel, h.new, h.sizeA, h.size, h.os, h.tape, h.output, h.keepA, h.keep⟩
/-- growth into a new block. -/
theorem grow_ok {wA w : World} (hr : WRel P base ρ wA w) (hf : fl ≤ wA.heap.size) {e : TypeId} {i : TypeInfo} {z : Value} (hi : P.info? e = some i) (hzs : z.cells.size = i.size)
    {sLen n cap : Nat} {old new old' new' : Array Value} (ho : old.size = sLen * i.size) (hn : new.size = n * i.size) (r1 : ARel ρ old old') (r2 : ARel ρ new new') (hcap : sLen + n ≤ cap) :
    ∃ ρ', VRel ρ' (.slice (some ⟨wA.heap.size, 0, none⟩) (sLen + n) loudCap) (.slice (some ⟨w.heap.size, 0, none⟩) (sLen + n) cap) ∧
      Stp P base fl ρ wA w ρ' (wA.alloc (.cells (old ++ new) e)) (w.drew.alloc (.cells (old' ++ new' ++ Builtin.zeroCells z.cells (cap - (sLen + n))) e)) := by
  have htot : (old' ++ new' ++ Builtin.zeroCells z.cells (cap - (sLen + n))).size = cap * i.size := by
    rw [Array.size_append, Array.size_append, size_zeroCells, ← r1.1, ← r2.1, ho, hn, hzs, ← Nat.add_mul, ← Nat.add_mul]
    congr 1; omega
  have hs := WRel.new (P := P) (base := base) (fl := fl) (o := .cells (old ++ new) e) (o' := .cells (old' ++ new' ++ Builtin.zeroCells z.cells (cap - (sLen + n))) e)
    (x := ⟨w.heap.size, 0, cap * i.size, i.size⟩) (hr.drewR (w.drawn + 1)) hf rfl (fun _ => by
      refine .cells htot ?_ (by rw [hi]; rfl) (fun j v hj => ?_)
      · show 0 + (old ++ new).size ≤ cap * i.size
        rw [Array.size_append, ho, hn, ← Nat.add_mul, Nat.zero_add]
        exact Nat.mul_le_mul_right _ hcap
      · have hle : ρ.Le (fun k => if k = wA.heap.size then some ⟨w.heap.size, 0, cap * i.size, i.size⟩ else ρ k) := fun b y e => by
          have := (hr.dom b y e).1
          show (if b = wA.heap.size then _ else ρ b) = some y
          rw [if_neg (by omega)]; exact e
        obtain ⟨v', p, q⟩ := (r1.append r2).get hj
        refine ⟨v', ?_, q.mono hle⟩
        show (old' ++ new' ++ _)[j + 0]? = some v'
        have hlt : j < (old' ++ new').size := (Array.getElem?_eq_some_iff.1 p).1
        rw [Nat.add_zero, Array.getElem?_append_left hlt]
        exact p)
  refine ⟨_, ?_, hs.undraw⟩
  refine VRel.loose (x := ⟨w.heap.size, 0, cap * i.size, i.size⟩) (if_pos rfl) (by unfold big loudCap; omega) hcap ?_ (fun _ => rfl)
  show 0 + cap * i.size ≤ cap * i.size
  omega

/-- The old block is forgotten. -/
theorem WRel.kill {wA w : World} (h : WRel P base ρ wA w) (b : Nat) : WRel P base ρ (World.kill wA b) w where
  low := h.low
  dom b' x e := by rw [kill_size]; exact h.dom b' x e
  obj b' o x e1 e2 e3 := by
    by_cases hb : b < wA.heap.size
    · rw [kill_heap _ _ _ hb] at e1
      by_cases e : b' = b
      · rw [if_pos e] at e1; injection e1 with e1; subst e1; cases e2
      · rw [if_neg e] at e1; exact h.obj b' o x e1 e2 e3
    · have : World.kill wA b = wA := by unfold World.kill; rw [Array.setIfInBounds_eq_of_size_le (by omega)]
      rw [this] at e1; exact h.obj b' o x e1 e2 e3
  inj b1 b2 o1 o2 x1 x2 e1 a1 e2 a2 r1 r2 hx := by
    by_cases hb : b < wA.heap.size
    · rw [kill_heap _ _ _ hb] at e1 e2
      by_cases c1 : b1 = b
      · rw [if_pos c1] at e1; injection e1 with e1; subst e1; cases a1
      · by_cases c2 : b2 = b
        · rw [if_pos c2] at e2; injection e2 with e2; subst e2; cases a2
        · rw [if_neg c1] at e1; rw [if_neg c2] at e2
          exact h.inj b1 b2 o1 o2 x1 x2 e1 a1 e2 a2 r1 r2 hx
    · have : World.kill wA b = wA := by unfold World.kill; rw [Array.setIfInBounds_eq_of_size_le (by omega)]
      rw [this] at e1 e2
      exact h.inj b1 b2 o1 o2 x1 x2 e1 a1 e2 a2 r1 r2 hx
theorem Stp.kill {wA w : World} (h : WRel P base ρ wA w) {b : Nat} (hb : fl ≤ b) : Stp P base fl ρ wA w ρ (World.kill wA b) w where
  le := .refl _
  rel := h.kill b
  new _ _ e := .inl e
  sizeA := by rw [kill_size]; exact Nat.le_refl _
  size := Nat.le_refl _
  os := rfl
  tape := rfl
  output := rfl
  keepA k hk := by
    by_cases hlt : b < wA.heap.size
    · rw [kill_heap _ _ _ hlt, if_neg (by omega)]
    · unfold World.kill; rw [Array.setIfInBounds_eq_of_size_le (by omega)]
  keep _ _ _ := rfl

/-- growth in place: the block goes on under a new name. -/
theorem place_ok {wA w : World} (hr : WRel P base ρ wA w) (hf : fl ≤ wA.heap.size) {e : TypeId} {i : TypeInfo} (hi : P.info? e = some i)
    {b o o' sLen n c' : Nat} {x : Img} (hb : ρ b = some x) (hfb : fl ≤ b) (hsz : blockTy (fun b => wA.heap[b]?) b = some e) (hx : o' + c' * x.sz ≤ x.tot) (hoo : 0 < sLen → o' = o + x.shift)
    {old new new' : Array Value} (ho : old.size = sLen * i.size) (hn : new.size = n * i.size) (hol : (Go.loadCells ⟨b, o, none⟩ (sLen * i.size)).run P wA = .ok old wA)
    (r2 : ARel ρ new new') (h1 : new.all (·.oneCell') = true) (hroom : sLen + n ≤ c') :
    ∃ ρ' w', (Go.storeCells ⟨x.blk, o' + sLen * i.size, none⟩ new'.toList).run P w = .ok () w' ∧
      VRel ρ' (.slice (some ⟨wA.heap.size, 0, none⟩) (sLen + n) loudCap) (.slice (some ⟨x.blk, o', none⟩) (sLen + n) c') ∧
      Stp P base fl ρ wA w ρ' ((World.kill wA b).alloc (.cells (old ++ new) e)) w' := by
  have hxs : x.sz = i.size := by
    refine blockSz_img hr hb ?_
    unfold blockTy at hsz
    unfold blockSz
    dsimp only at hsz ⊢
    split at hsz
    · rename_i he
      injection hsz with hsz; subst hsz
      rw [he]; show szOf P _ = _; unfold szOf; rw [hi]; rfl
    · cases hsz
  have hblt := (hr.dom b x hb).1
  have hxlt := (hr.dom b x hb).2.2
  unfold blockTy at hsz
  dsimp only at hsz
  split at hsz
  case h_2 => cases hsz
  rename_i cA tA fr hA
  injection hsz with hsz
  obtain rfl : tA = e := hsz
  obtain ⟨ob, hob, hrel⟩ := hr.obj b _ x hA rfl hb
  cases hrel with
  | @cells _ c _ ht hs hz hh =>
    have hmul : (sLen + n) * i.size ≤ c' * i.size := Nat.mul_le_mul_right _ hroom
    rw [Nat.add_mul] at hmul
    rw [hxs] at hx
    have hfit : o' + sLen * i.size + new'.toList.length ≤ c.size := by
      rw [Array.length_toList, ← r2.1, hn, ht]; omega
    have hone : ∀ v ∈ new'.toList, v.oneCell' = true := by
      intro v hv
      rw [Array.all_eq_true_iff_forall_mem] at h1
      have hv' : v ∈ new' := Array.mem_toList_iff.1 hv
      obtain ⟨j, hj⟩ := Array.mem_iff_getElem?.1 hv'
      have hlt : j < new.size := by rw [r2.1]; exact (Array.getElem?_eq_some_iff.1 hj).1
      have := r2.2 j new[j] v (Array.getElem?_eq_getElem hlt) hj
      rw [← this.one]
      exact h1 _ (Array.getElem_mem hlt)
    have hst := run_storeCells_at P x.blk (o' + sLen * i.size) tA new'.toList 0 c w hob (by simpa using hfit) hone
    simp only [Nat.add_zero] at hst
    refine ⟨fun k => if k = wA.heap.size then some ⟨x.blk, o', x.tot, x.sz⟩ else ρ k, _, hst, ?_, ?_⟩
    · refine VRel.loose (x := ⟨x.blk, o', x.tot, x.sz⟩) (if_pos rfl) (by unfold big loudCap; omega) hroom ?_ (fun _ => ?_)
      · show o' + c' * x.sz ≤ x.tot; rw [hxs]; exact hx
      · show o' = 0 + o'; omega
    · have hle : ρ.Le (fun k => if k = wA.heap.size then some ⟨x.blk, o', x.tot, x.sz⟩ else ρ k) := fun b y e => by
        have := (hr.dom b y e).1
        show (if b = wA.heap.size then _ else ρ b) = some y
        rw [if_neg (by omega)]; exact e
      have hgA : ∀ k, ((World.kill wA b).alloc (.cells (old ++ new) tA)).heap[k]? = if k = wA.heap.size then some (.cells (old ++ new) tA) else if k = b then some (.pending #[] 0) else wA.heap[k]? := by
        intro k
        show ((World.kill wA b).heap.push _)[k]? = _
        rw [Array.getElem?_push, kill_size]
        split
        · rfl
        · exact kill_heap _ _ _ hblt
      generalize hnr : (c.toList.take (o' + sLen * i.size) ++ new'.toList ++ c.toList.drop (o' + sLen * i.size + new'.toList.length)).toArray = nr
      have hnrs : nr.size = x.tot := by
        rw [← hnr]
        simp only [List.size_toArray, List.length_append, List.length_take, List.length_drop, Array.length_toList] at hfit ⊢
        omega
      have hgw : ∀ k, (w.setRow x.blk nr).heap[k]? = if k = x.blk then some (.cells nr tA (0, 0)) else w.heap[k]? := setRow_heap' hob
      have hsA : ((World.kill wA b).alloc (.cells (old ++ new) tA)).heap.size = wA.heap.size + 1 := by
        show ((World.kill wA b).heap.push _).size = _
        rw [Array.size_push, kill_size]
      have hsw : (w.setRow x.blk nr).heap.size = w.heap.size := by simp [World.setRow]
      refine ⟨hle, ⟨by rw [hsw]; exact hr.low, ?_, ?_, ?_⟩, ?_, by omega, by rw [hsw]; exact Nat.le_refl _, rfl, rfl, rfl, ?_, ?_⟩
      · intro k y ey
        rw [hsA, hsw]
        by_cases hk : k = wA.heap.size
        · rw [if_pos hk] at ey; injection ey with ey; subst ey
          have := hr.dom b x hb
          exact ⟨by omega, this.2.1, this.2.2⟩
        · rw [if_neg hk] at ey; have := hr.dom k y ey; omega
      · intro k ok y e1 e2 e3
        rw [hgA] at e1
        by_cases hk : k = wA.heap.size
        · rw [if_pos hk] at e1 e3
          injection e1 with e1; injection e3 with e3
          subst e1; subst e3
          refine ⟨.cells nr tA (0, 0), by rw [hgw, if_pos rfl], ?_⟩
          refine .cells hnrs ?_ (by rw [hi, hxs]; rfl) (fun j v hj => ?_)
          · show o' + (old ++ new).size ≤ x.tot
            rw [Array.size_append, ho, hn]; omega
          · rw [Array.getElem?_append] at hj
            show ∃ v', nr[j + o']? = some v' ∧ _
            have hnj : nr[j + o']? = (c.toList.take (o' + sLen * i.size) ++ new'.toList ++ c.toList.drop (o' + sLen * i.size + new'.toList.length))[j + o']? := by rw [← hnr]; simp
            rw [hnj]
            have hlt : (c.toList.take (o' + sLen * i.size)).length = o' + sLen * i.size := by
              rw [List.length_take, Array.length_toList]; rw [Array.length_toList] at hfit; omega
            split at hj
            · rename_i hjo
              have hjs : j < sLen * i.size := by omega
              have hpos : 0 < sLen := by
                rcases Nat.eq_zero_or_pos sLen with e | e
                · rw [e] at hjs; simp at hjs
                · exact e
              have h3 := loadCells_spec hA hol j hjs
              rw [h3] at hj
              obtain ⟨v', p, q⟩ := hh (o + j) v hj
              refine ⟨v', ?_, q.mono hle⟩
              rw [List.append_assoc, List.getElem?_append_left (by omega), List.getElem?_take, if_pos (by omega), Array.getElem?_toList]
              rw [show j + o' = o + j + x.shift by rw [hoo hpos]; omega]
              exact p
            · rename_i hjo
              obtain ⟨v', p, q⟩ := r2.get hj
              refine ⟨v', ?_, q.mono hle⟩
              have hl2 : j - old.size < new'.toList.length := by rw [Array.length_toList]; exact (Array.getElem?_eq_some_iff.1 p).1
              rw [List.append_assoc, List.getElem?_append_right (by omega), List.getElem?_append_left (by omega), hlt, show j + o' - (o' + sLen * i.size) = j - old.size by omega, Array.getElem?_toList]
              exact p
        · rw [if_neg hk] at e1 e3
          by_cases hkb : k = b
          · rw [if_pos hkb] at e1; injection e1 with e1; subst e1; cases e2
          · rw [if_neg hkb] at e1
            obtain ⟨o2, p, q⟩ := hr.obj k ok y e1 e2 e3
            have hne : y.blk ≠ x.blk := fun he => hkb (hr.inj k b ok _ y x e1 e2 hA rfl e3 hb he)
            exact ⟨o2, by rw [hgw, if_neg hne]; exact p, q.mono hle⟩
      · intro b1 b2 o1 o2 x1 x2 e1 a1 e2 a2 r1 r2' hxx
        rw [hgA] at e1 e2
        have dead : ∀ k ok y, k ≠ wA.heap.size → (if k = wA.heap.size then some (Obj.cells (old ++ new) tA) else if k = b then some (.pending #[] 0) else wA.heap[k]?) = some ok → alive ok = true →
            ρ k = some y → y.blk = x.blk → False := by
          intro k ok y hk h1 h2 h3 h4
          rw [if_neg hk] at h1
          by_cases hkb : k = b
          · rw [if_pos hkb] at h1; injection h1 with h1; subst h1; cases h2
          · rw [if_neg hkb] at h1
            exact hkb (hr.inj k b ok _ y x h1 h2 hA rfl h3 hb h4)
        by_cases k1 : b1 = wA.heap.size <;> by_cases k2 : b2 = wA.heap.size
        · omega
        · rw [if_pos k1] at r1; rw [if_neg k2] at r2'
          injection r1 with r1; subst r1
          exact (dead b2 o2 x2 k2 e2 a2 r2' hxx.symm).elim
        · rw [if_neg k1] at r1; rw [if_pos k2] at r2'
          injection r2' with r2'; subst r2'
          exact (dead b1 o1 x1 k1 e1 a1 r1 hxx).elim
        · rw [if_neg k1] at r1 e1; rw [if_neg k2] at r2' e2
          by_cases kb1 : b1 = b
          · rw [if_pos kb1] at e1; injection e1 with e1; subst e1; cases a1
          · by_cases kb2 : b2 = b
            · rw [if_pos kb2] at e2; injection e2 with e2; subst e2; cases a2
            · rw [if_neg kb1] at e1; rw [if_neg kb2] at e2
              exact hr.inj b1 b2 o1 o2 x1 x2 e1 a1 e2 a2 r1 r2' hxx
      · intro k y ey
        by_cases hk : k = wA.heap.size
        · rw [if_pos hk] at ey; injection ey with ey; subst ey
          exact .inr ⟨by omega, .inr ⟨b, x, hfb, hb, rfl⟩⟩
        · rw [if_neg hk] at ey; exact .inl ey
      · intro k hk
        rw [hgA, if_neg (by omega), if_neg (by omega)]
      · intro k hk hno
        rw [hgw, if_neg (fun e => hno b x hfb hb e.symm)]

theorem read_from {wA w : World} (hr : WRel P base ρ wA w) {b o : Nat} {x : Img} (hb : ρ b = some x) : ∀ (n i : Nat) (acc acc' r : Array Value) (wA' : World), ARel ρ acc acc' →
    (Go.loadCellsFrom ⟨b, o, none⟩ i n acc).run P wA = .ok r wA' → ∃ r', (∀ d, (Go.loadCellsFrom ⟨x.blk, o + x.shift, none⟩ i n acc').run P { w with drawn := d } = .ok r' { w with drawn := d }) ∧ ARel ρ r r'
  | 0, i, acc, acc', r, wA', ha, h => by
    simp only [Go.loadCellsFrom, Sem.run_pure, Result.ok.injEq] at h
    exact ⟨acc', fun d => by simp only [Go.loadCellsFrom, Sem.run_pure], h.1 ▸ ha⟩
  | n + 1, i, acc, acc', r, wA', ha, h => by
    simp only [Go.loadCellsFrom, Sem.run_bind] at h
    cases hl : (Go.load ((⟨b, o, none⟩ : Addr).add i)).run P wA with
    | halt x y => rw [hl] at h; cases h
    | ok v w1 =>
      rw [hl] at h
      have e := load_same hl
      subst e
      rw [run_load, add_off] at hl
      cases hc : w1.cell? ⟨b, o + i, none⟩ with
      | none =>
        obtain ⟨er, he⟩ := hr.noFar hb (o := o + i) (Mode.plain == .atomic)
        rw [hc] at hl
        simp only [he] at hl
        cases hl
      | some u =>
        rw [hc] at hl
        simp only [Result.ok.injEq, and_true] at hl
        subst hl
        obtain ⟨v', h1, h2⟩ := hr.at hb hc
        obtain ⟨r', h3, h4⟩ := read_from hr hb n (i + 1) _ (acc'.push v') r wA' (ha.push h2) h
        refine ⟨r', fun d => ?_, h4⟩
        simp only [Go.loadCellsFrom, Sem.run_bind, add_off]
        rw [run_load]
        have : World.cell? { w with drawn := d } ⟨x.blk, o + x.shift + i, none⟩ = some v' := by
          rw [show o + x.shift + i = o + i + x.shift by omega]; exact h1
        rw [this]
        exact h3 d
theorem read_first {wA w : World} (hr : WRel P base ρ wA w) {size n : Nat} {a : Option Addr} {l c : Nat} {x' : Value} (hx : VRel ρ (.slice a l c) x') (hn : n ≤ l)
    {r : Array Value} {wA' : World} (h : (Builtin.firstCells size n (.slice a l c)).run P wA = .ok r wA') :
    ∃ r', (∀ d, (Builtin.firstCells size n x').run P { w with drawn := d } = .ok r' { w with drawn := d }) ∧ ARel ρ r r' := by
  unfold Builtin.firstCells at h ⊢
  cases hx with
  | nilSlice l c =>
    simp only [Sem.run_pure, Result.ok.injEq] at h
    obtain ⟨rfl, _⟩ := h
    exact ⟨#[], fun d => rfl, .empty⟩
  | slice hb hc => exact read_from hr hb _ _ _ _ _ _ .empty h
  | @loose b o o' l c c' x hb hc hl ht ho =>
    by_cases h0 : n * size = 0
    · rw [h0] at h ⊢
      simp only [Go.loadCells, Go.loadCellsFrom, Sem.run_pure, Result.ok.injEq] at h
      obtain ⟨rfl, _⟩ := h
      exact ⟨#[], fun d => rfl, .empty⟩
    · have hpos : 0 < l := by
        rcases Nat.eq_zero_or_pos n with e | e
        · rw [e] at h0; simp at h0
        · omega
      rw [ho hpos]
      exact read_from hr hb _ _ _ _ _ _ .empty h

theorem evAppend_ok {wA w wA' : World} {t ty : TypeId} {s s' x x' v : Value} (he : evAppend P fl t s x wA = some (v, wA')) (hr : WRel P base ρ wA w) (hf : fl ≤ wA.heap.size)
    (hs : VRel ρ s s') (hx : VRel ρ x x') : ∃ ρ' v' w', (Builtin.append_ #[t, t] ty #[s', x']).run P w = .ok v' w' ∧ VRel ρ' v v' ∧ Stp P base fl ρ wA w ρ' wA' w' := by
  unfold evAppend at he
  split at he
  case h_2 => cases he
  rename_i e a sLen sCap a2 n c2 hu
  obtain ⟨A2, C2, rfl⟩ : ∃ A2 C2, x' = .slice A2 n C2 := by cases hx <;> exact ⟨_, _, rfl⟩
  cases hi : P.info? e with
  | none => rw [hi] at he; cases he
  | some i =>
    rw [hi] at he
    dsimp only at he
    split at he
    · rename_i h0
      subst h0
      split at he
      · rename_i hle
        injection he with he
        injection he with e1 e2
        subst e1; subst e2
        cases hs with
        | nilSlice => exact ⟨ρ, _, w, append_none w hu hi hle, .nilSlice _ _, .refl hr⟩
        | slice hb hc => exact ⟨ρ, _, w, append_none w hu hi hle, .slice hb hc, .refl hr⟩
        | loose hb hc hn ht ho => exact ⟨ρ, _, w, append_none w hu hi hn, .loose hb hc hn ht ho, .refl hr⟩
      · cases he
    · rename_i h0
      cases hz : i.zero with
      | none => rw [hz] at he; cases he
      | some z =>
        rw [hz] at he
        dsimp only at he
        split at he
        case isFalse => cases he
        rename_i hc
        obtain ⟨hzs, hsz, hby, h40⟩ := hc
        split at he
        · -- in place, as both know
          rename_i hroom
          split at he
          · rename_i b o
            split at he
            · rename_i hfb
              split at he
              · rename_i u w1 hrun
                injection he with he
                injection he with e1 e2
                subst e1; subst e2
                cases hs with
                | @slice _ _ _ _ y hb hcc =>
                  have hsim : Sim P base fl (fun _ _ _ => True) ρ (do let new ← Builtin.firstCells i.size n (.slice a2 n c2); Go.storeCells ⟨b, o + sLen * i.size, none⟩ new.toList : Sem Unit)
                      (do let new ← Builtin.firstCells i.size n (.slice A2 n C2); Go.storeCells ⟨y.blk, o + sLen * i.size + y.shift, none⟩ new.toList : Sem Unit) :=
                    (Sim.first hx (fun _ _ _ e => by injection e with _ e; omega)).bind fun ρ1 r r' hle hrr => Sim.storeCells hfb _ _ 0 ρ1 (hle _ _ hb) hrr.list
                  obtain ⟨ρ1, _, w1', h1, _, h3⟩ := hsim wA w _ w1 hr hf hrun
                  refine ⟨ρ1, .slice (some ⟨y.blk, o + y.shift, none⟩) (sLen + n) sCap, w1', ?_, .slice (h3.le _ _ hb) hcc, h3⟩
                  rw [append_room w hu hi hroom.2, add_off, show o + y.shift + sLen * i.size = o + sLen * i.size + y.shift by omega]
                  simp only [Sem.run_bind] at h1 ⊢
                  cases hff : (Builtin.firstCells i.size n (.slice A2 n C2)).run P w with
                  | halt p q => rw [hff] at h1; cases h1
                  | ok p q =>
                    rw [hff] at h1
                    simp only [Result.andThen_ok] at h1 ⊢
                    rw [h1]; rfl
                | loose hb hcc => omega
              · cases he
            · cases he
          · cases he
        · rename_i hroom
          split at he
          case h_2 => cases he
          rename_i old wo new wn ho hn
          split at he
          case isFalse => cases he
          rename_i hsz2
          obtain ⟨hos, hns, hone⟩ := hsz2
          have eo := first_same ho
          have en := first_same hn
          subst eo
          obtain ⟨new', hn1, hn2⟩ := read_first hr hx (Nat.le_refl _) hn
          obtain ⟨old', ho1, ho2⟩ := read_first hr hs (Nat.le_refl _) ho
          split at he
          · -- growth for sure
            rename_i hcap
            injection he with he
            injection he with e1 e2
            subst e1; subst e2
            obtain ⟨A, hA⟩ : ∃ A, s' = .slice A sLen sCap := by
              cases hs with
              | nilSlice => exact ⟨_, rfl⟩
              | slice => exact ⟨_, rfl⟩
              | loose hb hcc => omega
            subst hA
            have hg := append_grow (ty := ty) w hu hi hz (ho1 _) (hn1 _) (by omega) h40 hby
            obtain ⟨ρ', hv, hst⟩ := grow_ok hr hf hi hzs hos hns ho2 hn2 (grownCap_ge w (sLen + n) sCap e)
            exact ⟨ρ', _, _, hg, hv, hst⟩
          · rename_i hcap
            split at he
            case h_2 => cases he
            rename_i b o
            split at he
            case isFalse => cases he
            rename_i hfb
            injection he with he
            injection he with e1 e2
            subst e1; subst e2
            cases hs with
            | slice hb hcc => exact absurd hcc hcap
            | @loose _ _ o' _ _ c' y hb hcc hl ht hoo =>
              by_cases hin : sLen + n ≤ c'
              · have hol : (Go.loadCells ⟨b, o, none⟩ (sLen * i.size)).run P wo = .ok old wo := ho
                obtain ⟨ρ', w', p, q, r⟩ := place_ok hr hf hi hb hfb.1 hfb.2 ht hoo hos hns hol hn2 hone hin
                refine ⟨ρ', _, w', ?_, q, r⟩
                rw [append_room w hu hi hin, add_off, Sem.run_bind, hn1 w.drawn]
                simp only [Result.andThen_ok]
                rw [Sem.run_bind, p]; rfl
              · have hg := append_grow (ty := ty) w hu hi hz (ho1 _) (hn1 _) (by omega) h40 hby
                obtain ⟨ρ', hv, hst⟩ := grow_ok (fl := fl) (hr.kill b) (by rw [kill_size]; exact hf) hi hzs hos hns ho2 hn2 (grownCap_ge w (sLen + n) c' e)
                rw [kill_size] at hv
                exact ⟨ρ', _, _, hg, hv, (Stp.kill hr hfb.1).trans hst⟩
end
end Go.Proofs.Ytlhkkbdfdkjlcaa.Ev

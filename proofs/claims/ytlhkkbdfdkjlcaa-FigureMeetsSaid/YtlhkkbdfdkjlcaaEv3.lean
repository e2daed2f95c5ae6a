/- An evaluator of closed calls, proved right. Part 3: what is alike on both sides, the operations that look at no memory. -/
import Derived.Test.YtlhkkbdfdkjlcaaEv2
set_option linter.unusedVariables false
set_option linter.unusedSimpArgs false
namespace Go.Proofs.Ytlhkkbdfdkjlcaa.Ev
open Go

/-- No block is named. -/
def gcell : Value → Bool
  | .bool _ | .int _ _ | .string _ | .pointer none | .slice none _ _ | .map none | .nilFunc | .nilIface => true
  | _ => false
def ground : Value → Bool
  | .agg cs => cs.all gcell
  | .tuple cs => cs.all gcell
  | .func (.func _) fs cs => fs.isEmpty && cs.isEmpty
  | v => gcell v
section
variable {P : Program} {base fl : Nat} {ρ : Ren}

theorem gcell_rel {v : Value} (h : gcell v = true) : VRel ρ v v := by
  cases v with
  | pointer a => cases a <;> simp [gcell] at h; exact .nilPtr
  | slice a n c => cases a <;> simp [gcell] at h; exact .nilSlice _ _
  | map a => cases a <;> simp [gcell] at h; exact .nilMap
  | bool b => exact .bool b
  | int k n => exact .int k n
  | string s => exact .string s
  | nilFunc => exact .nilFunc
  | nilIface => exact .nilIface
  | _ => simp [gcell] at h
theorem gcells_rel {cs : Array Value} (h : cs.all gcell = true) : ARel ρ cs cs := by
  rw [Array.all_eq_true_iff_forall_mem] at h
  refine ⟨rfl, fun i v v' a b => ?_⟩
  rw [a] at b; injection b with b; subst b
  exact gcell_rel (h v (Array.mem_of_getElem? a))
theorem ground_rel {v : Value} (h : ground v = true) : VRel ρ v v := by
  cases v with
  | agg cs => exact .agg rfl (gcells_rel h).2
  | tuple cs => exact .tuple rfl (gcells_rel h).2
  | func fn fs cs =>
    cases fn with
    | func f =>
      simp only [ground, Bool.and_eq_true, Array.isEmpty_iff] at h
      obtain ⟨rfl, rfl⟩ := h
      exact .func rfl rfl (fun i v v' a => by simp at a) rfl (fun i v v' a => by simp at a)
    | _ => simp [ground, gcell] at h
  | _ => exact gcell_rel h
theorem gcell_eq {v v' : Value} (h : gcell v = true) (r : VRel ρ v v') : v' = v := by
  cases r <;> first | rfl | (simp [gcell] at h; done)
theorem gcells_eq {cs cs' : Array Value} (h : cs.all gcell = true) (r : ARel ρ cs cs') : cs' = cs := by
  rw [Array.all_eq_true_iff_forall_mem] at h
  refine Array.ext_getElem? fun i => ?_
  cases hi : cs[i]? with
  | none => exact r.none hi
  | some v =>
    obtain ⟨v', a, b⟩ := r.get hi
    rw [a, gcell_eq (h v (Array.mem_of_getElem? hi)) b]
theorem ground_eq {v v' : Value} (h : ground v = true) (r : VRel ρ v v') : v' = v := by
  cases r with
  | agg hc hh => rw [gcells_eq h ⟨hc, hh⟩]
  | tuple hc hh => rw [gcells_eq h ⟨hc, hh⟩]
  | @func fn fs fs' cs cs' hy hf h1 hc h2 =>
    cases fn with
    | func f =>
      simp only [ground, Bool.and_eq_true, Array.isEmpty_iff] at h
      obtain ⟨rfl, rfl⟩ := h
      have e1 : fs' = #[] := by rw [← Array.size_eq_zero_iff, ← hf]; rfl
      have e2 : cs' = #[] := by rw [← Array.size_eq_zero_iff, ← hc]; rfl
      rw [e1, e2]
    | _ => simp [ground, gcell] at h
  | _ => exact gcell_eq (ρ := ρ) h (by constructor <;> assumption)

/-- What an operation gives. -/
inductive NRel (ρ : Ren) : Next → Next → Prop
  | value {v v' : Value} (h : VRel ρ v v') : NRel ρ (.value v) (.value v')
  | skip : NRel ρ .skip .skip
  | enter {f : FuncId} {as as' : Array Value} (h : ARel ρ as as') : NRel ρ (.enter f as) (.enter f as')

theorem Sim.value {s s' : Sem Value} (h : Sim P base fl VRel ρ s s') : Sim P base fl NRel ρ (do Pure.pure (Next.value (← s))) (do Pure.pure (Next.value (← s'))) :=
  h.bind fun _ _ _ _ hv => .pure (.value hv)
theorem Sim.unit {s s' : Sem Unit} (h : Sim P base fl (fun _ _ _ => True) ρ s s') : Sim P base fl NRel ρ (do s; Pure.pure Next.skip) (do s'; Pure.pure Next.skip) :=
  h.bind fun _ _ _ _ _ => .pure .skip

section free
theorem Free.intArith (op : BinOp) (k : IntKind) (x y : Int) : Free P (Op.intArith op k x y) := by
  unfold Op.intArith; split <;> first | exact .pure _ | exact .halt _
theorem Free.intDiv (op : BinOp) (k : IntKind) (x y : Int) : Free P (Op.intDiv op k x y) := by
  unfold Op.intDiv
  split
  · exact .runtimePanic _ (fun _ _ _ _ h => by cases h) (fun h => by cases h)
  · split <;> first | exact .pure _ | exact .halt _
theorem Free.intBits (op : BinOp) (k : IntKind) (x y : Int) : Free P (Op.intBits op k x y) := by
  unfold Op.intBits; split <;> first | exact .pure _ | exact .halt _
theorem Free.intCmp (op : BinOp) (x y : Int) : Free P (Op.intCmp op x y) := by
  unfold Op.intCmp; split <;> first | exact .pure _ | exact .halt _
theorem Free.shift (op : BinOp) (k : IntKind) (x : Int) (k' : IntKind) (y : Int) : Free P (Op.shift op k x k' y) := by
  unfold Op.shift
  split
  · exact .runtimePanic _ (fun _ _ _ _ h => by cases h) (fun h => by cases h)
  · split <;> first | exact .pure _ | exact .halt _
theorem Free.stringOp (op : BinOp) (x y : ByteArray) : Free P (Op.stringOp op x y) := by
  unfold Op.stringOp
  split <;> first | exact .pure _ | exact .halt _ | (split <;> first | exact .pure _ | exact .halt _)
theorem Free.unary (op : UnOp) {v : Value} (h : gcell v = true) : Free P (Op.unary op v) := by
  unfold Op.unary
  split <;> first | exact .pure _ | exact .halt _ | exact .intArith _ _ _ _ | exact .intBits _ _ _ _
theorem Free.part (t : TypeId) (cs : Array Value) (off : Nat) : Free P (Go.part t cs off) := by
  unfold Go.part
  refine .bind (.isAgg t) fun b => ?_
  split
  · exact .bind (.sizeOf t) fun n => .pure _
  · split <;> first | exact .pure _ | exact .halt _

/-- a part of an aggregate without blocks is one, too. -/
theorem part_ground {t : TypeId} {cs : Array Value} {off : Nat} (h : cs.all gcell = true) {v : Value} {w : World} (e : (Go.part t cs off).run P w = .ok v w) : ground v = true := by
  have hm := Array.all_eq_true_iff_forall_mem.1 h
  unfold Go.part at e
  rw [Sem.run_bind] at e
  cases hi : (Go.isAgg t).run P w with
  | halt a b => rw [hi] at e; cases e
  | ok b w1 =>
    rw [hi] at e
    simp only [Result.andThen_ok] at e
    cases b with
    | true =>
      simp only [if_true, Sem.run_bind] at e
      cases hs : (Go.sizeOf t).run P w1 with
      | halt a b => rw [hs] at e; cases e
      | ok n w2 =>
        rw [hs] at e
        simp only [Result.andThen_ok, Sem.run_pure, Result.ok.injEq] at e
        obtain ⟨rfl, _⟩ := e
        show (cs.extract off (off + n)).all gcell = true
        rw [Array.all_eq_true_iff_forall_mem]
        intro x hx
        obtain ⟨i, hi, rfl⟩ := Array.mem_iff_getElem.1 hx
        rw [Array.getElem_extract]
        exact hm _ (Array.getElem_mem _)
    | false =>
      simp only [Bool.false_eq_true, if_false] at e
      cases hc : cs[off]? with
      | none => rw [hc] at e; simp at e
      | some u =>
        rw [hc] at e
        simp only [Sem.run_pure, Result.ok.injEq] at e
        obtain ⟨rfl, _⟩ := e
        have h1 := hm u (Array.mem_of_getElem? hc)
        cases u <;> first | exact h1 | (simp [gcell] at h1; done)

/-- 'Free', with what it gives. -/
theorem Free.bindW {α β : Type} {s : Sem α} {f : α → Sem β} (h : Free P s) (k : ∀ a, (∀ w, s.run P w = .ok a w) → Free P (f a)) : Free P (s >>= f) := by
  rcases h with ⟨a, ha⟩ | hh
  · rcases k a ha with ⟨b, hb⟩ | hk
    · exact .inl ⟨b, fun w => by rw [Sem.run_bind, ha w]; exact hb w⟩
    · refine .inr fun w => ?_
      obtain ⟨x, y, e⟩ := hk w
      exact ⟨x, y, by rw [Sem.run_bind, ha w]; exact e⟩
  · refine .inr fun w => ?_
    obtain ⟨x, y, e⟩ := hh w
    exact ⟨x, y, by rw [Sem.run_bind, e]; rfl⟩
theorem Free.forList {α β : Type} (f : α → β → Sem (ForInStep β)) (h : ∀ a b, Free P (f a b)) : ∀ (l : List α) (b : β), Free P (forIn l b f)
  | [], b => by simp only [List.forIn_nil]; exact .pure _
  | a :: l, b => by
    simp only [List.forIn_cons]
    refine .bind (h a b) fun r => ?_
    cases r with
    | done b => exact .pure _
    | yield b => exact Free.forList f h l b
theorem Free.forArray {α β : Type} (f : α → β → Sem (ForInStep β)) (h : ∀ a b, Free P (f a b)) (l : Array α) (b : β) : Free P (forIn l b f) := by
  rw [← Array.forIn_toList]
  exact Free.forList f h l.toList b
theorem Free.forRange {β : Type} (f : Nat → β → Sem (ForInStep β)) (h : ∀ a b, Free P (f a b)) (r : Std.Legacy.Range) (b : β) : Free P (forIn r b f) := by
  rw [Std.Legacy.Range.forIn_eq_forIn_range']
  exact Free.forList f h _ b

theorem gpart {t : TypeId} {cs : Array Value} {off : Nat} (h : cs.all gcell = true) {v : Value} (e : ∀ w, (Go.part t cs off).run P w = .ok v w) : ground v = true :=
  part_ground h (e default)
theorem Free.equalIn : ∀ (d : Nat) (t : TypeId) (x y : Value), ground x = true → ground y = true → Free P (Op.equalIn d t x y)
  | 0, t, x, y, _, _ => .halt _
  | d + 1, t, x, y, hx, hy => by
    rw [Op.equalIn.eq_2]
    refine .bind (.underlying t) fun de => ?_
    split
    any_goals exact .pure _
    any_goals exact .halt _
    all_goals (try (simp [ground, gcell] at hx; done))
    all_goals (try (simp [ground, gcell] at hy; done))
    any_goals (split <;> first | exact .pure _ | exact .halt _)
    · rename_i a b
      cases a with
      | none => cases b <;> exact .pure _
      | some a => simp [ground, gcell] at hx
    · rename_i xs ys
      have key : ∀ fields : Array Field, Free P (forIn (m := Sem) fields ((none, ()) : Option Bool × Unit) fun f __s =>
                if f.name ≠ "_" then do
                  let __do_lift ← Go.part f.type xs f.offset
                  let __do_lift_1 ← Go.part f.type ys f.offset
                  let __do_lift ← Op.equalIn d f.type __do_lift __do_lift_1
                  if (!__do_lift) = true then Pure.pure (ForInStep.done (some false, ()))
                    else Pure.pure (ForInStep.yield (none, ()))
                else Pure.pure (ForInStep.yield (none, ()))) := by
        intro fields
        refine Free.forArray _ (fun f b => ?_) _ _
        split
        · refine .bindW (.part _ _ _) fun u hu => .bindW (.part _ _ _) fun v hv => .bind (Free.equalIn d _ u v (gpart hx hu) (gpart hy hv)) fun r => ?_
          split <;> exact .pure _
        · exact .pure _
      refine .bind .program fun p => ?_
      split
      · exact .bind (.halt _) fun _ => .bind (key _) fun r => by dsimp only; split <;> exact .pure _
      · exact .bind (key _) fun r => by dsimp only; split <;> exact .pure _
    · rename_i xs ys
      refine .bind (.sizeOf _) fun n => ?_
      refine .bind (Free.forRange _ (fun i b => ?_) _ _) fun r => by dsimp only; split <;> exact .pure _
      refine .bindW (.part _ _ _) fun u hu => .bindW (.part _ _ _) fun v hv => .bind (Free.equalIn d _ u v (gpart hx hu) (gpart hy hv)) fun r => ?_
      split <;> exact .pure _
theorem Free.eqGuardIn : ∀ (d : Nat) (t : TypeId) (x y : Value), ground x = true → ground y = true → Free P (Op.eqGuardIn d t x y)
  | 0, t, x, y, _, _ => .halt _
  | d + 1, t, x, y, hx, hy => by
    rw [Op.eqGuardIn.eq_2]
    refine .bind (.underlying t) fun de => ?_
    split
    · exact .pure _
    · rename_i xs ys
      refine .bind (Free.forArray _ (fun f b => ?_) _ _) fun r => by dsimp only; split <;> exact .pure _
      split
      · refine .bindW (.part _ _ _) fun u hu => .bindW (.part _ _ _) fun v hv => .bind (Free.eqGuardIn d _ u v (gpart hx hu) (gpart hy hv)) fun r => ?_
        split <;> exact .pure _
      · exact .pure _
    · rename_i xs ys
      refine .bind (.sizeOf _) fun n => ?_
      refine .bind (Free.forRange _ (fun i b => ?_) _ _) fun r => by dsimp only; split <;> exact .pure _
      refine .bindW (.part _ _ _) fun u hu => .bindW (.part _ _ _) fun v hv => .bind (Free.eqGuardIn d _ u v (gpart hx hu) (gpart hy hv)) fun r => ?_
      split <;> exact .pure _
    · exact .pure _
theorem Free.eqGuard (op : BinOp) (t : TypeId) (x y : Operand) {a b : Value} (ha : ground a = true) (hb : ground b = true) : Free P (Go.eqGuard op t x y a b) := by
  unfold Go.eqGuard
  refine .ite (.pure _) ?_
  split
  · refine .ite (.pure _) ?_
    refine .bind (Free.eqGuardIn _ _ _ _ ha hb) fun r => ?_
    exact .ite (.halt _) (.pure _)
  · refine .bind .program fun p => .bind .program fun q => ?_
    refine .ite (.pure _) ?_
    refine .bind (Free.eqGuardIn _ _ _ _ ha hb) fun r => ?_
    exact .ite (.halt _) (.pure _)
  · exact .pure _
def pairOk : Value → Value → Bool
  | .pointer _, .int _ _ | .int _ _, .pointer _ => false
  | a, b => ground a && ground b
theorem pairOk.spec {a b : Value} (h : pairOk a b = true) : ground a = true ∧ ground b = true := by
  unfold pairOk at h
  split at h
  · cases h
  · cases h
  · simpa using h
theorem Free.binOp (op : BinOp) (t : TypeId) {a b : Value} (h : pairOk a b = true) : Free P (Go.binOp op t a b) := by
  obtain ⟨ha, hb⟩ := pairOk.spec h
  unfold Go.binOp
  split
  any_goals exact .shift _ _ _ _ _
  any_goals exact .stringOp _ _ _
  all_goals (try (simp [ground, gcell] at ha; done))
  all_goals (try (simp [ground, gcell] at hb; done))
  all_goals (try (simp [pairOk] at h; done))
  any_goals exact .halt _
  any_goals exact .bind (Free.equalIn _ _ _ _ ha hb) fun r => .pure _
  all_goals (try (split <;> first | exact .halt _ | (split <;> first | exact .intArith _ _ _ _ | exact .intDiv _ _ _ _ | exact .intBits _ _ _ _ | exact .intCmp _ _ _)))
end free
end
end Go.Proofs.Ytlhkkbdfdkjlcaa.Ev

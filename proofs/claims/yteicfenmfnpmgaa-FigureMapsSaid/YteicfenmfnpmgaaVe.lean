/- Structs and arrays of integers: when they are the same. -/
import Derived.Test.YteicfenmfnpmgaaVv6
set_option linter.unusedVariables false
set_option linter.unusedSimpArgs false
namespace Go.Proofs.Yteicfenmfnpmgaa.Vv
open Go Go.Proofs.Yteicfenmfnpmgaa.Ev

def mkV (ag : Bool) (l : List Int) : Value := match ag with
  | true => agI l
  | false => match l with
    | n :: _ => .int .i64 n
    | [] => undef
def EqT (P : Program) (d : Nat) (t : TypeId) (n : Nat) : Prop := ∃ ag, isAggT P t = some ag ∧ (ag = false → n = 1) ∧ szOf P t = some n ∧
  ∀ (l r : List Int), l.length = n → r.length = n → ∀ w : World, (Op.equalIn d t (mkV ag l) (mkV ag r)).run P w = .ok (eqL l r) w
theorem eqL_split : ∀ (m : Nat) (l r : List Int), l.length = r.length → eqL l r = (eqL (l.take m) (r.take m) && eqL (l.drop m) (r.drop m))
  | 0, l, r, _ => by simp [eqL]
  | m + 1, [], r, h => by
    obtain rfl : r = [] := by cases r with | nil => rfl | cons _ _ => cases h
    rfl
  | m + 1, a :: l, [], h => by cases h
  | m + 1, a :: l, b :: r, h => by
    have := eqL_split m l r (by simpa using h)
    show ((a == b) && eqL l r) = (((a == b) && eqL (l.take m) (r.take m)) && eqL (l.drop m) (r.drop m))
    rw [this, Bool.and_assoc]
theorem part_mkV {P : Program} {t : TypeId} {ag : Bool} {m off : Nat} {l : List Int} (h1 : isAggT P t = some ag) (h2 : ag = false → m = 1) (h3 : szOf P t = some m) (hl : off + m ≤ l.length) (w : World) :
    (Go.part t (l.map fun n => Value.int .i64 n).toArray off).run P w = .ok (mkV ag ((l.drop off).take m)) w := by
  unfold Go.part
  rw [Sem.run_bind, isAgg_run h1]
  cases ag with
  | true =>
    show (do let n ← Go.sizeOf t; Pure.pure (Value.agg (Array.extract _ off (off + n))) : Sem Value).run P w = _
    rw [Sem.run_bind, sizeOf_run h3]
    show Result.ok (Value.agg _) w = _
    unfold mkV agI
    rw [List.extract_toArray, List.map_take, List.map_drop]
    simp [List.extract_eq_take_drop]
  | false =>
    obtain rfl := h2 rfl
    have e : (l.map fun n => Value.int .i64 n).toArray[off]? = some (.int .i64 (l[off]'(by omega))) := by simp [show off < l.length by omega]
    show (match (l.map fun n => Value.int .i64 n).toArray[off]? with | some v => Pure.pure v | none => Go.stuck _ : Sem Value).run P w = _
    rw [e, List.drop_eq_getElem_cons (by omega : off < l.length)]
    rfl
theorem eqT_int {P : Program} {d : Nat} {t : TypeId} {k : IntKind} (hu : P.underlying t = some (.int k)) (h1 : isAggT P t = some false) (h3 : szOf P t = some 1) : EqT P (d + 1) t 1 := by
  refine ⟨false, h1, fun _ => rfl, h3, fun l r hl hr w => ?_⟩
  match l, r with
  | [a], [b] =>
    show (Op.equalIn (d + 1) t (.int .i64 a) (.int .i64 b)).run P w = _
    rw [Op.equalIn.eq_2, Sem.run_bind, underlying_run hu]
    show (if IntKind.i64 = IntKind.i64 then Pure.pure (a == b) else Go.stuck "==: kinds differ" : Sem Bool).run P w = _
    rw [if_pos rfl]
    show Result.ok (a == b) w = Result.ok ((a == b) && true) w
    rw [Bool.and_true]
inductive FieldsOK (P : Program) (d : Nat) : List Field → Nat → Nat → Prop
  | nil {n : Nat} : FieldsOK P d [] n n
  | cons {f : Field} {fs : List Field} {off m n : Nat} (h1 : f.name ≠ "_") (h2 : f.offset = off) (h3 : EqT P d f.type m) (h : FieldsOK P d fs (off + m) n) : FieldsOK P d (f :: fs) off n
theorem FieldsOK.le {P : Program} {d : Nat} {fs : List Field} {off n : Nat} (h : FieldsOK P d fs off n) : off ≤ n := by
  induction h with
  | nil => omega
  | cons _ _ _ _ ih => omega
theorem eqT_struct {P : Program} {d n : Nat} {t : TypeId} {fs : Array Field} (hu : P.underlying t = some (.struct fs)) (h1 : isAggT P t = some true) (h3 : szOf P t = some n) (hs : P.stoodInHeld t = false) (hf : FieldsOK P d fs.toList 0 n) : EqT P (d + 1) t n := by
  refine ⟨true, h1, (fun e => by cases e), h3, fun l r hl hr w => ?_⟩
  show (Op.equalIn (d + 1) t (agI l) (agI r)).run P w = _
  have key : ∀ (fs : List Field) (off : Nat), FieldsOK P d fs off n → (forIn (m := Sem) fs ((none, ()) : Option Bool × Unit) fun f __s =>
                if f.name ≠ "_" then do
                  let __do_lift ← Go.part f.type (l.map fun n => Value.int .i64 n).toArray f.offset
                  let __do_lift_1 ← Go.part f.type (r.map fun n => Value.int .i64 n).toArray f.offset
                  let __do_lift ← Op.equalIn d f.type __do_lift __do_lift_1
                  if (!__do_lift) = true then Pure.pure (ForInStep.done (some false, ()))
                    else Pure.pure (ForInStep.yield (none, ()))
                else Pure.pure (ForInStep.yield (none, ()))).run P w = .ok (match eqL (l.drop off) (r.drop off) with | true => (none, ()) | false => (some false, ())) w := by
    intro fs
    induction fs with
    | nil =>
      intro off h
      cases h
      rw [List.forIn_nil, List.drop_eq_nil_of_le (by omega), List.drop_eq_nil_of_le (by omega)]; rfl
    | cons f fs ih =>
      intro off h
      cases h with
      | @cons _ _ _ m _ g1 g2 g3 g =>
        obtain ⟨ag, a1, a2, a3, a4⟩ := g3
        have hle := g.le
        rw [List.forIn_cons, Sem.run_bind, if_pos g1, g2, Sem.run_bind, part_mkV a1 a2 a3 (by omega) w]
        show Result.andThen (Sem.run P (do
                  let __do_lift_1 ← Go.part f.type (r.map fun n => Value.int .i64 n).toArray off
                  let __do_lift ← Op.equalIn d f.type (mkV ag ((l.drop off).take m)) __do_lift_1
                  if (!__do_lift) = true then Pure.pure (ForInStep.done (some false, ()))
                    else Pure.pure (ForInStep.yield (none, ()))) w) _ = _
        rw [Sem.run_bind, part_mkV a1 a2 a3 (by omega) w]
        show Result.andThen (Sem.run P (do
                  let __do_lift ← Op.equalIn d f.type (mkV ag ((l.drop off).take m)) (mkV ag ((r.drop off).take m))
                  if (!__do_lift) = true then Pure.pure (ForInStep.done (some false, ()))
                    else Pure.pure (ForInStep.yield (none, ()))) w) _ = _
        rw [Sem.run_bind, a4 _ _ (by rw [List.length_take, List.length_drop]; omega) (by rw [List.length_take, List.length_drop]; omega) w]
        rw [eqL_split m (l.drop off) (r.drop off) (by rw [List.length_drop, List.length_drop]; omega), List.drop_drop, List.drop_drop]
        cases hE : eqL ((l.drop off).take m) ((r.drop off).take m) with
        | false => rfl
        | true => exact ih (off + m) g
  rw [Op.equalIn.eq_2, Sem.run_bind, underlying_run hu]
  have k0 := key fs.toList 0 hf
  rw [Array.forIn_toList] at k0
  unfold agI
  simp only [Result.andThen_ok]
  rw [Sem.run_bind]
  show Sem.run P (if P.stoodInHeld t = true then _ else _) w = _
  rw [hs, if_neg (by decide)]
  rw [Sem.run_bind, k0, List.drop_zero, List.drop_zero]
  cases eqL l r <;> rfl
theorem eqT_array {P : Program} {d n m len : Nat} {t e : TypeId} (hu : P.underlying t = some (.array len e)) (h1 : isAggT P t = some true) (h3 : szOf P t = some n) (hn : n = len * m) (he : EqT P d e m) : EqT P (d + 1) t n := by
  refine ⟨true, h1, (fun e => by cases e), h3, fun l r hl hr w => ?_⟩
  show (Op.equalIn (d + 1) t (agI l) (agI r)).run P w = _
  obtain ⟨ag, a1, a2, a3, a4⟩ := he
  have key : ∀ (k i : Nat), i + k = len → (forIn (m := Sem) (List.range' i k 1) ((none, ()) : Option Bool × Unit) fun i __s => do
                  let __do_lift ← Go.part e (l.map fun n => Value.int .i64 n).toArray (i * m)
                  let __do_lift_1 ← Go.part e (r.map fun n => Value.int .i64 n).toArray (i * m)
                  let __do_lift ← Op.equalIn d e __do_lift __do_lift_1
                  if (!__do_lift) = true then Pure.pure (ForInStep.done (some false, ()))
                    else Pure.pure (ForInStep.yield (none, ()))).run P w = .ok (match eqL (l.drop (i * m)) (r.drop (i * m)) with | true => (none, ()) | false => (some false, ())) w := by
    intro k
    induction k with
    | zero =>
      intro i h
      obtain rfl : i = len := by omega
      rw [List.range'_zero, List.forIn_nil, List.drop_eq_nil_of_le (by omega), List.drop_eq_nil_of_le (by omega)]; rfl
    | succ k ih =>
      intro i h
      have hle : (i + 1) * m ≤ len * m := Nat.mul_le_mul_right m (by omega)
      rw [Nat.add_mul, Nat.one_mul] at hle
      rw [List.range'_succ, List.forIn_cons, Sem.run_bind, Sem.run_bind, part_mkV a1 a2 a3 (by omega) w]
      show Result.andThen (Sem.run P (do
                  let __do_lift_1 ← Go.part e (r.map fun n => Value.int .i64 n).toArray (i * m)
                  let __do_lift ← Op.equalIn d e (mkV ag ((l.drop (i * m)).take m)) __do_lift_1
                  if (!__do_lift) = true then Pure.pure (ForInStep.done (some false, ()))
                    else Pure.pure (ForInStep.yield (none, ()))) w) _ = _
      rw [Sem.run_bind, part_mkV a1 a2 a3 (by omega) w]
      show Result.andThen (Sem.run P (do
                  let __do_lift ← Op.equalIn d e (mkV ag ((l.drop (i * m)).take m)) (mkV ag ((r.drop (i * m)).take m))
                  if (!__do_lift) = true then Pure.pure (ForInStep.done (some false, ()))
                    else Pure.pure (ForInStep.yield (none, ()))) w) _ = _
      rw [Sem.run_bind, a4 _ _ (by rw [List.length_take, List.length_drop]; omega) (by rw [List.length_take, List.length_drop]; omega) w]
      rw [eqL_split m (l.drop (i * m)) (r.drop (i * m)) (by rw [List.length_drop, List.length_drop]; omega), List.drop_drop, List.drop_drop]
      have hi := ih (i + 1) (by omega)
      rw [Nat.add_mul, Nat.one_mul] at hi
      cases hE : eqL ((l.drop (i * m)).take m) ((r.drop (i * m)).take m) with
      | false => rfl
      | true => exact hi
  rw [Op.equalIn.eq_2, Sem.run_bind, underlying_run hu]
  have k0 := key len 0 (by omega)
  unfold agI
  simp only [Result.andThen_ok]
  have hsz : ∃ s, szOf P e = some s := ⟨m, a3⟩
  rw [Sem.run_bind, sizeOf_run a3]
  simp only [Result.andThen_ok]
  rw [Std.Legacy.Range.forIn_eq_forIn_range', Sem.run_bind]
  have hr : List.range' ([:len] : Std.Legacy.Range).start ([:len] : Std.Legacy.Range).size ([:len] : Std.Legacy.Range).step = List.range' 0 len 1 := by
    simp [Std.Legacy.Range.size]
  rw [hr, k0, Nat.zero_mul, List.drop_zero, List.drop_zero]
  cases eqL l r <;> rfl
theorem eqOK_of {P : Program} {t : TypeId} {n : Nat} (hg : P.eqGuardType P.depth t = false) (h1 : isAggT P t = some true) (h : EqT P 10000 t n) : EqOK P t n := by
  obtain ⟨ag, a1, a2, a3, a4⟩ := h
  rw [h1] at a1; injection a1 with a1; subst a1
  exact ⟨hg, a4⟩
end Go.Proofs.Yteicfenmfnpmgaa.Vv

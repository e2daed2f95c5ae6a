import Derived.Test.YtfeedchjdnedjaaEv11
import Derived.IntWalk
set_option linter.unusedVariables false
set_option linter.unusedSimpArgs false
namespace Go.Proofs.Ytfeedchjdnedjaa.Ev
open Go
section
variable {P : Program} {base fl : Nat}
theorem Qqz {t : TypeId} {z : Value} (h : Qfo P t = some z) : ∃ i, P.info? t = some i /\ i.zero = some z /\ ground z = true := by
 unfold Qfo at h
 split at h
 ·rename_i i hi
  split at h
  ·rename_i z' hz
   split at h
   ·rename_i hg
    injection h with h; subst h
    exact ⟨i, hi, hz, hg⟩
   ·cases h
  ·cases h
 ·cases h
theorem Qk5 {t : TypeId} {z : Value} (h : Qfo P t = some z) : Qeg P t = true := by
 obtain ⟨i, h1, h2, h3⟩ := Qqz h
 unfold Qeg; rw [h1]; simp only [h2, h3]
theorem Qmt {t : TypeId} {z : Value} (h : Qfo P t = some z) (w : World) : (Instr.alloc t true (.tuple #[])).run P w = .ok (.pointer (some ⟨w.heap.size, 0, none⟩)) (w.alloc (.cells z.cells t)) := by
 unfold Instr.alloc
 rw [Sem.run_bind, (Qes h w).1]; rfl
theorem Qsv {t : TypeId} {v : Value} (w : World) : (Instr.box t v).run P w = .ok (.pointer (some ⟨w.heap.size, 0, none⟩)) (w.alloc (.cells v.cells t)) := rfl
def Qfu (P : Program) : List Field -> Option (List (Nat × Nat))
 | [] => some []
 | f :: fs => match szOf P f.type, Qfu P fs with
   | some s, some r => some ((f.offset, s) :: r)
   | _, _ => none
theorem Qix : ∀ (fs : List Field) (r : List (Nat × Nat)), Qfu P fs = some r -> ∀ w, (fs.mapM (fun f => (do pure (f.offset, <- Go.sizeOf f.type) : Sem (Nat × Nat)))).run P w = .ok r w
 | [], r, h, w => by simp only [Qfu, Option.some.injEq] at h; subst h; rfl
 | f :: fs, r, h, w => by
   simp only [Qfu] at h
   split at h
   ·rename_i s r' hs hr
    injection h with h
    subst h
    rw [List.mapM_cons, Sem.run_bind, Sem.run_bind, Xn hs]
    simp only [Result.andThen_ok, Sem.run_pure]
    rw [Sem.run_bind, Qix fs r' hr w]; rfl
   ·cases h
def placeOf (P : Program) (t : TypeId) : Option (List (Nat × Nat) ⊕ Nat) := match P.underlying t with
 | some (.struct fs) => (Qfu P fs.toList).map .inl
 | some (.array _ e) => (szOf P e).map .inr
 | _ => none
def Ql7 (P : Program) (t : TypeId) (ps : List (Nat × Value)) : Option Value :=
 match Qfo P t, placeOf P t with
 | some z, some (.inl pl) => (Qiy (fun i => getL i pl) z.cells.toList ps).map fun l => .agg ⟨l⟩
 | some z, some (.inr s) => (Qiy (fun i => some (i * s, s)) z.cells.toList ps).map fun l => .agg ⟨l⟩
 | _, _ => none
theorem Qj3 {t : TypeId} {ps : Array (Nat × Value)} {r : Value} (h : Ql7 P t ps.toList = some r) (w : World) : (Instr.build t ps).run P w = .ok r w /\ Qeg P t = true := by
 unfold Ql7 at h
 split at h
 ·rename_i z pl hz hp
  refine ⟨?_, Qk5 hz⟩
  unfold placeOf at hp
  split at hp
  ·rename_i fs hu
   cases hpl : Qfu P fs.toList with
   | none => rw [hpl] at hp; cases hp
   | some pl' =>
     rw [hpl] at hp
     simp only [Option.map_some, Option.some.injEq, Sum.inl.injEq] at hp
     subst hp
     cases hf : Qiy (fun i => getL i pl') z.cells.toList ps.toList with
     | none => rw [hf] at h; cases h
     | some l =>
       rw [hf] at h
       simp only [Option.map_some, Option.some.injEq] at h
       subst h
       unfold Instr.build
       rw [Sem.run_bind, (Qes hz w).1]
       simp only [Result.andThen_ok]
       rw [Sem.run_bind, Qh hu]
       simp only [Result.andThen_ok]
       rw [Sem.run_bind, Array.mapM_eq_mapM_toList, map_eq_pure_bind, Sem.run_bind, Qix _ _ hpl]
       simp only [Result.andThen_ok, Sem.run_pure]
       have := Qh1 _ _ _ _ hf
       have e : (fun i => getL i pl') = (fun x => (pl'.toArray)[x]?) := by funext i; rw [Jj]; simp
       rw [e] at this
       rw [this]; rfl
  ·cases hs : szOf P _ with
   | none => rw [hs] at hp; cases hp
   | some s => rw [hs] at hp; cases hp
  ·cases hp
 ·rename_i z s hz hp
  refine ⟨?_, Qk5 hz⟩
  unfold placeOf at hp
  split at hp
  ·rename_i fs hu
   cases hpl : Qfu P fs.toList with
   | none => rw [hpl] at hp; cases hp
   | some pl' => rw [hpl] at hp; cases hp
  ·rename_i N e hu
   cases hs : szOf P e with
   | none => rw [hs] at hp; cases hp
   | some s' =>
     rw [hs] at hp
     simp only [Option.map_some, Option.some.injEq, Sum.inr.injEq] at hp
     subst hp
     cases hf : Qiy (fun i => some (i * s', s')) z.cells.toList ps.toList with
     | none => rw [hf] at h; cases h
     | some l =>
       rw [hf] at h
       simp only [Option.map_some, Option.some.injEq] at h
       subst h
       unfold Instr.build
       rw [Sem.run_bind, (Qes hz w).1]
       simp only [Result.andThen_ok]
       rw [Sem.run_bind, Qh hu]
       simp only [Result.andThen_ok]
       rw [Sem.run_bind, Xn hs]
       simp only [Result.andThen_ok]
       have := Qh1 _ _ _ _ hf
       rw [show (⟨z.cells.toList⟩ : Array Value) = z.cells from rfl] at this
       rw [this]; rfl
  ·cases hp
 ·cases h
def Qcf (P : Program) (e : TypeId) (k : Nat) : Option (List Value) :=
 match P.info? e with
 | some i => match i.zero with
   | some z => bif z.cells.all Zn then some ((List.range k).map fun j => z.cells[j % z.cells.size]!) else none
   | none => none
 | none => none
theorem Qeo {e : TypeId} {k : Nat} {l : List Value} (h : Qcf P e k = some l) : ∃ z, (∀ w, (Go.zeroValue e).run P w = .ok z w) /\ zeroCell P e = true /\ (Array.range k).map (z.cells[·% z.cells.size]!) = ⟨l⟩ := by
 unfold Qcf at h
 split at h
 case h_2 => cases h
 rename_i i hi
 split at h
 case h_2 => cases h
 rename_i z hz
 obtain ⟨hg, h⟩ := Qe h
 injection h with h
 refine ⟨z, fun w => ?_, ?_, ?_⟩
 ·unfold Go.zeroValue Go.typeInfo; simp [hi, hz]
 ·unfold zeroCell; rw [hi]; simp only [hz]; exact hg
 ·apply Array.ext'
  rw [Array.toList_map, Array.toList_range, <- h]
def Qa6 (P : Program) (N : Nat) (t : TypeId) (n : Nat) (ps : List (Nat × Value)) : Option (Value × Obj) :=
 match P.underlying t with
 | some (.slice e) => match szOf P e with
   | some s => bif Nat.ble (n * s) 16777216 && Nat.blt n big then
    match Qcf P e (n * s) with
    | some zl => match Qiy (fun i => some (i * s, s)) zl ps with
      | some l => some (.slice (some ⟨N, 0, none⟩) n n, .cells ⟨l⟩ e)
      | none => none
    | none => none
     else none
   | none => none
 | _ => none
theorem Qc1 {w : World} {t : TypeId} {n : Nat} {ps : Array (Nat × Value)} {v : Value} {o : Obj} (h : Qa6 P w.heap.size t n ps.toList = some (v, o)) :
 (Instr.buildSlice t n ps).run P w = .ok v (w.alloc o) /\ Qag P t = true /\ n < big := by
 unfold Qa6 at h
 split at h
 case h_2 => cases h
 rename_i e hu
 split at h
 case h_2 => cases h
 rename_i s hs
 obtain ⟨hc, h⟩ := Qe h
 simp only [Bool.and_eq_true] at hc
 have hc1 := Nat.le_of_ble_eq_true hc.1
 have hc2 : n < big := by have := hc.2; unfold Nat.blt at this; exact Nat.le_of_ble_eq_true this
 split at h
 case h_2 => cases h
 rename_i zl hzl
 split at h
 case h_2 => cases h
 rename_i l hl
 injection h with h
 injection h with h1 h2
 subst h1; subst h2
 obtain ⟨z, hz1, hz2, hz3⟩ := Qeo hzl
 refine ⟨?_, by unfold Qag; rw [hu]; exact hz2, hc2⟩
 have hfill := Qh1 _ _ _ _ hl
 unfold Instr.buildSlice
 rw [Sem.run_bind, Qh hu]
 simp only [Result.andThen_ok]
 rw [Sem.run_bind, Xn hs]
 simp only [Result.andThen_ok]
 rw [if_neg (by omega)]
 by_cases h0 : n * s = 0
 ·rw [if_pos h0]
  simp only [pure_bind]
  have e0 : zl = [] := by
   rw [h0] at hz3
   have := congrArg Array.toList hz3
   simpa using this.symm
  subst e0
  rw [h0]
  have e1 : (Array.range 0).map (fun x => (#[] : Array Value)[x % (#[] : Array Value).size]!) = ⟨[]⟩ := by
   apply Array.ext'; simp
  rw [e1, hfill]; rfl
 ·rw [if_neg h0, Sem.run_bind, hz1]
  simp only [Result.andThen_ok, pure_bind]
  rw [hz3, hfill]; rfl
def Qq0 (k : IntKind) (n : Int) : Int :=
 match k with
 | .i64 => match n with
   | .ofNat m => bif Nat.blt m 9223372036854775808 then .ofNat m else IntKind.i64.wrap (.ofNat m)
   | .negSucc m => bif Nat.blt m 9223372036854775808 then .negSucc m else IntKind.i64.wrap (.negSucc m)
 | k => k.wrap n
theorem Qk6 (k : IntKind) (n : Int) : Qq0 k n = k.wrap n := by
 have two : ∀ m : Nat, Nat.blt m 9223372036854775808 = true -> (m : Int) < 9223372036854775808 := fun m h => by
  have : m < 9223372036854775808 := Nat.le_of_ble_eq_true h
  omega
 unfold Qq0
 split
 ·split
  ·rename_i m
   cases h : Nat.blt m 9223372036854775808 with
   | false => rw [cond_false]
   | true =>
     rw [cond_true]
     have := two m h
     exact (IntWalk.i64_in (.ofNat m) ⟨by simp only [Int.ofNat_eq_natCast]; omega, by simp only [Int.ofNat_eq_natCast]; omega⟩).symm
  ·rename_i m
   cases h : Nat.blt m 9223372036854775808 with
   | false => rw [cond_false]
   | true =>
     rw [cond_true]
     have := two m h
     exact (IntWalk.i64_in (.negSucc m) ⟨by rw [Int.negSucc_eq]; omega, by rw [Int.negSucc_eq]; omega⟩).symm
 ·rfl
def fInt (op : BinOp) (k : IntKind) (a b : Int) : Option Value :=
 match op with
 | .add => some (.int k (Qq0 k (a + b)))
 | .sub => some (.int k (Qq0 k (a - b)))
 | .mul => some (.int k (Qq0 k (a * b)))
 | .quo => if b = 0 then none else some (.int k (Qq0 k (a.tdiv b)))
 | .rem => if b = 0 then none else some (.int k (a.tmod b))
 | .eql => some (.bool (a == b))
 | .neq => some (.bool (a != b))
 | .lss => some (.bool (a < b))
 | .leq => some (.bool (a <= b))
 | .gtr => some (.bool (a > b))
 | .geq => some (.bool (a >= b))
 | _ => none
theorem Qpg {op : BinOp} {k : IntKind} {a b : Int} {v : Value} (h : fInt op k a b = some v) (t : TypeId) (ox oy : Operand) (w : World) :
 (do eqGuard op t ox oy (.int k a) (.int k b); binOp op t (.int k a) (.int k b) : Sem Value).run P w = .ok v w /\ ground v = true := by
 have hg : Go.eqGuard op t ox oy (.int k a) (.int k b) = Pure.pure () := by
  unfold Go.eqGuard
  split <;> rfl
 rw [hg, pure_bind]
 unfold fInt at h
 unfold Go.binOp
 cases op <;> simp only at h <;> (try split at h) <;> first
  | (cases h; done)
  | (injection h with h; subst h; simp [Op.intArith, Op.intDiv, Op.intCmp, ground, Zn, Qk6, *])
def fBin (P : Program) (op : BinOp) (t : TypeId) (ox oy : Operand) (x y : Value) : Option Next :=
 match x, y with
 | .int k a, .int k' b => if k = k' then
  match fInt op k a b with
  | some v => some (.value v)
  | none => (Qg3 P op t ox oy x y { heap := #[], tape := fun _ _ => 0, drawn := 0, os := default, output := #[] }).map (·.1)
   else none
 | x, y => (Qg3 P op t ox oy x y { heap := #[], tape := fun _ _ => 0, drawn := 0, os := default, output := #[] }).map (·.1)
theorem Qh2 {s : Sem Value} {w w' : World} {n : Next} {w1 : World} (h : gRun P s w = some (n, w1)) (hs : Free P s) : gRun P s w' = some (n, w') := by
 unfold gRun at h ⊢
 cases hs1 : s.run P w with
 | halt x y => rw [hs1] at h; cases h
 | ok a b =>
   rw [hs1] at h
   obtain ⟨_, e⟩ := hs.run (w1 := w') hs1
   rw [e]
   dsimp only at h ⊢
   split at h
   ·rename_i hg
    injection h with h; injection h with h1 _; subst h1; rw [if_pos hg]
   ·cases h
theorem Qsw {op : BinOp} {t : TypeId} {ox oy : Operand} {x y : Value} {w w' w1 : World} {n : Next} (h : Qg3 P op t ox oy x y w = some (n, w1)) : Qg3 P op t ox oy x y w' = some (n, w') := by
 unfold Qg3 at h ⊢
 split at h
 ·rename_i hp
  obtain ⟨gx, gy⟩ := Qfk.spec hp
  rw [if_pos hp]
  exact Qh2 h (.bind (.eqGuard op t ox oy gx gy) fun _ => .binOp op t hp)
 ·rename_i hp
  rw [if_neg hp]
  split at h
  ·injection h with h; injection h with h1 _; subst h1; rfl
  ·injection h with h; injection h with h1 _; subst h1; rfl
  ·cases h
theorem Qxj {op : BinOp} {t : TypeId} {ox oy : Operand} {x y : Value} {w : World} {n : Next} (h : fBin P op t ox oy x y = some n) : Qg3 P op t ox oy x y w = some (n, w) := by
 have back : ∀ {x y : Value}, (Qg3 P op t ox oy x y { heap := #[], tape := fun _ _ => 0, drawn := 0, os := default, output := #[] }).map (·.1) = some n -> Qg3 P op t ox oy x y w = some (n, w) := by
  intro x y h
  cases he : Qg3 P op t ox oy x y { heap := #[], tape := fun _ _ => 0, drawn := 0, os := default, output := #[] } with
  | none => rw [he] at h; cases h
  | some r =>
    obtain ⟨n', w'⟩ := r
    rw [he] at h
    simp only [Option.map_some, Option.some.injEq] at h
    subst h
    exact Qsw he
 unfold fBin at h
 split at h
 ·rename_i k a k' b
  split at h
  ·rename_i hk
   subst hk
   split at h
   ·rename_i v hv
    injection h with h
    subst h
    obtain ⟨h1, h2⟩ := Qpg (P := P) hv t ox oy w
    unfold Qg3
    rw [if_pos (show Qfk (.int k a) (.int k b) = true from rfl)]
    unfold gRun
    rw [h1]
    simp only [h2, if_true]
   ·exact back h
  ·cases h
 ·exact back h
end
end Go.Proofs.Ytfeedchjdnedjaa.Ev

import Derived.Test.YtjomicmhnbmhoaaEa
import Derived.Laws.Cells
import Derived.IntWalk
import Derived.RangeFuncLeaves
import Derived.Below
import Derived.TacticsIn
section
set_option linter.unusedVariables false
set_option linter.unusedSimpArgs false
namespace Go.Proofs.Ytjomicmhnbmhoaa.Ev
open Go
section
variable {P : Program} {base fl : Nat} {ρ : Ren}
def Qsn : Operand -> Bool
 | .const c => ground c
 | .global _ => false
 | _ => true
def Qyj (P : Program) (s : TypeId) (f : Nat) : Bool := match P.underlying s with
 | some (.struct fs) => match fs[f]? with
   | some fd => szOf P fd.type != some 0
   | none => false
 | _ => false
end
end Go.Proofs.Ytjomicmhnbmhoaa.Ev
end

section
set_option linter.unusedVariables false
set_option linter.unusedSimpArgs false
namespace Go.Proofs.Ytjomicmhnbmhoaa.Ev
open Go
inductive Upd where
 | same
 | put (b : Nat) (o : Obj)
 | new (o : Obj)
 | killNew (b : Nat) (o : Obj)
def World.upd (w : World) : Upd -> World
 | .same => w
 | .put b o => { w with heap := w.heap.setIfInBounds b o }
 | .new o => w.alloc o
 | .killNew b o => (World.kill w b).alloc o
abbrev Mem := Nat -> Option Obj
def Qf9 {α : Type} : Nat -> List α -> Option (List α)
 | 0, _ => some []
 | n + 1, a :: l => match Qf9 n l with
   | some r => some (a :: r)
   | none => none
 | _ + 1, [] => none
def Qgg {α : Type} : Nat -> List α -> List α
 | 0, l => l
 | _ + 1, [] => []
 | n + 1, _ :: l => Qgg n l
def putL {α : Type} : List α -> List α -> Option (List α)
 | l, [] => some l
 | [], _ :: _ => none
 | _ :: l, x :: xs => match putL l xs with
   | some r => some (x :: r)
   | none => none
def setL {α : Type} : Nat -> List α -> List α -> Option (List α)
 | 0, l, xs => putL l xs
 | _ + 1, [], _ => none
 | n + 1, a :: l, xs => match setL n l xs with
   | some r => some (a :: r)
   | none => none
def getL {α : Type} : Nat -> List α -> Option α
 | _, [] => none
 | 0, a :: _ => some a
 | n + 1, _ :: l => getL n l
theorem Qbs {α : Type} : ∀ (n : Nat) (l : List α), getL n l = l[n]?
 | n, [] => by cases n <;> simp [getL]
 | 0, a :: l => by simp [getL]
 | n + 1, a :: l => by simp [getL, Qbs n l]
theorem Qln {α : Type} : ∀ (n : Nat) (l r : List α), Qf9 n l = some r -> r = l.take n /\ r.length = n
 | 0, l, r, h => by simp only [Qf9, Option.some.injEq] at h; subst h; simp
 | n + 1, [], r, h => by simp [Qf9] at h
 | n + 1, a :: l, r, h => by
   simp only [Qf9] at h
   split at h
   ·rename_i r' hr
    injection h with h
    obtain ⟨h1, h2⟩ := Qln n l r' hr
    subst h
    exact ⟨by rw [h1]; rfl, by rw [List.length_cons, h2]⟩
   ·cases h
theorem Qfz {α : Type} : ∀ (n : Nat) (l : List α), Qgg n l = l.drop n
 | 0, l => rfl
 | n + 1, [] => rfl
 | n + 1, a :: l => by simp [Qgg, Qfz n l]
theorem Qyx {α : Type} : ∀ (l xs r : List α), putL l xs = some r -> r = xs ++ l.drop xs.length /\ xs.length <= l.length
 | l, [], r, h => by cases l <;> (simp only [putL, Option.some.injEq] at h; subst h; simp)
 | [], x :: xs, r, h => by simp [putL] at h
 | a :: l, x :: xs, r, h => by
   simp only [putL] at h
   split at h
   ·rename_i r' hr
    injection h with h
    obtain ⟨h1, h2⟩ := Qyx l xs r' hr
    subst h
    exact ⟨by rw [h1]; simp, by simpa using h2⟩
   ·cases h
theorem Qo3 {α : Type} : ∀ (n : Nat) (l xs r : List α), setL n l xs = some r -> r = l.take n ++ xs ++ l.drop (n + xs.length) /\ n + xs.length <= l.length
 | 0, l, xs, r, h => by
   obtain ⟨h1, h2⟩ := Qyx l xs r (by simpa [setL] using h)
   exact ⟨by simpa using h1, by simpa using h2⟩
 | n + 1, [], xs, r, h => by simp [setL] at h
 | n + 1, a :: l, xs, r, h => by
   simp only [setL] at h
   split at h
   ·rename_i r' hr
    injection h with h
    obtain ⟨h1, h2⟩ := Qo3 n l xs r' hr
    subst h
    refine ⟨?_, by simp; omega⟩
    rw [h1, show n + 1 + xs.length = (n + xs.length) + 1 by omega]
    simp
   ·cases h
section
variable {P : Program} {base fl : Nat}
def Qgw (P : Program) (t : TypeId) : Option Bool := match P.underlying t with
 | some (.struct _) | some (.array _ _) => some true
 | some _ => some false
 | none => none
theorem Qmx {t : TypeId} {b : Bool} (h : Qgw P t = some b) (w : World) : (Go.isAgg t).run P w = .ok b w := by
 unfold Qgw at h
 unfold Go.isAgg
 cases hu : P.underlying t with
 | none => rw [hu] at h; cases h
 | some d =>
   rw [Sem.run_bind, Qq hu]
   rw [hu] at h
   cases d <;> (simp only [Option.some.injEq] at h; subst h; rfl)
def Qw9 (P : Program) (mem : Mem) (t : TypeId) (v : Value) : Option Value :=
 match v with
 | .pointer (some ⟨b, o, none⟩) => match mem b with
   | some (.cells c _ _) => match Qgw P t with
     | some true => match szOf P t with
       | some n => match Qf9 n (Qgg o c.toList) with
         | some l => some (.agg ⟨l⟩)
         | none => none
       | none => none
     | some false => getL o c.toList
     | none => none
   | _ => none
 | _ => none
theorem Qo4 {wA : World} {t : TypeId} {v r : Value} (h : Qw9 P (fun b => wA.heap[b]?) t v = some r) : (Instr.loadAt t v).run P wA = .ok r wA := by
 unfold Qw9 at h
 split at h
 case h_2 => cases h
 rename_i b o
 split at h
 case h_2 => cases h
 rename_i c ct fr hb
 have hcell : ∀ k u, c.toList[k]? = some u -> wA.cell? ⟨b, k, none⟩ = some u := fun k u hu => Qq8 hb (by simpa using hu)
 show (Go.loadVar t ⟨b, o, none⟩).run P wA = _
 unfold Go.loadVar
 split at h
 ·rename_i hag
  rw [Sem.run_bind, Qmx hag]
  simp only [Result.andThen_ok, if_true]
  split at h
  case h_2 => cases h
  rename_i n hn
  split at h
  case h_2 => cases h
  rename_i l hl
  injection h with h
  subst h
  obtain ⟨h1, h2⟩ := Qln _ _ _ hl
  rw [Sem.run_bind, Qae hn]
  simp only [Result.andThen_ok]
  have := run_loadCells_list (P := P) wA ⟨b, o, none⟩ l (fun j u hu => by
   rw [Qca]
   refine hcell _ _ ?_
   rw [h1, Qfz, List.getElem?_take] at hu
   split at hu
   ·rw [List.getElem?_drop] at hu; exact hu
   ·cases hu)
  rw [h2] at this
  rw [Sem.run_bind, this]; rfl
 ·rename_i hag
  rw [Sem.run_bind, Qmx hag]
  simp only [Result.andThen_ok, Bool.false_eq_true, if_false]
  rw [Qbs] at h
  rw [run_load, hcell _ _ h]
 ·cases h
theorem Qnq {w : World} {b : Nat} {c new : Array Value} {t : TypeId} {fr : Nat × Nat} (h : w.heap[b]? = some (.cells c t fr)) : w.setRow b new = World.upd w (.put b (.cells new t fr)) := by
 unfold World.upd World.setRow
 congr 1
 refine Array.ext_getElem? fun k => ?_
 rw [heap_set _ h k, Array.getElem?_modify]
 by_cases e : b = k
 ·subst e; simp [h]
 ·rw [if_neg e, if_neg (fun h => e h.symm)]
def Qve (P : Program) (fl : Nat) (mem : Mem) (t : TypeId) (v x : Value) : Option Upd :=
 match v with
 | .pointer (some ⟨b, o, none⟩) =>
   bif Nat.ble fl b then
    match mem b with
    | some (.cells c ct (0, 0)) => match szOf P t with
      | some n =>
        let xs := x.cells.toList
        bif Nat.beq xs.length n && xs.all (·.oneCell') then
         match setL o c.toList xs with
         | some l => some (.put b (.cells ⟨l⟩ ct (0, 0)))
         | none => none
        else none
      | none => none
    | _ => none
   else none
 | _ => none
theorem Qm {α : Type} {c : Bool} {x : Option α} {r : α} (h : (bif c then x else none) = some r) : c = true /\ x = some r := by
 cases c
 ·cases h
 ·exact ⟨rfl, h⟩
theorem Qxa {wA : World} {t : TypeId} {v x : Value} {u : Upd} (h : Qve P fl (fun b => wA.heap[b]?) t v x = some u) : (Instr.storeAt t v x).run P wA = .ok () (World.upd wA u) /\ ∃ a, v = .pointer (some a) /\ fl <= a.block := by
 unfold Qve at h
 split at h
 case h_2 => cases h
 rename_i b o
 obtain ⟨hfl, h⟩ := Qm h
 split at h
 case h_2 => cases h
 rename_i c ct hb
 split at h
 case h_2 => cases h
 rename_i n hn
 obtain ⟨hc, h⟩ := Qm h
 simp only [Bool.and_eq_true, Nat.beq_eq] at hc
 split at h
 case h_2 => cases h
 rename_i l hl
 injection h with h
 subst h
 obtain ⟨h1, h2⟩ := Qo3 _ _ _ _ hl
 refine ⟨?_, ⟨b, o, none⟩, rfl, Nat.le_of_ble_eq_true hfl⟩
 show (Go.storeVar t ⟨b, o, none⟩ x).run P wA = _
 unfold Go.storeVar
 rw [Sem.run_bind, Qae hn]
 simp only [Result.andThen_ok]
 rw [if_neg (by rw [<- hc.1]; simp)]
 have := run_storeCells_at P b o ct x.cells.toList 0 c wA hb (by simpa using h2) (fun v hv => by simpa using (List.all_eq_true.1 hc.2) v hv)
 simp only [Nat.add_zero] at this
 rw [this, Qnq hb, h1]
def Qoo (place : Nat -> Option (Nat × Nat)) (cells : List Value) : List (Nat × Value) -> Option (List Value)
 | [] => some cells
 | (i, v) :: rest => match place i with
   | none => none
   | some (off, size) =>
     let xs := v.cells.toList
     bif Nat.beq xs.length size then
      match setL off cells xs with
      | some cells' => Qoo place cells' rest
      | none => none
     else none
theorem Qqg (off : Nat) : ∀ (xs : List Value) (j : Nat) (cells : Array Value), off + j + xs.length <= cells.size ->
 ((xs.zipIdx j).foldl (fun cs (c, j) => cs.setIfInBounds (off + j) c) cells).toList = cells.toList.take (off + j) ++ xs ++ cells.toList.drop (off + j + xs.length)
 | [], j, cells, h => by simp
 | x :: xs, j, cells, h => by
   simp only [List.zipIdx_cons, List.foldl_cons, List.length_cons] at h ⊢
   rw [Qqg off xs (j + 1) _ (by simp; omega)]
   have hlt : off + j < cells.toList.length := by rw [Array.length_toList]; omega
   rw [Array.toList_setIfInBounds]
   have e1 : (cells.toList.set (off + j) x).take (off + (j + 1)) = cells.toList.take (off + j) ++ [x] := by
    rw [show off + (j + 1) = off + j + 1 by omega, List.take_add_one, List.getElem?_set, if_pos rfl, if_pos hlt, List.take_set_of_le (Nat.le_refl _)]
    rfl
   have e2 : (cells.toList.set (off + j) x).drop (off + (j + 1) + xs.length) = cells.toList.drop (off + j + (xs.length + 1)) := by
    rw [List.drop_set_of_lt (by omega)]
    congr 1; omega
   rw [e1, e2]
   simp
theorem Qof (place : Nat -> Option (Nat × Nat)) : ∀ (ps : List (Nat × Value)) (cells : List Value) (r : List Value), Qoo place cells ps = some r -> Instr.fill place ⟨cells⟩ ps = some ⟨r⟩
 | [], cells, r, h => by simp only [Qoo, Option.some.injEq] at h; subst h; rfl
 | (i, v) :: rest, cells, r, h => by
   simp only [Qoo] at h
   simp only [Instr.fill]
   cases hp : place i with
   | none => rw [hp] at h; cases h
   | some y =>
     obtain ⟨off, size⟩ := y
     rw [hp] at h
     dsimp only at h ⊢
     obtain ⟨hc, h⟩ := Qm h
     have hc' : v.cells.size = size := by simpa using hc
     cases hs : setL off cells v.cells.toList with
     | none => rw [hs] at h; cases h
     | some cells' =>
       rw [hs] at h
       obtain ⟨h1, h2⟩ := Qo3 _ _ _ _ hs
       rw [Array.length_toList] at h2
       have hno : ¬ ((decide (v.cells.size ≠ size) || decide (off + v.cells.size > (⟨cells⟩ : Array Value).size)) = true) := by
        simp [hc']; rw [<- hc']; exact h2
       rw [if_neg hno]
       have : (v.cells.zipIdx.foldl (fun cs (c, j) => cs.setIfInBounds (off + j) c) (⟨cells⟩ : Array Value)) = ⟨cells'⟩ := by
        apply Array.ext'
        rw [<- Array.foldl_toList, Array.toList_zipIdx]
        have := Qqg off v.cells.toList 0 ⟨cells⟩ (by simpa using h2)
        rw [this, h1]
        simp
       rw [this]
       exact Qof place rest cells' r h
end
end Go.Proofs.Ytjomicmhnbmhoaa.Ev
end

section
set_option linter.unusedVariables false
set_option linter.unusedSimpArgs false
namespace Go.Proofs.Ytjomicmhnbmhoaa.Ev
open Go
section
variable {P : Program} {base fl : Nat}
theorem Qxq {t : TypeId} {z : Value} (h : Qmo P t = some z) : ∃ i, P.info? t = some i /\ i.zero = some z /\ ground z = true := by
 unfold Qmo at h
 split at h
 ·rename_i i hi
  split at h
  ·rename_i z' hz
   split at h
   ·rename_i hg
    injection h with h; subst h
    exact ⟨i, hi, hz, hg⟩
   ·cases h
  ·cases h
 ·cases h
theorem Qwe {t : TypeId} {z : Value} (h : Qmo P t = some z) : Ql9 P t = true := by
 obtain ⟨i, h1, h2, h3⟩ := Qxq h
 unfold Ql9; rw [h1]; simp only [h2, h3]
theorem Qzz {t : TypeId} {z : Value} (h : Qmo P t = some z) (w : World) : (Instr.alloc t true (.tuple #[])).run P w = .ok (.pointer (some ⟨w.heap.size, 0, none⟩)) (w.alloc (.cells z.cells t)) := by
 unfold Instr.alloc
 rw [Sem.run_bind, (Qlb h w).1]; rfl
theorem Q4j {t : TypeId} {v : Value} (w : World) : (Instr.box t v).run P w = .ok (.pointer (some ⟨w.heap.size, 0, none⟩)) (w.alloc (.cells v.cells t)) := rfl
def Qmj (P : Program) : List Field -> Option (List (Nat × Nat))
 | [] => some []
 | f :: fs => match szOf P f.type, Qmj P fs with
   | some s, some r => some ((f.offset, s) :: r)
   | _, _ => none
theorem Qpm : ∀ (fs : List Field) (r : List (Nat × Nat)), Qmj P fs = some r -> ∀ w, (fs.mapM (fun f => (do pure (f.offset, <- Go.sizeOf f.type) : Sem (Nat × Nat)))).run P w = .ok r w
 | [], r, h, w => by simp only [Qmj, Option.some.injEq] at h; subst h; rfl
 | f :: fs, r, h, w => by
   simp only [Qmj] at h
   split at h
   ·rename_i s r' hs hr
    injection h with h
    subst h
    rw [List.mapM_cons, Sem.run_bind, Sem.run_bind, Qae hs]
    simp only [Result.andThen_ok, Sem.run_pure]
    rw [Sem.run_bind, Qpm fs r' hr w]; rfl
   ·cases h
def placeOf (P : Program) (t : TypeId) : Option (List (Nat × Nat) ⊕ Nat) := match P.underlying t with
 | some (.struct fs) => (Qmj P fs.toList).map .inl
 | some (.array _ e) => (szOf P e).map .inr
 | _ => none
def Quw (P : Program) (t : TypeId) (ps : List (Nat × Value)) : Option Value :=
 match Qmo P t, placeOf P t with
 | some z, some (.inl pl) => (Qoo (fun i => getL i pl) z.cells.toList ps).map fun l => .agg ⟨l⟩
 | some z, some (.inr s) => (Qoo (fun i => some (i * s, s)) z.cells.toList ps).map fun l => .agg ⟨l⟩
 | _, _ => none
theorem Qql {t : TypeId} {ps : Array (Nat × Value)} {r : Value} (h : Quw P t ps.toList = some r) (w : World) : (Instr.build t ps).run P w = .ok r w /\ Ql9 P t = true := by
 unfold Quw at h
 split at h
 ·rename_i z pl hz hp
  refine ⟨?_, Qwe hz⟩
  unfold placeOf at hp
  split at hp
  ·rename_i fs hu
   cases hpl : Qmj P fs.toList with
   | none => rw [hpl] at hp; cases hp
   | some pl' =>
     rw [hpl] at hp
     simp only [Option.map_some, Option.some.injEq, Sum.inl.injEq] at hp
     subst hp
     cases hf : Qoo (fun i => getL i pl') z.cells.toList ps.toList with
     | none => rw [hf] at h; cases h
     | some l =>
       rw [hf] at h
       simp only [Option.map_some, Option.some.injEq] at h
       subst h
       unfold Instr.build
       rw [Sem.run_bind, (Qlb hz w).1]
       simp only [Result.andThen_ok]
       rw [Sem.run_bind, Qq hu]
       simp only [Result.andThen_ok]
       rw [Sem.run_bind, Array.mapM_eq_mapM_toList, map_eq_pure_bind, Sem.run_bind, Qpm _ _ hpl]
       simp only [Result.andThen_ok, Sem.run_pure]
       have := Qof _ _ _ _ hf
       have e : (fun i => getL i pl') = (fun x => (pl'.toArray)[x]?) := by funext i; rw [Qbs]; simp
       rw [e] at this
       rw [this]; rfl
  ·cases hs : szOf P _ with
   | none => rw [hs] at hp; cases hp
   | some s => rw [hs] at hp; cases hp
  ·cases hp
 ·rename_i z s hz hp
  refine ⟨?_, Qwe hz⟩
  unfold placeOf at hp
  split at hp
  ·rename_i fs hu
   cases hpl : Qmj P fs.toList with
   | none => rw [hpl] at hp; cases hp
   | some pl' => rw [hpl] at hp; cases hp
  ·rename_i N e hu
   cases hs : szOf P e with
   | none => rw [hs] at hp; cases hp
   | some s' =>
     rw [hs] at hp
     simp only [Option.map_some, Option.some.injEq, Sum.inr.injEq] at hp
     subst hp
     cases hf : Qoo (fun i => some (i * s', s')) z.cells.toList ps.toList with
     | none => rw [hf] at h; cases h
     | some l =>
       rw [hf] at h
       simp only [Option.map_some, Option.some.injEq] at h
       subst h
       unfold Instr.build
       rw [Sem.run_bind, (Qlb hz w).1]
       simp only [Result.andThen_ok]
       rw [Sem.run_bind, Qq hu]
       simp only [Result.andThen_ok]
       rw [Sem.run_bind, Qae hs]
       simp only [Result.andThen_ok]
       have := Qof _ _ _ _ hf
       rw [show (⟨z.cells.toList⟩ : Array Value) = z.cells from rfl] at this
       rw [this]; rfl
  ·cases hp
 ·cases h
def Qib (P : Program) (e : TypeId) (k : Nat) : Option (List Value) :=
 match P.info? e with
 | some i => match i.zero with
   | some z => bif z.cells.all Qa7 then some ((List.range k).map fun j => z.cells[j % z.cells.size]!) else none
   | none => none
 | none => none
theorem Qn3 {e : TypeId} {k : Nat} {l : List Value} (h : Qib P e k = some l) : ∃ z, (∀ w, (Go.zeroValue e).run P w = .ok z w) /\ zeroCell P e = true /\ (Array.range k).map (z.cells[·% z.cells.size]!) = ⟨l⟩ := by
 unfold Qib at h
 split at h
 case h_2 => cases h
 rename_i i hi
 split at h
 case h_2 => cases h
 rename_i z hz
 obtain ⟨hg, h⟩ := Qm h
 injection h with h
 refine ⟨z, fun w => ?_, ?_, ?_⟩
 ·unfold Go.zeroValue Go.typeInfo; simp [hi, hz]
 ·unfold zeroCell; rw [hi]; simp only [hz]; exact hg
 ·apply Array.ext'
  rw [Array.toList_map, Array.toList_range, <- h]
def Qg0 (P : Program) (N : Nat) (t : TypeId) (n : Nat) (ps : List (Nat × Value)) : Option (Value × Obj) :=
 match P.underlying t with
 | some (.slice e) => match szOf P e with
   | some s => bif Nat.ble (n * s) 16777216 && Nat.blt n big then
    match Qib P e (n * s) with
    | some zl => match Qoo (fun i => some (i * s, s)) zl ps with
      | some l => some (.slice (some ⟨N, 0, none⟩) n n, .cells ⟨l⟩ e)
      | none => none
    | none => none
     else none
   | none => none
 | _ => none
theorem Qkq {w : World} {t : TypeId} {n : Nat} {ps : Array (Nat × Value)} {v : Value} {o : Obj} (h : Qg0 P w.heap.size t n ps.toList = some (v, o)) :
 (Instr.buildSlice t n ps).run P w = .ok v (w.alloc o) /\ Qiv P t = true /\ n < big := by
 unfold Qg0 at h
 split at h
 case h_2 => cases h
 rename_i e hu
 split at h
 case h_2 => cases h
 rename_i s hs
 obtain ⟨hc, h⟩ := Qm h
 simp only [Bool.and_eq_true] at hc
 have hc1 := Nat.le_of_ble_eq_true hc.1
 have hc2 : n < big := by have := hc.2; unfold Nat.blt at this; exact Nat.le_of_ble_eq_true this
 split at h
 case h_2 => cases h
 rename_i zl hzl
 split at h
 case h_2 => cases h
 rename_i l hl
 injection h with h
 injection h with h1 h2
 subst h1; subst h2
 obtain ⟨z, hz1, hz2, hz3⟩ := Qn3 hzl
 refine ⟨?_, by unfold Qiv; rw [hu]; exact hz2, hc2⟩
 have hfill := Qof _ _ _ _ hl
 unfold Instr.buildSlice
 rw [Sem.run_bind, Qq hu]
 simp only [Result.andThen_ok]
 rw [Sem.run_bind, Qae hs]
 simp only [Result.andThen_ok]
 rw [if_neg (by omega)]
 by_cases h0 : n * s = 0
 ·rw [if_pos h0]
  simp only [pure_bind]
  have e0 : zl = [] := by
   rw [h0] at hz3
   have := congrArg Array.toList hz3
   simpa using this.symm
  subst e0
  rw [h0]
  have e1 : (Array.range 0).map (fun x => (#[] : Array Value)[x % (#[] : Array Value).size]!) = ⟨[]⟩ := by
   apply Array.ext'; simp
  rw [e1, hfill]; rfl
 ·rw [if_neg h0, Sem.run_bind, hz1]
  simp only [Result.andThen_ok, pure_bind]
  rw [hz3, hfill]; rfl
def Qxr (k : IntKind) (n : Int) : Int :=
 match k with
 | .i64 => match n with
   | .ofNat m => bif Nat.blt m 9223372036854775808 then .ofNat m else IntKind.i64.wrap (.ofNat m)
   | .negSucc m => bif Nat.blt m 9223372036854775808 then .negSucc m else IntKind.i64.wrap (.negSucc m)
 | k => k.wrap n
theorem Qqy (k : IntKind) (n : Int) : Qxr k n = k.wrap n := by
 have two : ∀ m : Nat, Nat.blt m 9223372036854775808 = true -> (m : Int) < 9223372036854775808 := fun m h => by
  have : m < 9223372036854775808 := Nat.le_of_ble_eq_true h
  omega
 unfold Qxr
 split
 ·split
  ·rename_i m
   cases h : Nat.blt m 9223372036854775808 with
   | false => rw [cond_false]
   | true =>
     rw [cond_true]
     have := two m h
     exact (IntWalk.i64_in (.ofNat m) ⟨by simp only [Int.ofNat_eq_natCast]; omega, by simp only [Int.ofNat_eq_natCast]; omega⟩).symm
  ·rename_i m
   cases h : Nat.blt m 9223372036854775808 with
   | false => rw [cond_false]
   | true =>
     rw [cond_true]
     have := two m h
     exact (IntWalk.i64_in (.negSucc m) ⟨by rw [Int.negSucc_eq]; omega, by rw [Int.negSucc_eq]; omega⟩).symm
 ·rfl
def fInt (op : BinOp) (k : IntKind) (a b : Int) : Option Value :=
 match op with
 | .add => some (.int k (Qxr k (a + b)))
 | .sub => some (.int k (Qxr k (a - b)))
 | .mul => some (.int k (Qxr k (a * b)))
 | .quo => if b = 0 then none else some (.int k (Qxr k (a.tdiv b)))
 | .rem => if b = 0 then none else some (.int k (a.tmod b))
 | .eql => some (.bool (a == b))
 | .neq => some (.bool (a != b))
 | .lss => some (.bool (a < b))
 | .leq => some (.bool (a <= b))
 | .gtr => some (.bool (a > b))
 | .geq => some (.bool (a >= b))
 | _ => none
theorem Q1j {op : BinOp} {k : IntKind} {a b : Int} {v : Value} (h : fInt op k a b = some v) (t : TypeId) (ox oy : Operand) (w : World) :
 (do eqGuard op t ox oy (.int k a) (.int k b); binOp op t (.int k a) (.int k b) : Sem Value).run P w = .ok v w /\ ground v = true := by
 have hg : Go.eqGuard op t ox oy (.int k a) (.int k b) = Pure.pure () := by
  unfold Go.eqGuard
  split <;> rfl
 rw [hg, pure_bind]
 unfold fInt at h
 unfold Go.binOp
 cases op <;> simp only at h <;> (try split at h) <;> first
  | (cases h; done)
  | (injection h with h; subst h; simp [Op.intArith, Op.intDiv, Op.intCmp, ground, Qa7, Qqy, *])
end
end Go.Proofs.Ytjomicmhnbmhoaa.Ev
end

section
set_option linter.unusedVariables false
set_option linter.unusedSimpArgs false
namespace Go.Proofs.Ytjomicmhnbmhoaa.Ev
open Go
section
variable {P : Program} {base fl : Nat}
def Qif (mem : Mem) (k : Nat) : Option Addr -> Option (List Value)
 | none => some []
 | some ⟨b, o, none⟩ => match mem b with
   | some (.cells c _ _) => Qf9 k (Qgg o c.toList)
   | _ => none
 | _ => none
theorem Qji {wA : World} {size n : Nat} {a : Option Addr} {l c : Nat} {r : List Value} (h : Qif (fun b => wA.heap[b]?) (n * size) a = some r) :
 (Builtin.firstCells size n (.slice a l c)).run P wA = .ok ⟨r⟩ wA /\ (a ≠ none -> r.length = n * size) := by
 unfold Qif at h
 unfold Builtin.firstCells
 split at h
 ·injection h with h; subst h; exact ⟨rfl, fun e => absurd rfl e⟩
 ·rename_i b o
  split at h
  case h_2 => cases h
  rename_i cs ct fr hb
  obtain ⟨h1, h2⟩ := Qln _ _ _ h
  refine ⟨?_, fun _ => h2⟩
  have := run_loadCells_list (P := P) wA ⟨b, o, none⟩ r (fun j u hu => by
   rw [Qca]
   rw [h1, Qfz, List.getElem?_take] at hu
   split at hu
   ·rw [List.getElem?_drop] at hu; exact Qq8 hb (by simpa using hu)
   ·cases hu)
  rw [h2] at this
  exact this
 ·cases h
def Q8a (P : Program) (fl : Nat) (mem : Mem) (N : Nat) (t : TypeId) (s x : Value) : Option (Value × Upd) :=
 match P.underlying t, s, x with
 | some (.slice e), .slice a sLen sCap, .slice a2 n _ =>
   match P.info? e with
   | none => none
   | some i =>
     bif Nat.beq n 0 then (bif Nat.ble sLen sCap then some (.slice a sLen sCap, .same) else none)
     else match i.zero with
     | none => none
     | some z =>
       bif Nat.beq z.cells.size i.size && Nat.blt 0 i.size && Nat.ble ((sLen + n) * i.bytes) 140737488355328 && Nat.blt (sLen + n) 1099511627776 then
        bif Nat.blt sCap big && Nat.ble (sLen + n) sCap then
         match a, Qif mem (n * i.size) a2 with
         | some ⟨b, o, none⟩, some new =>
           bif Nat.ble fl b && Nat.beq new.length (n * i.size) && new.all (·.oneCell') then
            match mem b with
            | some (.cells c ct (0, 0)) => match setL (o + sLen * i.size) c.toList new with
              | some l => some (.slice a (sLen + n) sCap, .put b (.cells ⟨l⟩ ct (0, 0)))
              | none => none
            | _ => none
           else none
         | _, _ => none
        else
         match Qif mem (sLen * i.size) a, Qif mem (n * i.size) a2 with
         | some old, some new =>
           bif Nat.beq old.length (sLen * i.size) && Nat.beq new.length (n * i.size) && new.all (·.oneCell') then
            bif Nat.blt sCap big then some (.slice (some ⟨N, 0, none⟩) (sLen + n) Qkz, .new (.cells ⟨old ++ new⟩ e))
            else match a with
             | some ⟨b, _, none⟩ => bif Nat.ble fl b && decide (Qoz mem b = some e) then some (.slice (some ⟨N, 0, none⟩) (sLen + n) Qkz, .killNew b (.cells ⟨old ++ new⟩ e)) else none
             | _ => none
           else none
         | _, _ => none
       else none
 | _, _, _ => none
theorem Qec {a b : Nat} (h : Nat.blt a b = true) : a < b := Nat.le_of_ble_eq_true h
theorem Q3u {a b : Nat} (h : Nat.blt a b = false) : ¬ a < b := fun e => by
 have : Nat.blt a b = true := Nat.ble_eq_true_of_le e
 rw [this] at h; cases h
def fieldInfo (P : Program) (t : TypeId) (f : Nat) : Option (Nat × Option Nat) := match P.underlying t with
 | some (.struct fs) => match getL f fs.toList with
   | some fd => match Qgw P fd.type with
     | some true => (szOf P fd.type).map fun s => (fd.offset, some s)
     | some false => some (fd.offset, none)
     | none => none
   | none => none
 | _ => none
def Qtt (off : Nat) (n : Option Nat) (cs : List Value) : Option Value := match n with
 | some n => match Qf9 n (Qgg off cs) with
   | some l => some (.agg ⟨l⟩)
   | none => none
 | none => getL off cs
def Qmw (P : Program) (t : TypeId) : Option (Option Nat) := match Qgw P t with
 | some true => (szOf P t).map some
 | some false => some none
 | none => none
theorem Qsg {t : TypeId} {i : Option Nat} {cs : Array Value} {off : Nat} {v : Value} (hi : Qmw P t = some i) (h : Qtt off i cs.toList = some v) (w : World) : (Go.part t cs off).run P w = .ok v w := by
 unfold Qmw at hi
 unfold Go.part
 split at hi
 ·rename_i ha
  cases hs : szOf P t with
  | none => rw [hs] at hi; cases hi
  | some s =>
    rw [hs] at hi
    simp only [Option.map_some, Option.some.injEq] at hi
    subst hi
    unfold Qtt at h
    dsimp only at h
    split at h
    case h_2 => cases h
    rename_i l hl
    injection h with h; subst h
    obtain ⟨h1, h2⟩ := Qln _ _ _ hl
    rw [Sem.run_bind, Qmx ha]
    simp only [Result.andThen_ok, if_true]
    rw [Sem.run_bind, Qae hs]
    simp only [Result.andThen_ok, Sem.run_pure]
    congr 2
    apply Array.ext'
    rw [Array.toList_extract, h1, Qfz, List.extract_eq_take_drop]
    congr 1; omega
 ·rename_i ha
  injection hi with hi; subst hi
  unfold Qtt at h
  dsimp only at h
  rw [Qbs] at h
  rw [Sem.run_bind, Qmx ha]
  simp only [Result.andThen_ok, Bool.false_eq_true, if_false]
  have : cs[off]? = some v := by simpa using h
  rw [this]; rfl
 ·cases hi
def Qyh (P : Program) (t : TypeId) (v : Value) (f : Nat) : Option Value := match fieldInfo P t f, v with
 | some (off, n), .agg cs => Qtt off n cs.toList
 | _, _ => none
theorem Qw4 {t : TypeId} {v r : Value} {f : Nat} (h : Qyh P t v f = some r) (w : World) : (Instr.field t v f).run P w = .ok r w := by
 unfold Qyh at h
 split at h
 case h_2 => cases h
 rename_i off n cs hfi
 unfold fieldInfo at hfi
 split at hfi
 case h_2 => cases hfi
 rename_i fs hu
 split at hfi
 case h_2 => cases hfi
 rename_i fd hfd
 rw [Qbs] at hfd
 have hpart : Qmw P fd.type = some n /\ off = fd.offset := by
  unfold Qmw
  split at hfi
  ·rename_i ha
   cases hs : szOf P fd.type with
   | none => rw [hs] at hfi; cases hfi
   | some s => rw [hs] at hfi; injection hfi with hfi; injection hfi with e1 e2; subst e1; subst e2; simp [ha]
  ·rename_i ha
   injection hfi with hfi; injection hfi with e1 e2; subst e1; subst e2; simp [ha]
  ·cases hfi
 obtain ⟨hp, rfl⟩ := hpart
 unfold Instr.field
 rw [Sem.run_bind, Qq hu]
 simp only [Result.andThen_ok]
 have : fs[f]? = some fd := by simpa using hfd
 rw [this]
 show (Go.part fd.type cs fd.offset).run P w = _
 exact Qsg hp h w
def Qmy (P : Program) (t : TypeId) : Option (Nat × Option Nat) := match P.underlying t with
 | some (.slice e) => (szOf P e).map fun s => (s, none)
 | some (.array n e) => (szOf P e).map fun s => (s, some n)
 | _ => none
def Qh9 (P : Program) (t : TypeId) (v : Value) (i : Int) : Option Value :=
 match i, Qmy P t, v with
 | .ofNat i, some (s, none), .slice (some ⟨b, o, none⟩) n _ => bif Nat.blt i n then some (.pointer (some ⟨b, o + i * s, none⟩)) else none
 | .ofNat i, some (s, some n), .pointer (some ⟨b, o, none⟩) => bif Nat.blt i n then some (.pointer (some ⟨b, o + i * s, none⟩)) else none
 | _, _, _ => none
theorem Qg9 {t : TypeId} {v r : Value} {k : IntKind} {i : Int} (h : Qh9 P t v i = some r) (w : World) : (Instr.indexAt t v (.int k i)).run P w = .ok r w := by
 unfold Qh9 at h
 unfold Instr.indexAt
 simp only [asIntOf, pure_bind]
 split at h
 ·rename_i i s b o n c hei
  have hb0 := Qm h; clear h; obtain ⟨hlt, h⟩ := hb0
  injection h with h; subst h
  have hlt := Qec hlt
  unfold Qmy at hei
  split at hei
  ·rename_i e hu
   cases hs : szOf P e with
   | none => rw [hs] at hei; cases hei
   | some s' =>
     rw [hs] at hei
     injection hei with hei; injection hei with e1 _; subst e1
     rw [Sem.run_bind, Qq hu]
     simp only [Result.andThen_ok]
     rw [Sem.run_bind, Qq hu]
     simp only [Result.andThen_ok]
     rw [if_pos ⟨by simp, by simpa using hlt⟩, Sem.run_bind, Qae hs]
     simp only [Result.andThen_ok, Sem.run_pure, Qca]
     rfl
  ·rename_i N e hu
   cases hs : szOf P e with
   | none => rw [hs] at hei; cases hei
   | some s' => rw [hs] at hei; injection hei with hei; injection hei with e1 e2; cases e2
  ·cases hei
 ·rename_i i s n b o hei
  have hb0 := Qm h; clear h; obtain ⟨hlt, h⟩ := hb0
  injection h with h; subst h
  have hlt := Qec hlt
  unfold Qmy at hei
  split at hei
  ·rename_i e hu
   cases hs : szOf P e with
   | none => rw [hs] at hei; cases hei
   | some s' => rw [hs] at hei; injection hei with hei; injection hei with e1 e2; cases e2
  ·rename_i N e hu
   cases hs : szOf P e with
   | none => rw [hs] at hei; cases hei
   | some s' =>
     rw [hs] at hei
     injection hei with hei; injection hei with e1 e2; subst e1; injection e2 with e2; subst e2
     rw [Sem.run_bind, Qq hu]
     simp only [Result.andThen_ok, Instr.sureAddr, pure_bind]
     rw [Sem.run_bind, Qq hu]
     simp only [Result.andThen_ok]
     rw [if_pos ⟨by simp, by simpa using hlt⟩, Sem.run_bind, Qae hs]
     simp only [Result.andThen_ok, Sem.run_pure, Qca]
     rfl
  ·cases hei
 ·cases h
def Qtu (P : Program) (t : TypeId) : Option (Nat × Nat × Option Nat) := match P.underlying t with
 | some (.array n e) => match szOf P e, Qmw P e with
   | some s, some p => some (n, s, p)
   | _, _ => none
 | _ => none
def Qyi (P : Program) (t : TypeId) (v : Value) (i : Int) : Option Value :=
 match i, v with
 | .ofNat i, .agg cs => match Qtu P t with
   | some (n, s, p) => bif Nat.blt i n then Qtt (i * s) p cs.toList else none
   | none => none
 | .ofNat i, .string s => match P.underlying t with
   | some .string => (getL i s.data.toList).map fun b => .int .u8 b.toNat
   | _ => none
 | _, _ => none
theorem Qw5 {t : TypeId} {v r : Value} {k : IntKind} {i : Int} (h : Qyi P t v i = some r) (w : World) : (Instr.index t v (.int k i)).run P w = .ok r w := by
 unfold Qyi at h
 unfold Instr.index
 simp only [asIntOf, pure_bind]
 split at h
 ·rename_i i cs
  split at h
  case h_2 => cases h
  rename_i n s p hai
  have hb0 := Qm h; clear h; obtain ⟨hlt, h⟩ := hb0
  have hlt := Qec hlt
  unfold Qtu at hai
  split at hai
  case h_2 => cases hai
  rename_i N e hu
  split at hai
  case h_2 => cases hai
  rename_i s' p' hs hp
  injection hai with hai; injection hai with e1 e2; injection e2 with e2 e3
  subst e1; subst e2; subst e3
  rw [Sem.run_bind, Qq hu]
  simp only [Result.andThen_ok]
  rw [if_pos ⟨by simp, by simpa using hlt⟩, Sem.run_bind, Qae hs]
  simp only [Result.andThen_ok]
  exact Qsg hp h w
 ·rename_i i s
  split at h
  case h_2 => cases h
  rename_i hu
  cases hg : getL i s.data.toList with
  | none => rw [hg] at h; cases h
  | some b =>
    rw [hg] at h
    simp only [Option.map_some, Option.some.injEq] at h
    subst h
    rw [Qbs] at hg
    rw [Sem.run_bind, Qq hu]
    simp only [Result.andThen_ok]
    have hb : (if (0 : Int) <= Int.ofNat i then s[(Int.ofNat i).toNat]? else none) = some b := by
     rw [if_pos (by simp)]
     have : s.data[i]? = some b := by simpa using hg
     show s[i]? = some b
     obtain ⟨h1, h2⟩ := Array.getElem?_eq_some_iff.1 this
     have h1' : i < s.size := h1
     rw [getElem?_pos s i h1']
     exact congrArg some h2
    rw [hb]; rfl
 ·cases h
def Qu6 (v : Value) (i : Nat) : Option Value := match v with
 | .tuple vs => getL i vs.toList
 | _ => none
theorem Qsh {v r : Value} {i : Nat} (h : Qu6 v i = some r) (w : World) : (Instr.extract v i).run P w = .ok r w := by
 unfold Qu6 at h
 split at h
 ·rename_i vs
  rw [Qbs] at h
  have : vs[i]? = some r := by simpa using h
  unfold Instr.extract
  simp only [this]; rfl
 ·cases h
def Qq9 (P : Program) (s : TypeId) (f : Nat) : Option Nat := match P.underlying s with
 | some (.struct fs) => match getL f fs.toList with
   | some fd => match szOf P fd.type with
     | some (_ + 1) => some fd.offset
     | _ => none
   | none => none
 | _ => none
def Qlo (P : Program) (s : TypeId) (v : Value) (f : Nat) : Option Value := match Qq9 P s f, v with
 | some off, .pointer (some ⟨b, o, none⟩) => some (.pointer (some ⟨b, o + off, none⟩))
 | _, _ => none
theorem Ql6 {s : TypeId} {v r : Value} {f : Nat} (h : Qlo P s v f = some r) (w : World) : (Instr.fieldAt s v f).run P w = .ok r w /\ Qyj P s f = true := by
 unfold Qlo at h
 split at h
 case h_2 => cases h
 rename_i off b o hfo
 injection h with h; subst h
 unfold Qq9 at hfo
 split at hfo
 case h_2 => cases hfo
 rename_i fs hu
 split at hfo
 case h_2 => cases hfo
 rename_i fd hfd
 rw [Qbs] at hfd
 have hfd' : fs[f]? = some fd := by simpa using hfd
 split at hfo
 case h_2 => cases hfo
 rename_i m hs
 injection hfo with hfo; subst hfo
 constructor
 ·unfold Instr.fieldAt
  rw [Sem.run_bind, Qq hu]
  simp only [Result.andThen_ok, hfd']
  show (Go.fieldPlace _ fd >>= fun a => Pure.pure (Value.pointer (some a))).run P w = _
  unfold Go.fieldPlace
  rw [Sem.run_bind, Sem.run_bind, Qae hs]
  simp only [Result.andThen_ok]
  rw [if_neg (by omega)]
  simp only [Sem.run_pure, Result.andThen_ok, Qca]
 ·unfold Qyj
  rw [hu]
  simp only [hfd', hs]
  simp
end
end Go.Proofs.Ytjomicmhnbmhoaa.Ev
end

section
set_option linter.unusedVariables false
set_option linter.unusedSimpArgs false
namespace Go.Proofs.Ytjomicmhnbmhoaa.Ev
open Go
inductive Tr (α : Type) where
 | nil
 | node (v : Option α) (l r : Tr α)
def Tr.get {α : Type} : Tr α -> Nat -> Option α
 | .nil, _ => none
 | .node v _ _, 0 => v
 | .node _ l r, n + 1 => bif Nat.beq (n % 2) 0 then l.get (n / 2) else r.get (n / 2)
def Tr.val {α : Type} : Tr α -> Option α
 | .nil => none
 | .node v _ _ => v
def Tr.left {α : Type} : Tr α -> Tr α
 | .nil => .nil
 | .node _ l _ => l
def Tr.right {α : Type} : Tr α -> Tr α
 | .nil => .nil
 | .node _ _ r => r
def Tr.setF {α : Type} (a : α) : Nat -> Tr α -> Nat -> Tr α
 | _, t, 0 => .node (some a) t.left t.right
 | 0, t, _ + 1 => t
 | k + 1, t, n + 1 => bif Nat.beq (n % 2) 0 then .node t.val (Tr.setF a k t.left (n / 2)) t.right else .node t.val t.left (Tr.setF a k t.right (n / 2))
def Tr.set {α : Type} (t : Tr α) (n : Nat) (a : α) : Tr α := Tr.setF a 40 t n
theorem Tr.Qtg {α : Type} (t : Tr α) (n : Nat) : t.get n = match n with
 | 0 => t.val
 | m + 1 => bif Nat.beq (m % 2) 0 then t.left.get (m / 2) else t.right.get (m / 2) := by
 cases t with
 | nil => cases n <;> simp [Tr.get, Tr.val, Tr.left, Tr.right]
 | node v l r => cases n <;> rfl
theorem Tr.Qry {α : Type} (a : α) : ∀ (k : Nat) (t : Tr α) (n m : Nat), n < 2 ^ k -> (Tr.setF a k t n).get m = if m = n then some a else t.get m
 | k, t, 0, m, _ => by
   rw [Tr.Qtg t m]
   cases k <;> (cases m with
    | zero => simp [Tr.setF, Tr.get]
    | succ m => simp [Tr.setF, Tr.get])
 | 0, t, n + 1, m, h => by simp at h
 | k + 1, t, n + 1, m, h => by
   rw [Tr.Qtg t m]
   have hk : n / 2 < 2 ^ k := by rw [Nat.pow_succ] at h; omega
   simp only [Tr.setF]
   cases hb : Nat.beq (n % 2) 0 with
   | true =>
     have hn : n % 2 = 0 := Nat.eq_of_beq_eq_true hb
     cases m with
     | zero => simp [Tr.get]
     | succ m =>
       simp only [cond_true, Tr.get]
       cases hm : Nat.beq (m % 2) 0 with
       | true =>
         have hm' : m % 2 = 0 := Nat.eq_of_beq_eq_true hm
         simp only [cond_true]
         rw [Tr.Qry a k _ _ _ hk]
         by_cases e : m = n
         ·subst e; simp
         ·rw [if_neg (by omega), if_neg (by omega)]
       | false =>
         have hm' : m % 2 ≠ 0 := Nat.ne_of_beq_eq_false hm
         simp only [cond_false]
         rw [if_neg (by omega)]
   | false =>
     have hn : n % 2 ≠ 0 := Nat.ne_of_beq_eq_false hb
     cases m with
     | zero => simp [Tr.get]
     | succ m =>
       simp only [cond_false, Tr.get]
       cases hm : Nat.beq (m % 2) 0 with
       | true =>
         have hm' : m % 2 = 0 := Nat.eq_of_beq_eq_true hm
         simp only [cond_true]
         rw [if_neg (by omega)]
       | false =>
         have hm' : m % 2 ≠ 0 := Nat.ne_of_beq_eq_false hm
         simp only [cond_false]
         rw [Tr.Qry a k _ _ _ hk]
         by_cases e : m = n
         ·subst e; simp
         ·rw [if_neg (by omega), if_neg (by omega)]
theorem Tr.Q4t {α : Type} (t : Tr α) (n m : Nat) (a : α) (h : n < 2 ^ 40) : (t.set n a).get m = if m = n then some a else t.get m := Tr.Qry a 40 t n m h
section
variable {P : Program} {base fl : Nat}
def Qlm (P : Program) (N : Nat) (t : TypeId) (l c : Int) : Option (Value × Obj) :=
 match P.underlying t, l, c with
 | some (.slice e), .ofNat l, .ofNat c => match P.info? e with
   | some i => bif Nat.ble l c && Nat.ble (i.bytes * c) 281474976710656 && Nat.blt c 1099511627776 then
    (Qib P e (c * i.size)).map fun zl => (.slice (some ⟨N, 0, none⟩) l c, .cells ⟨zl⟩ e)
     else none
   | none => none
 | _, _, _ => none
theorem wrap_small {n : Nat} (h : n < 1099511627776) : IntKind.i64.wrap (n : Int) = n := by
 exact IntWalk.i64_in _ ⟨by omega, by omega⟩
def fCopy (P : Program) (fl : Nat) (mem : Mem) (t : TypeId) (d x : Value) : Option (Value × Upd) :=
 match P.underlying t, d, x with
 | some (.slice e), .slice a dl _, .slice a2 n2 _ =>
   match szOf P e with
   | some s =>
     match Qif mem (Nat.min n2 dl * s) a2 with
     | some cells => match a with
       | none => some (goInt (Nat.min n2 dl), .same)
       | some ⟨b, o, none⟩ => bif Nat.ble fl b && cells.all (·.oneCell') then match cells with
         | [] => some (goInt (Nat.min n2 dl), .same)
         | y :: ys => match mem b with
           | some (.cells c ct (0, 0)) => match setL o c.toList (y :: ys) with
             | some l => some (goInt (Nat.min n2 dl), .put b (.cells ⟨l⟩ ct (0, 0)))
             | none => none
           | _ => none
         else none
       | _ => none
     | none => none
   | none => none
 | _, _, _ => none
theorem Qzg {wA : World} {t u ty : TypeId} {d x v : Value} {up : Upd} (h : fCopy P fl (fun b => wA.heap[b]?) t d x = some (v, up)) :
 (Builtin.copy_ #[t, u] ty #[d, x]).run P wA = .ok v (World.upd wA up) /\ (∃ a l c, x = .slice a l c) /\ ((∃ l c, d = .slice none l c) \/ (∃ a l c, d = .slice (some a) l c /\ fl <= a.block)) := by
 unfold fCopy at h
 split at h
 case h_2 => cases h
 rename_i e a dl c1 a2 n2 c2 hu
 split at h
 case h_2 => cases h
 rename_i s hs
 split at h
 case h_2 => cases h
 rename_i cells hc
 have hfirst := (Qji (P := P) (l := n2) (c := c2) hc).1
 split at h
 ·injection h with h; injection h with h1 h2; subst h1; subst h2
  refine ⟨?_, ⟨_, _, _, rfl⟩, .inl ⟨_, _, rfl⟩⟩
  unfold Builtin.copy_
  simp only [List.getElem?_toArray, List.getElem?_cons_zero, List.getElem?_cons_succ]
  rw [Sem.run_bind, Qq hu]
  simp only [Result.andThen_ok, Builtin.lenOf, pure_bind]
  rw [Sem.run_bind, Qae hs]
  simp only [Result.andThen_ok]
  rw [Sem.run_bind, hfirst]; rfl
 ·rename_i b o
  have hb0 := Qm h; clear h; obtain ⟨hc2, h⟩ := hb0
  simp only [Bool.and_eq_true] at hc2
  split at h
  ·injection h with h; injection h with h1 h2; subst h1; subst h2
   refine ⟨?_, ⟨_, _, _, rfl⟩, .inr ⟨_, _, _, rfl, Nat.le_of_ble_eq_true hc2.1⟩⟩
   unfold Builtin.copy_
   simp only [List.getElem?_toArray, List.getElem?_cons_zero, List.getElem?_cons_succ]
   rw [Sem.run_bind, Qq hu]
   simp only [Result.andThen_ok, Builtin.lenOf, pure_bind]
   rw [Sem.run_bind, Qae hs]
   simp only [Result.andThen_ok]
   rw [Sem.run_bind, hfirst]; rfl
  ·rename_i y ys
   split at h
   case h_2 => cases h
   rename_i c ct hb
   split at h
   case h_2 => cases h
   rename_i l hl
   injection h with h; injection h with h1 h2; subst h1; subst h2
   refine ⟨?_, ⟨_, _, _, rfl⟩, .inr ⟨_, _, _, rfl, Nat.le_of_ble_eq_true hc2.1⟩⟩
   obtain ⟨g1, g2⟩ := Qo3 _ _ _ _ hl
   have hst := run_storeCells_at P b o ct (y :: ys) 0 c wA hb (by simpa using g2) (fun v hv => (List.all_eq_true.1 hc2.2) v hv)
   simp only [Nat.add_zero] at hst
   unfold Builtin.copy_
   simp only [List.getElem?_toArray, List.getElem?_cons_zero, List.getElem?_cons_succ]
   rw [Sem.run_bind, Qq hu]
   simp only [Result.andThen_ok, Builtin.lenOf, pure_bind]
   rw [Sem.run_bind, Qae hs]
   simp only [Result.andThen_ok]
   rw [Sem.run_bind, hfirst]
   simp only [Result.andThen_ok]
   rw [Sem.run_bind, hst, Qnq hb, g1]; rfl
 ·cases h
theorem Qpu {w : World} {t : TypeId} {l c : Int} {v : Value} {o : Obj} (h : Qlm P w.heap.size t l c = some (v, o)) (k k' : IntKind) :
 (Instr.makeSlice t (.int k l) (.int k' c)).run P w = .ok v (w.alloc o) /\ Qiv P t = true /\ (IntKind.i64.wrap c).toNat < big := by
 unfold Qlm at h
 split at h
 case h_2 => cases h
 rename_i e l c hu
 split at h
 case h_2 => cases h
 rename_i i hi
 have hb0 := Qm h; clear h; obtain ⟨hc, h⟩ := hb0
 simp only [Bool.and_eq_true] at hc
 have h1 := Nat.le_of_ble_eq_true hc.1.1
 have h2 := Nat.le_of_ble_eq_true hc.1.2
 have h3 : c < 1099511627776 := Qec hc.2
 cases hz : Qib P e (c * i.size) with
 | none => rw [hz] at h; cases h
 | some zl =>
   rw [hz] at h
   simp only [Option.map_some, Option.some.injEq, Prod.mk.injEq] at h
   obtain ⟨e1, e2⟩ := h
   subst e1; subst e2
   obtain ⟨z, hz1, hz2, hz3⟩ := Qn3 hz
   have wl : IntKind.i64.wrap (Int.ofNat l) = Int.ofNat l := wrap_small (by omega)
   have wc : IntKind.i64.wrap (Int.ofNat c) = Int.ofNat c := wrap_small h3
   have hs : szOf P e = some i.size := by unfold szOf; rw [hi]; rfl
   have hti : (Go.typeInfo e).run P w = .ok i w := by unfold Go.typeInfo; simp [hi]
   refine ⟨?_, by unfold Qiv; rw [hu]; exact hz2, by rw [wc]; show c < big; unfold big; omega⟩
   unfold Instr.makeSlice
   rw [Sem.run_bind, Qq hu]
   simp only [Result.andThen_ok, asInt, asIntOf, pure_bind]
   rw [Sem.run_bind, hti]
   simp only [Result.andThen_ok]
   rw [wl, wc]
   have e48 : ¬ ((i.bytes : Int) * (Int.ofNat c) > 2 ^ 48) := by
    have this : ((i.bytes * c : Nat) : Int) <= ((281474976710656 : Nat) : Int) := Int.ofNat_le.2 h2
    rw [Int.natCast_mul] at this
    show ¬ ((i.bytes : Int) * (c : Int) > 2 ^ 48)
    omega
   have c1 : decide ((Int.ofNat c) < 0) = false := by simp
   have c2 : decide ((Int.ofNat l) < 0) = false := by simp
   have c3 : decide ((Int.ofNat l) > (Int.ofNat c)) = false := decide_eq_false (by show ¬ ((l : Int) > (c : Int)); omega)
   have c4 : decide ((i.bytes : Int) * (Int.ofNat c) > 2 ^ 48) = false := decide_eq_false e48
   rw [c1, c2, c3, c4]
   simp only [Bool.or_self, Bool.false_eq_true, if_false]
   rw [Sem.run_bind, run_askRoom]
   simp only [Result.andThen_ok]
   rw [Sem.run_bind, Qae hs]
   simp only [Result.andThen_ok]
   show Sem.run P (if c * i.size = 0 then _ else _) w = _
   by_cases h0 : c * i.size = 0
   ·rw [if_pos h0]
    have e0 : zl = [] := by
     rw [h0] at hz3
     have := congrArg Array.toList hz3
     simpa using this.symm
    subst e0
    have e1 : (Array.range ((Int.ofNat c).toNat * i.size)).map (fun x => (#[] : Array Value)[x % (#[] : Array Value).size]!) = ⟨[]⟩ := by
     show (Array.range (c * i.size)).map _ = _
     rw [h0]; apply Array.ext'; simp
    rw [e1]; rfl
   ·rw [if_neg h0, Sem.run_bind, hz1]
    simp only [Result.andThen_ok, pure_bind]
    have e1 : (Array.range ((Int.ofNat c).toNat * i.size)).map (fun x => z.cells[x % z.cells.size]!) = ⟨zl⟩ := hz3
    rw [e1]; rfl
theorem Qpd {ev : Operand -> Value} (ps : Array (Nat × Operand)) : (ps.map fun (i, x) => (i, ev x)).toList = ps.toList.map fun p => (p.1, ev p.2) := by simp
end
end Go.Proofs.Ytjomicmhnbmhoaa.Ev
end

section
set_option linter.unusedVariables false
set_option linter.unusedSimpArgs false
namespace Go.Proofs.Ytjomicmhnbmhoaa.Ev
open Go
section
variable {P : Program} {base fl : Nat}
end
end Go.Proofs.Ytjomicmhnbmhoaa.Ev
end

section
set_option linter.unusedVariables false
set_option linter.unusedSimpArgs false
namespace Go.Proofs.Ytjomicmhnbmhoaa.Ev
open Go
def Qpy (sz : Nat) (ops : Array Oper) : Bool := Nat.blt sz 1000000 && ops.toList.all fun o => o.op.operands.toList.all Qsn && (match o.dst with | some d => Nat.blt d sz | none => true)
def Qiq (o : Oper) : List Nat := o.after.toList.filterMap fun e => match e.ground with
 | .textOnly _ | .gcOnly _ => none
 | _ => some e.on
def maskAt (ms : List Nat) (k : Nat) : Nat := match getL k ms with
 | some m => m
 | none => 0
def Qn0 (ms : List Nat) : List Nat -> Nat
 | [] => 0
 | j :: js => (2 ^ j ||| maskAt ms j) ||| Qn0 ms js
def masks : List Oper -> List Nat -> List Nat
 | [], acc => acc
 | o :: os, acc => masks os (acc ++ [Qn0 acc (Qiq o)])
def Qrg (ms : List Nat) : Nat -> List Oper -> Bool
 | _, [] => true
 | k, o :: os => (Qiq o).all (fun j => Nat.blt j k) && Nat.beq (maskAt ms k) (Qn0 ms (Qiq o)) && Qrg ms (k + 1) os
def Qfm (t : Nat) : Nat -> List Oper -> Option Nat
 | _, [] => none
 | k, o :: os => match o.dst with
   | some d => bif Nat.beq d t then some k else Qfm t (k + 1) os
   | none => Qfm t (k + 1) os
def Qhr (ops : List Oper) (o : Oper) : List Nat :=
 (o.op.operands.toList.filterMap fun | .tmp t => some t | _ => none) ++
 (match o.guard with
  | some (g, _) => match getL g ops with
    | some x => x.dst.toList
    | none => []
  | none => [])
def Qrh (ms : List Nat) (ops : List Oper) : Nat -> List Oper -> Bool
 | _, [] => true
 | k, o :: os => ((Qhr ops o).all fun t => match Qfm t 0 ops with
  | none => true
  | some j => Nat.beq j k || (Nat.blt j k && (maskAt ms k).testBit j) || (Nat.blt k j && (maskAt ms j).testBit k)) && Qrh ms ops (k + 1) os
def Qvc (ops : List Oper) : Nat -> List Oper -> Bool
 | _, [] => true
 | k, o :: os => (match o.dst with
   | none => true
   | some d => match Qfm d 0 ops with
     | some j => Nat.beq j k
     | none => false) && Qvc ops (k + 1) os
def Qvd (ms : List Nat) (m : Nat) : Nat -> List Oper -> Bool
 | _, [] => true
 | k, _ :: os => (Nat.blt k m || Nat.beq (maskAt ms k) (2 ^ k - 1)) && Qvd ms m (k + 1) os
def Qoe (ms : List Nat) : Nat -> Nat -> Nat
 | 0, m => m
 | k + 1, m => bif Nat.beq (maskAt ms k) (2 ^ k - 1) then Qoe ms k k else m
def Qqc (ops : Array Oper) : Option Nat :=
 let ms := masks ops.toList []
 let m := Qoe ms ops.toList.length ops.toList.length
 bif Qrg ms 0 ops.toList && Qrh ms ops.toList 0 ops.toList && Qvc ops.toList 0 ops.toList && Qvd ms m 0 ops.toList then some m else none
def valOf : Next -> Option Value
 | .value v => some v
 | .skip => some undef
 | _ => none
end Go.Proofs.Ytjomicmhnbmhoaa.Ev
end

section
set_option linter.unusedVariables false
set_option linter.unusedSimpArgs false
namespace Go.Proofs.Ytjomicmhnbmhoaa.Ev
open Go
section
variable {P : Program} {fl : Nat}
end
end Go.Proofs.Ytjomicmhnbmhoaa.Ev
end

section
set_option linter.unusedVariables false
set_option linter.unusedSimpArgs false
namespace Go.Proofs.Ytjomicmhnbmhoaa.Ev
open Go
def fen (r : Option Nat) : Fence := { Fence.wide with round := r }
section
variable {P : Program} {base fl : Nat} {ρ : Ren}
def Qrm (tmps : Array Value) : ResultVar -> Sem Value
 | .tmp t => Pure.pure (tmps.getD t undef)
 | .cell a t => do Go.loadVar t (<- Go.asAddr (tmps.getD a undef))
theorem Qo9 {fn : Func} {tmps : Array Value} {vs : List Value} {w : World} (h : (fn.results.toList.mapM (Qrm tmps)).run P w = .ok vs w) :
 (results fn tmps).run P w = .ok (if h : vs.length = 1 then vs[0] else .tuple vs.toArray) w := by
 unfold results
 have e : (fun x : ResultVar => (match x with
  | .tmp t => Pure.pure (tmps.getD t undef)
  | .cell a t => do Go.loadVar t (<- Go.asAddr (tmps.getD a undef)) : Sem Value)) = Qrm tmps := by
  funext x; cases x <;> rfl
 rw [Sem.run_bind]
 show ((fn.results.mapM (fun x : ResultVar => (match x with
  | .tmp t => Pure.pure (tmps.getD t undef)
  | .cell a t => do Go.loadVar t (<- Go.asAddr (tmps.getD a undef)) : Sem Value))).run P w).andThen _ = _
 rw [e, Array.mapM_eq_mapM_toList, map_eq_pure_bind, Sem.run_bind, h]
 simp only [Result.andThen_ok, Sem.run_pure]
 congr 1
theorem Qoa {w : World} {r : Nat} (h : w.heap[r]? = some (.deferred (some []))) : (Instr.takeDeferred r).run P w = .ok [] { w with heap := w.heap.setIfInBounds r (.deferred none) } := by
 unfold Instr.takeDeferred
 rw [Sem.run_bind, Qb3 h (fun _ _ _ h => by cases h)]
 simp only [Result.andThen_ok]
 rw [Sem.run_bind, Qez h (fun _ _ _ h => by cases h)]
 rfl
end
end Go.Proofs.Ytjomicmhnbmhoaa.Ev
end

section
set_option linter.unusedVariables false
set_option linter.unusedSimpArgs false
namespace Go.Proofs.Ytjomicmhnbmhoaa.Ev
open Go
section
variable {P : Program} {base fl : Nat} {ρ : Ren}
end
end Go.Proofs.Ytjomicmhnbmhoaa.Ev
end

section
set_option linter.unusedVariables false
set_option linter.unusedSimpArgs false
namespace Go.Proofs.Ytjomicmhnbmhoaa.Ev
open Go
section
variable {P : Program} {base fl : Nat} {ρ : Ren}
theorem Qj2 {w : World} {l : Nat} {r : Loop} (h : w.heap[l]? = some (.loop r)) : (Instr.getLoop l).run P w = .ok r w := by
 unfold Instr.getLoop
 rw [Sem.run_bind, Qb3 h (fun _ _ _ h => by cases h)]; rfl
theorem Qp0 {w : World} {l : Nat} {r : Loop} (h : w.heap[l]? = some (.loop r)) (hs : r.state = .ready) : (Instr.beginRound l).run P w = .ok () { w with heap := w.heap.setIfInBounds l (.loop { r with state := .busy }) } := by
 unfold Instr.beginRound
 rw [Sem.run_bind, Qj2 h]
 simp only [Result.andThen_ok]
 rw [Sem.run_bind, Qez h (fun _ _ _ h => by cases h)]
 simp only [Result.andThen_ok, hs]; rfl
theorem Qsi {w : World} {l : Nat} {r : Loop} {j : Option Code} (h : w.heap[l]? = some (.loop r)) :
 (Instr.endRound l j).run P w = .ok (.bool j.isNone) { w with heap := w.heap.setIfInBounds l (.loop { r with state := if j.isNone then .ready else .done, pending := j }) } := by
 unfold Instr.endRound
 rw [Sem.run_bind, Qj2 h]
 simp only [Result.andThen_ok]
 rw [Sem.run_bind, Qez h (fun _ _ _ h => by cases h)]; rfl
def Named (P : Program) : Prop := ∀ (f : Nat) (fn : Func), P.funcs[f]? = some fn -> (fn.name == "runtime.NumGoroutine") = false
theorem Qjy {g : Nat} {fn : Func} {c : Code} (hn : Named P) (hf : P.funcs[g]? = some fn) (hb : fn.body = some c) (args : Array Value) (w : World) : (callFunc g args).run P w = .ok (.enter g args) w := by
 unfold callFunc
 rw [Sem.run_bind, run_program]
 simp only [Result.andThen_ok, hf, hn g fn hf, Bool.false_eq_true, if_false, hb, Option.isNone_some]
 rfl
end
end Go.Proofs.Ytjomicmhnbmhoaa.Ev
end

section
set_option linter.unusedVariables false
set_option linter.unusedSimpArgs false
namespace Go.Proofs.Ytjomicmhnbmhoaa.Ev
open Go
section
variable {P : Program} {base fl : Nat} {ρ : Ren}
theorem Qqr {ms : List Nat} : ∀ (l : List Nat) (j : Nat), (Qn0 ms l).testBit j = true -> ∃ e ∈ l, j = e \/ (maskAt ms e).testBit j = true
 | [], j, h => by simp [Qn0] at h
 | e :: l, j, h => by
   simp only [Qn0, Nat.testBit_or, Bool.or_eq_true, Nat.testBit_two_pow] at h
   rcases h with (h | h) | h
   ·exact ⟨e, by simp, .inl (by simpa using (of_decide_eq_true h).symm)⟩
   ·exact ⟨e, by simp, .inr h⟩
   ·obtain ⟨e', h1, h2⟩ := Qqr l j h
    exact ⟨e', by simp [h1], h2⟩
structure Stat (ops : Array Oper) (ms : List Nat) (m : Nat) : Prop where
 edge : ∀ (k : Nat) (o : Oper), ops[k]? = some o -> ∀ e ∈ Qiq o, e < k
 mask : ∀ (k : Nat) (o : Oper), ops[k]? = some o -> maskAt ms k = Qn0 ms (Qiq o)
 look : ∀ (k : Nat) (o : Oper) (t j : Nat), ops[k]? = some o -> t ∈ Qhr ops.toList o -> Qfm t 0 ops.toList = some j -> j = k \/ (j < k /\ (maskAt ms k).testBit j = true) \/ (k < j /\ (maskAt ms j).testBit k = true)
 dst : ∀ (k : Nat) (o : Oper) (d : Nat), ops[k]? = some o -> o.dst = some d -> Qfm d 0 ops.toList = some k
 bar : ∀ k, m <= k -> k < ops.size -> maskAt ms k = 2 ^ k - 1
theorem Qe6 {ops : Array Oper} (k : Nat) : ops.toList[k]? = ops[k]? := by simp
theorem Qle {ms : List Nat} : ∀ (l : List Oper) (k : Nat), Qrg ms k l = true -> ∀ (j : Nat) (o : Oper), l[j]? = some o -> (∀ e ∈ Qiq o, e < k + j) /\ maskAt ms (k + j) = Qn0 ms (Qiq o)
 | [], k, h, j, o, hj => by simp at hj
 | o' :: l, k, h, j, o, hj => by
   simp only [Qrg, Bool.and_eq_true] at h
   cases j with
   | zero =>
     simp at hj; subst hj
     exact ⟨fun e he => by have := List.all_eq_true.1 h.1.1 e he; exact Qec this, Nat.eq_of_beq_eq_true h.1.2⟩
   | succ j =>
     simp at hj
     have := Qle l (k + 1) h.2 j o hj
     rw [show k + 1 + j = k + (j + 1) by omega] at this
     exact this
theorem Qn4 {ms : List Nat} {ops : List Oper} : ∀ (l : List Oper) (k : Nat), Qrh ms ops k l = true -> ∀ (i : Nat) (o : Oper), l[i]? = some o -> ∀ t ∈ Qhr ops o, ∀ j, Qfm t 0 ops = some j ->
 j = k + i \/ (j < k + i /\ (maskAt ms (k + i)).testBit j = true) \/ (k + i < j /\ (maskAt ms j).testBit (k + i) = true)
 | [], k, h, i, o, hi => by simp at hi
 | o' :: l, k, h, i, o, hi => by
   simp only [Qrh, Bool.and_eq_true] at h
   cases i with
   | zero =>
     simp at hi; subst hi
     intro t ht j hj
     have := List.all_eq_true.1 h.1 t ht
     rw [hj] at this
     simp only [Bool.or_eq_true, Bool.and_eq_true] at this
     rcases this with (h1 | h1) | h1
     ·exact .inl (Nat.eq_of_beq_eq_true h1)
     ·exact .inr (.inl ⟨Qec h1.1, h1.2⟩)
     ·exact .inr (.inr ⟨Qec h1.1, h1.2⟩)
   | succ i =>
     simp at hi
     intro t ht j hj
     have := Qn4 l (k + 1) h.2 i o hi t ht j hj
     rw [show k + 1 + i = k + (i + 1) by omega] at this
     exact this
theorem Qpn {ops : List Oper} : ∀ (l : List Oper) (k : Nat), Qvc ops k l = true -> ∀ (i : Nat) (o : Oper), l[i]? = some o -> ∀ d, o.dst = some d -> Qfm d 0 ops = some (k + i)
 | [], k, h, i, o, hi => by simp at hi
 | o' :: l, k, h, i, o, hi => by
   simp only [Qvc, Bool.and_eq_true] at h
   cases i with
   | zero =>
     simp at hi; subst hi
     intro d hd
     have := h.1
     rw [hd] at this
     dsimp only at this
     split at this
     ·rename_i j hj; rw [hj, Nat.eq_of_beq_eq_true this]; rfl
     ·cases this
   | succ i =>
     simp at hi
     intro d hd
     have := Qpn l (k + 1) h.2 i o hi d hd
     rw [show k + 1 + i = k + (i + 1) by omega] at this
     exact this
theorem Qpo {ms : List Nat} {m : Nat} : ∀ (l : List Oper) (k : Nat), Qvd ms m k l = true -> ∀ i, i < l.length -> m <= k + i -> maskAt ms (k + i) = 2 ^ (k + i) - 1
 | [], k, h, i, hi => by simp at hi
 | o' :: l, k, h, i, hi => by
   simp only [Qvd, Bool.and_eq_true] at h
   cases i with
   | zero =>
     intro hm
     have := h.1
     simp only [Bool.or_eq_true] at this
     rcases this with h1 | h1
     ·have := Qec h1; omega
     ·exact Nat.eq_of_beq_eq_true h1
   | succ i =>
     intro hm
     have := Qpo l (k + 1) h.2 i (by simpa using hi) (by omega)
     rw [show k + 1 + i = k + (i + 1) by omega] at this
     exact this
theorem Qts {ops : Array Oper} {m : Nat} (h : Qqc ops = some m) : Stat ops (masks ops.toList []) m := by
 unfold Qqc at h
 dsimp only at h
 have hb0 := Qm h; clear h; obtain ⟨hc, h⟩ := hb0
 injection h with h
 rw [h] at hc
 simp only [Bool.and_eq_true] at hc
 obtain ⟨⟨⟨h1, h2⟩, h3⟩, h4⟩ := hc
 refine ⟨fun k o hk e he => ?_, fun k o hk => ?_, fun k o t j hk ht hj => ?_, fun k o d hk hd => ?_, fun k hm hk => ?_⟩
 ·have := (Qle _ 0 h1 k o (by rw [Qe6]; exact hk)).1 e he; omega
 ·have := (Qle _ 0 h1 k o (by rw [Qe6]; exact hk)).2; rwa [Nat.zero_add] at this
 ·have := Qn4 _ 0 h2 k o (by rw [Qe6]; exact hk) t ht j hj; rwa [Nat.zero_add] at this
 ·have := Qpn _ 0 h3 k o (by rw [Qe6]; exact hk) d hd; rwa [Nat.zero_add] at this
 ·have := Qpo _ 0 h4 k (by simpa using hk) (by omega); rwa [Nat.zero_add] at this
def Cl (ops : Array Oper) (listed : Array Bool) : Prop := ∀ (k : Nat) (o : Oper), ops[k]? = some o -> listed.getD k false = true -> ∀ e ∈ Qiq o, listed.getD e false = true
theorem Stat.pre {ops : Array Oper} {ms : List Nat} {m : Nat} (h : Stat ops ms m) {listed : Array Bool} (hc : Cl ops listed) : ∀ (k : Nat) (o : Oper), ops[k]? = some o -> (∀ e ∈ Qiq o, listed.getD e false = true) ->
 ∀ j, (maskAt ms k).testBit j = true -> listed.getD j false = true := by
 intro k
 induction k using Nat.strongRecOn with
 | _ k ih =>
   intro o ho hr j hj
   rw [h.mask k o ho] at hj
   obtain ⟨e, he, h1⟩ := Qqr _ _ hj
   rcases h1 with rfl | h1
   ·exact hr _ he
   ·have hlt := h.edge k o ho e he
    have hes : e < ops.size := Nat.lt_trans hlt (Array.getElem?_eq_some_iff.1 ho).1
    have hoe : ops[e]? = some ops[e] := Array.getElem?_eq_getElem hes
    exact ih e hlt _ hoe (hc e _ hoe (hr e he)) j h1
theorem Qsv {o : Oper} {e : Nat} : e ∈ Qiq o ↔ ∃ x ∈ o.after, Region.binds .any x = true /\ x.on = e := by
 unfold Qiq
 rw [List.mem_filterMap]
 constructor
 ·rintro ⟨x, hx, h⟩
  refine ⟨x, Array.mem_toList_iff.1 hx, ?_⟩
  unfold Region.binds
  cases hg : x.ground <;> rw [hg] at h <;> simp at h ⊢ <;> exact h
 ·rintro ⟨x, hx, hb, rfl⟩
  refine ⟨x, Array.mem_toList_iff.2 hx, ?_⟩
  unfold Region.binds at hb
  cases hg : x.ground <;> rw [hg] at hb <;> simp at hb ⊢
theorem Qf5 {t : Nat} : ∀ (l : List Oper) (k j : Nat), Qfm t k l = some j -> ∃ i o, j = k + i /\ l[i]? = some o /\ o.dst = some t
 | [], k, j, h => by simp [Qfm] at h
 | o :: l, k, j, h => by
   simp only [Qfm] at h
   split at h
   ·rename_i d hd
    cases hb : Nat.beq d t with
    | true =>
      rw [hb] at h
      simp only [cond_true, Option.some.injEq] at h
      exact ⟨0, o, by omega, rfl, by rw [hd, Nat.eq_of_beq_eq_true hb]⟩
    | false =>
      rw [hb] at h
      obtain ⟨i, o', h1, h2, h3⟩ := Qf5 l (k + 1) j h
      exact ⟨i + 1, o', by omega, by simpa using h2, h3⟩
   ·obtain ⟨i, o', h1, h2, h3⟩ := Qf5 l (k + 1) j h
    exact ⟨i + 1, o', by omega, by simpa using h2, h3⟩
end
end Go.Proofs.Ytjomicmhnbmhoaa.Ev
end

section
set_option linter.unusedVariables false
set_option linter.unusedSimpArgs false
namespace Go.Proofs.Ytjomicmhnbmhoaa.Ev
open Go
section
variable {P : Program} {base fl : Nat} {ρ : Ren}
end
end Go.Proofs.Ytjomicmhnbmhoaa.Ev
end

section
set_option linter.unusedVariables false
set_option linter.unusedSimpArgs false
namespace Go.Proofs.Ytjomicmhnbmhoaa.Ev
open Go
section
variable {P : Program} {base fl : Nat} {ρ : Ren} {ops : Array Oper} {ms : List Nat} {bs : List (Nat × Nat)} {m sz : Nat} {val : Nat -> Value}
end
end Go.Proofs.Ytjomicmhnbmhoaa.Ev
end

section
set_option linter.unusedVariables false
set_option linter.unusedSimpArgs false
namespace Go.Proofs.Ytjomicmhnbmhoaa.Ev
open Go
section
variable {P : Program} {base fl : Nat} {ρ : Ren} {ops : Array Oper} {ms : List Nat} {bs : List (Nat × Nat)} {m sz : Nat} {val : Nat -> Value}
theorem Qmr {ops : Array Oper} {o : Oper} {t : Nat} (h : Operand.tmp t ∈ o.op.operands) : t ∈ Qhr ops.toList o := by
 unfold Qhr
 refine List.mem_append_left _ (List.mem_filterMap.2 ⟨.tmp t, Array.mem_toList_iff.2 h, rfl⟩)
end
end Go.Proofs.Ytjomicmhnbmhoaa.Ev
end

section
set_option linter.unusedVariables false
set_option linter.unusedSimpArgs false
namespace Go.Proofs.Ytjomicmhnbmhoaa.Ev
open Go
section
variable {P : Program} {base fl : Nat} {ρ : Ren} {ops : Array Oper} {ms : List Nat} {bs : List (Nat × Nat)} {m sz : Nat} {val : Nat -> Value}
theorem Qq6 {listed : Array Bool} {k : Nat} (hk : k < listed.size) (j : Nat) : (listed.setIfInBounds k true).getD j false = if j = k then true else listed.getD j false := by
 rw [Array.getD_eq_getD_getElem?, Array.getElem?_setIfInBounds, Array.getD_eq_getD_getElem?]
 by_cases e : k = j
 ·subst e; rw [if_pos rfl, if_pos hk, if_pos rfl]; rfl
 ·rw [if_neg e, if_neg (fun h => e h.symm)]
theorem Qhd {sz : Nat} {ops : Array Oper} (h : Qpy sz ops = true) {k : Nat} {o : Oper} (ho : ops[k]? = some o) : sz < 1000000 /\ (∀ d : Nat, o.dst = some d -> d < sz) /\ (∀ x ∈ o.op.operands, Qsn x = true) := by
 unfold Qpy at h
 simp only [Bool.and_eq_true] at h
 have := List.all_eq_true.1 h.2 o (Array.mem_toList_iff.2 (Array.mem_of_getElem? ho))
 simp only [Bool.and_eq_true] at this
 refine ⟨Qec h.1, fun d hd => ?_, fun x hx => List.all_eq_true.1 this.1 x (Array.mem_toList_iff.2 hx)⟩
 have h2 := this.2
 rw [hd] at h2
 exact Qec h2
end
end Go.Proofs.Ytjomicmhnbmhoaa.Ev
end

section
set_option linter.unusedVariables false
set_option linter.unusedSimpArgs false
namespace Go.Proofs.Ytjomicmhnbmhoaa.Ev
open Go
section
variable {P : Program} {base fl : Nat} {ρ : Ren} {ops : Array Oper} {ms : List Nat} {bs : List (Nat × Nat)} {m sz : Nat} {val : Nat -> Value}
end
end Go.Proofs.Ytjomicmhnbmhoaa.Ev
end

section
set_option linter.unusedVariables false
set_option linter.unusedSimpArgs false
namespace Go.Proofs.Ytjomicmhnbmhoaa.Ev
open Go
def cnt (listed : Array Bool) : Nat -> Nat
 | 0 => 0
 | n + 1 => (if listed.getD n false = true then 1 else 0) + cnt listed n
theorem cnt_le (listed : Array Bool) (m : Nat) (h : ∀ j, listed.getD j false = true -> j < m) : ∀ n, cnt listed n <= m /\ cnt listed n <= n
 | 0 => ⟨Nat.zero_le _, Nat.le_refl _⟩
 | n + 1 => by
   have h1 : ∀ m n, (∀ j, listed.getD j false = true -> j < n -> j < m) -> cnt listed n <= m /\ cnt listed n <= n := by
    intro m n
    induction n generalizing m with
    | zero => intro _; exact ⟨Nat.zero_le _, Nat.le_refl _⟩
    | succ n ih =>
      intro h
      simp only [cnt]
      by_cases c : listed.getD n false = true
      ·rw [if_pos c]
       have h0 := h n c (Nat.lt_succ_self _)
       have := ih n (fun j _ hj => hj)
       have h2 := ih (m - 1) (fun j hj hjn => by have := h j hj (by omega); omega)
       omega
      ·rw [if_neg c]
       have := ih m (fun j hj hjn => h j hj (by omega))
       omega
   exact h1 m (n + 1) (fun j hj _ => h j hj)
theorem Qyb {listed : Array Bool} {k : Nat} (hk : k < listed.size) (hl : listed.getD k false = false) : ∀ n, cnt (listed.setIfInBounds k true) n = cnt listed n + if k < n then 1 else 0
 | 0 => rfl
 | n + 1 => by
   simp only [cnt]
   rw [Qyb hk hl n, Qq6 hk]
   by_cases c : n = k
   ·subst c
    rw [if_pos rfl, if_pos rfl, if_neg (Nat.lt_irrefl _), if_pos (Nat.lt_succ_self _), hl, if_neg (by simp)]
    omega
   ·rw [if_neg c]
    by_cases c2 : k < n
    ·rw [if_pos c2, if_pos (show k < n + 1 by omega)]; omega
    ·rw [if_neg c2, if_neg (show ¬ k < n + 1 by omega)]; omega
theorem cnt_lt {listed : Array Bool} {k : Nat} (hl : listed.getD k false = false) : ∀ n, k < n -> cnt listed n < n
 | 0, h => by omega
 | n + 1, h => by
   have hle : cnt listed n <= n := (cnt_le listed (listed.size) (fun j hj => by
    rcases Nat.lt_or_ge j listed.size with h | h
    ·exact h
    ·rw [Array.getD_eq_getD_getElem?, Array.getElem?_eq_none h] at hj; cases hj) n).2
   simp only [cnt]
   by_cases c : k = n
   ·subst c; rw [hl, if_neg (by simp)]; omega
   ·have := cnt_lt hl n (by omega)
    split <;> omega
theorem Qmu {ops : Array Oper} {listed : Array Bool} (hs : listed.size = ops.size) {j : Nat} : j ∈ Region.ready .any ops listed ↔ j < ops.size /\ listed.getD j false = false /\ ∀ o, ops[j]? = some o -> ∀ e ∈ Qiq o, listed.getD e false = true := by
 unfold Region.ready
 rw [List.mem_filter, List.mem_range]
 constructor
 ·rintro ⟨h1, h2⟩
  simp only [Bool.and_eq_true, Bool.not_eq_true'] at h2
  refine ⟨h1, ?_, fun o ho e he => ?_⟩
  ·have := h2.1
   rw [Array.getD_eq_getD_getElem?, Array.getElem?_eq_getElem (by omega)] at this ⊢
   exact this
  ·have := h2.2
   rw [ho] at this
   simp only [Option.map_some, Option.getD_some] at this
   obtain ⟨x, hx, hb, rfl⟩ := Qsv.1 he
   have := (Array.all_eq_true_iff_forall_mem.1 this) x hx
   rw [hb] at this
   simpa using this
 ·rintro ⟨h1, h2, h3⟩
  refine ⟨h1, ?_⟩
  simp only [Bool.and_eq_true, Bool.not_eq_true']
  refine ⟨?_, ?_⟩
  ·rw [Array.getD_eq_getD_getElem?, Array.getElem?_eq_getElem (by omega)] at h2 ⊢
   exact h2
  ·rw [Array.getElem?_eq_getElem h1]
   simp only [Option.map_some, Option.getD_some]
   rw [Array.all_eq_true_iff_forall_mem]
   intro x hx
   cases hb : Region.binds .any x with
   | false => rfl
   | true =>
     simp only [Bool.not_true, Bool.false_or]
     exact h3 _ (Array.getElem?_eq_getElem h1) _ (Qsv.2 ⟨x, hx, hb, rfl⟩)
section
variable {P : Program} {base fl : Nat} {ρ : Ren} {ops : Array Oper} {ms : List Nat} {bs : List (Nat × Nat)} {m sz : Nat} {val : Nat -> Value}
theorem Qya {k j : Nat} (h : j < k) : (2 ^ k - 1).testBit j = true := by
 rw [Nat.testBit_two_pow_sub_one]; simpa using h
end
end Go.Proofs.Ytjomicmhnbmhoaa.Ev
end

section
set_option linter.unusedVariables false
set_option linter.unusedSimpArgs false
namespace Go.Proofs.Ytjomicmhnbmhoaa.Ev
open Go
def LoopIn (F : Fence) (n : Nat) (P : Program) (c : Code) (Q : Exit -> Act -> World -> Prop) (a : Act) (w : World) : Prop :=
 ∀ (b : Frame) (k : List Item) (cs : List Frame), b.roundOf = F.round -> F.fn b.fn -> F.room (cs.length + 1 + n) ->
   ∃ e a' w', Q e a' w' /\ ArrivesIn (Machine.fenced P F) P (lone (b.atR a (.code c :: .inLoop c :: k)) cs w) b k cs e a' w'
theorem Qsy {F : Fence} {n : Nat} {P : Program} {c : Code} {Q : Exit -> Act -> World -> Prop} {a : Act} {w : World} (h : LoopIn F n P c Q a w) : (Code.loop c).wpIn F n P Q a w := by
 intro b k cs hro hb hr
 obtain ⟨e, a', w', hq, harr⟩ := h b k cs hro hb hr
 exact ⟨e, a', w', hq, .of_steps (.one (fenced_calm hb hr rfl) stepR_loop) harr⟩
theorem Qmg {F : Fence} {n : Nat} {P : Program} {c : Code} {Q : Exit -> Act -> World -> Prop} {a : Act} {w : World} (h : c.wpIn F n P (Exit.then (LoopIn F n P c Q) Q) a w) : LoopIn F n P c Q a w := by
 intro b k cs hro hb hr
 obtain ⟨e, a₁, w₁, hq, harr⟩ := h b (.inLoop c :: k) cs hro hb hr
 cases e with
 | normal =>
   obtain ⟨e₂, a₂, w₂, hq₂, harr₂⟩ := hq b k cs hro hb hr
   exact ⟨e₂, a₂, w₂, hq₂, .of_steps (StepsIn.trans harr (.one (fenced_calm hb hr rfl) stepR_inLoop)) harr₂⟩
 | exit id => exact ⟨_, a₁, w₁, hq, .pass (x := .inLoop c) rfl (fun _ _ => .inl (by simp)) harr⟩
 | goto l => exact ⟨_, a₁, w₁, hq, .pass (x := .inLoop c) rfl (fun _ _ => .inl (by simp)) harr⟩
 | ret => exact ⟨_, a₁, w₁, hq, .pass (x := .inLoop c) rfl (fun _ _ => .inl (by simp)) harr⟩
 | panic ch => exact ⟨_, a₁, w₁, hq, .pass (x := .inLoop c) rfl (fun _ _ => .inl (by simp)) harr⟩
 | outgrown => exact ⟨_, a₁, w₁, hq, .pass (x := .inLoop c) rfl (fun _ _ => .inl (by simp)) harr⟩
section
variable {P : Program} {base fl : Nat} {ρ : Ren}
theorem Qt6 {w : World} {l : Nat} {r : Loop} (h : w.heap[l]? = some (.loop r)) (hs : r.state ≠ .busy) : (Instr.endLoop l).run P w = .ok r.pending { w with heap := w.heap.setIfInBounds l (.loop { r with state := .exhausted }) } := by
 unfold Instr.endLoop
 rw [Sem.run_bind, Qj2 h]
 simp only [Result.andThen_ok]
 have e : (r.state == LoopState.busy) = false := by
  cases hst : r.state <;> first | rfl | exact absurd hst hs
 rw [e]
 simp only [Bool.false_eq_true, if_false]
 rw [Sem.run_bind, Qez h (fun _ _ _ h => by cases h)]
 rfl
theorem Qpl {ms : List Nat} : ∀ (k m : Nat), k <= m -> Qoe ms k m <= m
 | 0, m, _ => Nat.le_refl _
 | k + 1, m, h => by
   simp only [Qoe]
   cases Nat.beq (maskAt ms k) (2 ^ k - 1) with
   | true => exact Nat.le_trans (Qpl k k (Nat.le_refl _)) (by omega)
   | false => exact Nat.le_refl _
theorem Qyd {ops : Array Oper} {m : Nat} (h : Qqc ops = some m) : m <= ops.size := by
 unfold Qqc at h
 dsimp only at h
 have hb0 := Qm h; clear h; obtain ⟨_, h⟩ := hb0
 injection h with h
 rw [<- h, <- Array.length_toList]
 exact Qpl _ _ (Nat.le_refl _)
end
end Go.Proofs.Ytjomicmhnbmhoaa.Ev
end

section
set_option linter.unusedVariables false
set_option linter.unusedSimpArgs false
namespace Go.Proofs.Ytjomicmhnbmhoaa.Ev
open Go
def Q2j (P : Program) : Bool := P.funcs.toList.all fun fn => !(fn.name == "runtime.NumGoroutine")
theorem Q1l {P : Program} (h : Q2j P = true) : Named P := by
 intro f fn hf
 have := List.all_eq_true.1 h fn (Array.mem_toList_iff.2 (Array.mem_of_getElem? hf))
 simpa using this
end Go.Proofs.Ytjomicmhnbmhoaa.Ev
end

import Derived.Test.YtfeedchjdnedjaaEv10
import Derived.Laws.Cells
set_option linter.unusedVariables false
set_option linter.unusedSimpArgs false
namespace Go.Proofs.Ytfeedchjdnedjaa.Ev
open Go
inductive Upd where
 | same
 | put (b : Nat) (o : Obj)
 | new (o : Obj)
 | killNew (b : Nat) (o : Obj)
def World.upd (w : World) : Upd -> World
 | .same => w
 | .put b o => { w with heap := w.heap.setIfInBounds b o }
 | .new o => w.alloc o
 | .killNew b o => (World.kill w b).alloc o
abbrev Mem := Nat -> Option Obj
def Qbe {α : Type} : Nat -> List α -> Option (List α)
 | 0, _ => some []
 | n + 1, a :: l => match Qbe n l with
   | some r => some (a :: r)
   | none => none
 | _ + 1, [] => none
def Qbm {α : Type} : Nat -> List α -> List α
 | 0, l => l
 | _ + 1, [] => []
 | n + 1, _ :: l => Qbm n l
def putL {α : Type} : List α -> List α -> Option (List α)
 | l, [] => some l
 | [], _ :: _ => none
 | _ :: l, x :: xs => match putL l xs with
   | some r => some (x :: r)
   | none => none
def setL {α : Type} : Nat -> List α -> List α -> Option (List α)
 | 0, l, xs => putL l xs
 | _ + 1, [], _ => none
 | n + 1, a :: l, xs => match setL n l xs with
   | some r => some (a :: r)
   | none => none
def getL {α : Type} : Nat -> List α -> Option α
 | _, [] => none
 | 0, a :: _ => some a
 | n + 1, _ :: l => getL n l
theorem Jj {α : Type} : ∀ (n : Nat) (l : List α), getL n l = l[n]?
 | n, [] => by cases n <;> simp [getL]
 | 0, a :: l => by simp [getL]
 | n + 1, a :: l => by simp [getL, Jj n l]
theorem Qfc {α : Type} : ∀ (n : Nat) (l r : List α), Qbe n l = some r -> r = l.take n /\ r.length = n
 | 0, l, r, h => by simp only [Qbe, Option.some.injEq] at h; subst h; simp
 | n + 1, [], r, h => by simp [Qbe] at h
 | n + 1, a :: l, r, h => by
   simp only [Qbe] at h
   split at h
   ·rename_i r' hr
    injection h with h
    obtain ⟨h1, h2⟩ := Qfc n l r' hr
    subst h
    exact ⟨by rw [h1]; rfl, by rw [List.length_cons, h2]⟩
   ·cases h
theorem Qa5 {α : Type} : ∀ (n : Nat) (l : List α), Qbm n l = l.drop n
 | 0, l => rfl
 | n + 1, [] => rfl
 | n + 1, a :: l => by simp [Qbm, Qa5 n l]
theorem Qtm {α : Type} : ∀ (l xs r : List α), putL l xs = some r -> r = xs ++ l.drop xs.length /\ xs.length <= l.length
 | l, [], r, h => by cases l <;> (simp only [putL, Option.some.injEq] at h; subst h; simp)
 | [], x :: xs, r, h => by simp [putL] at h
 | a :: l, x :: xs, r, h => by
   simp only [putL] at h
   split at h
   ·rename_i r' hr
    injection h with h
    obtain ⟨h1, h2⟩ := Qtm l xs r' hr
    subst h
    exact ⟨by rw [h1]; simp, by simpa using h2⟩
   ·cases h
theorem Qd2 {α : Type} : ∀ (n : Nat) (l xs r : List α), setL n l xs = some r -> r = l.take n ++ xs ++ l.drop (n + xs.length) /\ n + xs.length <= l.length
 | 0, l, xs, r, h => by
   obtain ⟨h1, h2⟩ := Qtm l xs r (by simpa [setL] using h)
   exact ⟨by simpa using h1, by simpa using h2⟩
 | n + 1, [], xs, r, h => by simp [setL] at h
 | n + 1, a :: l, xs, r, h => by
   simp only [setL] at h
   split at h
   ·rename_i r' hr
    injection h with h
    obtain ⟨h1, h2⟩ := Qd2 n l xs r' hr
    subst h
    refine ⟨?_, by simp; omega⟩
    rw [h1, show n + 1 + xs.length = (n + xs.length) + 1 by omega]
    simp
   ·cases h
section
variable {P : Program} {base fl : Nat}
def Qaq (P : Program) (t : TypeId) : Option Bool := match P.underlying t with
 | some (.struct _) | some (.array _ _) => some true
 | some _ => some false
 | none => none
theorem Qe3 {t : TypeId} {b : Bool} (h : Qaq P t = some b) (w : World) : (Go.isAgg t).run P w = .ok b w := by
 unfold Qaq at h
 unfold Go.isAgg
 cases hu : P.underlying t with
 | none => rw [hu] at h; cases h
 | some d =>
   rw [Sem.run_bind, Qh hu]
   rw [hu] at h
   cases d <;> (simp only [Option.some.injEq] at h; subst h; rfl)
def Qh6 (P : Program) (mem : Mem) (t : TypeId) (v : Value) : Option Value :=
 match v with
 | .pointer (some ⟨b, o, none⟩) => match mem b with
   | some (.cells c _ _) => match Qaq P t with
     | some true => match szOf P t with
       | some n => match Qbe n (Qbm o c.toList) with
         | some l => some (.agg ⟨l⟩)
         | none => none
       | none => none
     | some false => getL o c.toList
     | none => none
   | _ => none
 | _ => none
theorem Qen {wA : World} {t : TypeId} {v r : Value} (h : Qh6 P (fun b => wA.heap[b]?) t v = some r) : (Instr.loadAt t v).run P wA = .ok r wA := by
 unfold Qh6 at h
 split at h
 case h_2 => cases h
 rename_i b o
 split at h
 case h_2 => cases h
 rename_i c ct fr hb
 have hcell : ∀ k u, c.toList[k]? = some u -> wA.cell? ⟨b, k, none⟩ = some u := fun k u hu => Qky hb (by simpa using hu)
 show (Go.loadVar t ⟨b, o, none⟩).run P wA = _
 unfold Go.loadVar
 split at h
 ·rename_i hag
  rw [Sem.run_bind, Qe3 hag]
  simp only [Result.andThen_ok, if_true]
  split at h
  case h_2 => cases h
  rename_i n hn
  split at h
  case h_2 => cases h
  rename_i l hl
  injection h with h
  subst h
  obtain ⟨h1, h2⟩ := Qfc _ _ _ hl
  rw [Sem.run_bind, Xn hn]
  simp only [Result.andThen_ok]
  have := run_loadCells_list (P := P) wA ⟨b, o, none⟩ l (fun j u hu => by
   rw [Yi]
   refine hcell _ _ ?_
   rw [h1, Qa5, List.getElem?_take] at hu
   split at hu
   ·rw [List.getElem?_drop] at hu; exact hu
   ·cases hu)
  rw [h2] at this
  rw [Sem.run_bind, this]; rfl
 ·rename_i hag
  rw [Sem.run_bind, Qe3 hag]
  simp only [Result.andThen_ok, Bool.false_eq_true, if_false]
  rw [Jj] at h
  rw [run_load, hcell _ _ h]
 ·cases h
theorem Qcw {w : World} {b : Nat} {c new : Array Value} {t : TypeId} {fr : Nat × Nat} (h : w.heap[b]? = some (.cells c t fr)) : w.setRow b new = World.upd w (.put b (.cells new t fr)) := by
 unfold World.upd World.setRow
 congr 1
 refine Array.ext_getElem? fun k => ?_
 rw [heap_set _ h k, Array.getElem?_modify]
 by_cases e : b = k
 ·subst e; simp [h]
 ·rw [if_neg e, if_neg (fun h => e h.symm)]
def Qic (P : Program) (fl : Nat) (mem : Mem) (t : TypeId) (v x : Value) : Option Upd :=
 match v with
 | .pointer (some ⟨b, o, none⟩) =>
   bif Nat.ble fl b then
    match mem b with
    | some (.cells c ct (0, 0)) => match szOf P t with
      | some n =>
        let xs := x.cells.toList
        bif Nat.beq xs.length n && xs.all (·.oneCell') then
         match setL o c.toList xs with
         | some l => some (.put b (.cells ⟨l⟩ ct (0, 0)))
         | none => none
        else none
      | none => none
    | _ => none
   else none
 | _ => none
theorem Qe {α : Type} {c : Bool} {x : Option α} {r : α} (h : (bif c then x else none) = some r) : c = true /\ x = some r := by
 cases c
 ·cases h
 ·exact ⟨rfl, h⟩
theorem Qj4 {wA : World} {t : TypeId} {v x : Value} {u : Upd} (h : Qic P fl (fun b => wA.heap[b]?) t v x = some u) : (Instr.storeAt t v x).run P wA = .ok () (World.upd wA u) /\ ∃ a, v = .pointer (some a) /\ fl <= a.block := by
 unfold Qic at h
 split at h
 case h_2 => cases h
 rename_i b o
 obtain ⟨hfl, h⟩ := Qe h
 split at h
 case h_2 => cases h
 rename_i c ct hb
 split at h
 case h_2 => cases h
 rename_i n hn
 obtain ⟨hc, h⟩ := Qe h
 simp only [Bool.and_eq_true, Nat.beq_eq] at hc
 split at h
 case h_2 => cases h
 rename_i l hl
 injection h with h
 subst h
 obtain ⟨h1, h2⟩ := Qd2 _ _ _ _ hl
 refine ⟨?_, ⟨b, o, none⟩, rfl, Nat.le_of_ble_eq_true hfl⟩
 show (Go.storeVar t ⟨b, o, none⟩ x).run P wA = _
 unfold Go.storeVar
 rw [Sem.run_bind, Xn hn]
 simp only [Result.andThen_ok]
 rw [if_neg (by rw [<- hc.1]; simp)]
 have := run_storeCells_at P b o ct x.cells.toList 0 c wA hb (by simpa using h2) (fun v hv => by simpa using (List.all_eq_true.1 hc.2) v hv)
 simp only [Nat.add_zero] at this
 rw [this, Qcw hb, h1]
def Qiy (place : Nat -> Option (Nat × Nat)) (cells : List Value) : List (Nat × Value) -> Option (List Value)
 | [] => some cells
 | (i, v) :: rest => match place i with
   | none => none
   | some (off, size) =>
     let xs := v.cells.toList
     bif Nat.beq xs.length size then
      match setL off cells xs with
      | some cells' => Qiy place cells' rest
      | none => none
     else none
theorem Qka (off : Nat) : ∀ (xs : List Value) (j : Nat) (cells : Array Value), off + j + xs.length <= cells.size ->
 ((xs.zipIdx j).foldl (fun cs (c, j) => cs.setIfInBounds (off + j) c) cells).toList = cells.toList.take (off + j) ++ xs ++ cells.toList.drop (off + j + xs.length)
 | [], j, cells, h => by simp
 | x :: xs, j, cells, h => by
   simp only [List.zipIdx_cons, List.foldl_cons, List.length_cons] at h ⊢
   rw [Qka off xs (j + 1) _ (by simp; omega)]
   have hlt : off + j < cells.toList.length := by rw [Array.length_toList]; omega
   rw [Array.toList_setIfInBounds]
   have e1 : (cells.toList.set (off + j) x).take (off + (j + 1)) = cells.toList.take (off + j) ++ [x] := by
    rw [show off + (j + 1) = off + j + 1 by omega, List.take_add_one, List.getElem?_set, if_pos rfl, if_pos hlt, List.take_set_of_le (Nat.le_refl _)]
    rfl
   have e2 : (cells.toList.set (off + j) x).drop (off + (j + 1) + xs.length) = cells.toList.drop (off + j + (xs.length + 1)) := by
    rw [List.drop_set_of_lt (by omega)]
    congr 1; omega
   rw [e1, e2]
   simp
theorem Qh1 (place : Nat -> Option (Nat × Nat)) : ∀ (ps : List (Nat × Value)) (cells : List Value) (r : List Value), Qiy place cells ps = some r -> Instr.fill place ⟨cells⟩ ps = some ⟨r⟩
 | [], cells, r, h => by simp only [Qiy, Option.some.injEq] at h; subst h; rfl
 | (i, v) :: rest, cells, r, h => by
   simp only [Qiy] at h
   simp only [Instr.fill]
   cases hp : place i with
   | none => rw [hp] at h; cases h
   | some y =>
     obtain ⟨off, size⟩ := y
     rw [hp] at h
     dsimp only at h ⊢
     obtain ⟨hc, h⟩ := Qe h
     have hc' : v.cells.size = size := by simpa using hc
     cases hs : setL off cells v.cells.toList with
     | none => rw [hs] at h; cases h
     | some cells' =>
       rw [hs] at h
       obtain ⟨h1, h2⟩ := Qd2 _ _ _ _ hs
       rw [Array.length_toList] at h2
       have hno : ¬ ((decide (v.cells.size ≠ size) || decide (off + v.cells.size > (⟨cells⟩ : Array Value).size)) = true) := by
        simp [hc']; rw [<- hc']; exact h2
       rw [if_neg hno]
       have : (v.cells.zipIdx.foldl (fun cs (c, j) => cs.setIfInBounds (off + j) c) (⟨cells⟩ : Array Value)) = ⟨cells'⟩ := by
        apply Array.ext'
        rw [<- Array.foldl_toList, Array.toList_zipIdx]
        have := Qka off v.cells.toList 0 ⟨cells⟩ (by simpa using h2)
        rw [this, h1]
        simp
       rw [this]
       exact Qh1 place rest cells' r h
end
end Go.Proofs.Ytfeedchjdnedjaa.Ev

import Derived.Test.YtfeedchjdnedjaaEv12
set_option linter.unusedVariables false
set_option linter.unusedSimpArgs false
namespace Go.Proofs.Ytfeedchjdnedjaa.Ev
open Go
section
variable {P : Program} {base fl : Nat}
def Qcg (mem : Mem) (k : Nat) : Option Addr -> Option (List Value)
 | none => some []
 | some ⟨b, o, none⟩ => match mem b with
   | some (.cells c _ _) => Qbe k (Qbm o c.toList)
   | _ => none
 | _ => none
theorem Qau {wA : World} {size n : Nat} {a : Option Addr} {l c : Nat} {r : List Value} (h : Qcg (fun b => wA.heap[b]?) (n * size) a = some r) :
 (Builtin.firstCells size n (.slice a l c)).run P wA = .ok ⟨r⟩ wA /\ (a ≠ none -> r.length = n * size) := by
 unfold Qcg at h
 unfold Builtin.firstCells
 split at h
 ·injection h with h; subst h; exact ⟨rfl, fun e => absurd rfl e⟩
 ·rename_i b o
  split at h
  case h_2 => cases h
  rename_i cs ct fr hb
  obtain ⟨h1, h2⟩ := Qfc _ _ _ h
  refine ⟨?_, fun _ => h2⟩
  have := run_loadCells_list (P := P) wA ⟨b, o, none⟩ r (fun j u hu => by
   rw [Yi]
   rw [h1, Qa5, List.getElem?_take] at hu
   split at hu
   ·rw [List.getElem?_drop] at hu; exact Qky hb (by simpa using hu)
   ·cases hu)
  rw [h2] at this
  exact this
 ·cases h
def Qnt (P : Program) (fl : Nat) (mem : Mem) (N : Nat) (t : TypeId) (s x : Value) : Option (Value × Upd) :=
 match P.underlying t, s, x with
 | some (.slice e), .slice a sLen sCap, .slice a2 n _ =>
   match P.info? e with
   | none => none
   | some i =>
     bif Nat.beq n 0 then (bif Nat.ble sLen sCap then some (.slice a sLen sCap, .same) else none)
     else match i.zero with
     | none => none
     | some z =>
       bif Nat.beq z.cells.size i.size && Nat.blt 0 i.size && Nat.ble ((sLen + n) * i.bytes) 140737488355328 && Nat.blt (sLen + n) 1099511627776 then
        bif Nat.blt sCap big && Nat.ble (sLen + n) sCap then
         match a, Qcg mem (n * i.size) a2 with
         | some ⟨b, o, none⟩, some new =>
           bif Nat.ble fl b && Nat.beq new.length (n * i.size) && new.all (·.oneCell') then
            match mem b with
            | some (.cells c ct (0, 0)) => match setL (o + sLen * i.size) c.toList new with
              | some l => some (.slice a (sLen + n) sCap, .put b (.cells ⟨l⟩ ct (0, 0)))
              | none => none
            | _ => none
           else none
         | _, _ => none
        else
         match Qcg mem (sLen * i.size) a, Qcg mem (n * i.size) a2 with
         | some old, some new =>
           bif Nat.beq old.length (sLen * i.size) && Nat.beq new.length (n * i.size) && new.all (·.oneCell') then
            bif Nat.blt sCap big then some (.slice (some ⟨N, 0, none⟩) (sLen + n) Qer, .new (.cells ⟨old ++ new⟩ e))
            else match a with
             | some ⟨b, _, none⟩ => bif Nat.ble fl b && decide (Qil mem b = some e) then some (.slice (some ⟨N, 0, none⟩) (sLen + n) Qer, .killNew b (.cells ⟨old ++ new⟩ e)) else none
             | _ => none
           else none
         | _, _ => none
       else none
 | _, _, _ => none
theorem Z4 {a b : Nat} (h : Nat.blt a b = true) : a < b := Nat.le_of_ble_eq_true h
theorem Qg0 {a b : Nat} (h : Nat.blt a b = false) : ¬ a < b := fun e => by
 have : Nat.blt a b = true := Nat.ble_eq_true_of_le e
 rw [this] at h; cases h
theorem Qq1 {wA : World} {t : TypeId} {s x v : Value} {u : Upd} (h : Qnt P fl (fun b => wA.heap[b]?) wA.heap.size t s x = some (v, u)) :
 Qfb P fl t s x wA = some (v, World.upd wA u) := by
 unfold Qnt at h
 unfold Qfb
 split at h
 case h_2 => cases h
 rename_i e a sLen sCap a2 n c2 hu
 rw [hu]
 dsimp only
 cases hi : P.info? e with
 | none => rw [hi] at h; cases h
 | some i =>
   rw [hi] at h
   dsimp only at h ⊢
   cases h0 : Nat.beq n 0 with
   | true =>
     rw [h0] at h
     have hb0 := Qe h; clear h; obtain ⟨hle, h⟩ := hb0
     injection h with h; injection h with h1 h2
     subst h1; subst h2
     rw [if_pos (Nat.eq_of_beq_eq_true h0), if_pos (Nat.le_of_ble_eq_true hle)]
     rfl
   | false =>
     rw [h0] at h
     dsimp only [cond_false] at h
     rw [if_neg (Nat.ne_of_beq_eq_false h0)]
     cases hz : i.zero with
     | none => rw [hz] at h; cases h
     | some z =>
       rw [hz] at h
       dsimp only at h ⊢
       have hb0 := Qe h; clear h; obtain ⟨hc, h⟩ := hb0
       simp only [Bool.and_eq_true] at hc
       rw [if_pos ⟨Nat.eq_of_beq_eq_true hc.1.1.1, Z4 hc.1.1.2, Nat.le_of_ble_eq_true hc.1.2, Z4 hc.2⟩]
       cases hroom : (Nat.blt sCap big && Nat.ble (sLen + n) sCap) with
       | true =>
         rw [hroom] at h
         dsimp only [cond_true] at h
         simp only [Bool.and_eq_true] at hroom
         rw [if_pos ⟨Z4 hroom.1, Nat.le_of_ble_eq_true hroom.2⟩]
         split at h
         case h_2 => cases h
         rename_i b o new hnew
         have hb0 := Qe h; clear h; obtain ⟨hc2, h⟩ := hb0
         simp only [Bool.and_eq_true] at hc2
         dsimp only
         rw [if_pos (Nat.le_of_ble_eq_true hc2.1.1)]
         split at h
         case h_2 => cases h
         rename_i c ct hb
         split at h
         case h_2 => cases h
         rename_i l hl
         injection h with h; injection h with h1 h2
         subst h1; subst h2
         obtain ⟨g1, g2⟩ := Qd2 _ _ _ _ hl
         have hst := run_storeCells_at P b (o + sLen * i.size) ct new 0 c wA hb (by simpa using g2) (fun v hv => (List.all_eq_true.1 hc2.2) v hv)
         simp only [Nat.add_zero] at hst
         have hrun : (do let new <- Builtin.firstCells i.size n (.slice a2 n c2); Go.storeCells ⟨b, o + sLen * i.size, none⟩ new.toList : Sem Unit).run P wA = .ok () (World.upd wA (.put b (.cells ⟨l⟩ ct (0, 0)))) := by
          rw [Sem.run_bind, (Qau hnew).1]
          simp only [Result.andThen_ok]
          rw [hst, Qcw hb, g1]
         rw [hrun]
       | false =>
         rw [hroom] at h
         dsimp only [cond_false] at h
         have hroom' : ¬ (sCap < big /\ sLen + n <= sCap) := by
          intro e
          have : (Nat.blt sCap big && Nat.ble (sLen + n) sCap) = true := by
           simp only [Bool.and_eq_true]
           exact ⟨Nat.ble_eq_true_of_le e.1, Nat.ble_eq_true_of_le e.2⟩
          rw [this] at hroom; cases hroom
         rw [if_neg hroom']
         split at h
         case h_2 => cases h
         rename_i old new hold hnew
         have hb0 := Qe h; clear h; obtain ⟨hc2, h⟩ := hb0
         simp only [Bool.and_eq_true] at hc2
         rw [(Qau (l := sLen) (c := sCap) hold).1, (Qau (l := n) (c := c2) hnew).1]
         dsimp only
         rw [if_pos ⟨Nat.eq_of_beq_eq_true hc2.1.1, Nat.eq_of_beq_eq_true hc2.1.2, by
          rw [Array.all_eq_true_iff_forall_mem]; intro x hx; exact (List.all_eq_true.1 hc2.2) x (by simpa using hx)⟩]
         cases hbig : Nat.blt sCap big with
         | true =>
           rw [hbig] at h
           dsimp only [cond_true] at h
           injection h with h; injection h with h1 h2
           subst h1; subst h2
           rw [if_pos (Z4 hbig)]
           simp [World.upd]
         | false =>
           rw [hbig] at h
           dsimp only [cond_false] at h
           rw [if_neg (Qg0 hbig)]
           split at h
           case h_2 => cases h
           rename_i b o
           have hb0 := Qe h; clear h; obtain ⟨hc3, h⟩ := hb0
           simp only [Bool.and_eq_true, decide_eq_true_eq] at hc3
           injection h with h; injection h with h1 h2
           subst h1; subst h2
           dsimp only
           rw [if_pos ⟨Nat.le_of_ble_eq_true hc3.1, hc3.2⟩]
           simp [World.upd]
def fieldInfo (P : Program) (t : TypeId) (f : Nat) : Option (Nat × Option Nat) := match P.underlying t with
 | some (.struct fs) => match getL f fs.toList with
   | some fd => match Qaq P fd.type with
     | some true => (szOf P fd.type).map fun s => (fd.offset, some s)
     | some false => some (fd.offset, none)
     | none => none
   | none => none
 | _ => none
def Qod (off : Nat) (n : Option Nat) (cs : List Value) : Option Value := match n with
 | some n => match Qbe n (Qbm off cs) with
   | some l => some (.agg ⟨l⟩)
   | none => none
 | none => getL off cs
def Qgt (P : Program) (t : TypeId) : Option (Option Nat) := match Qaq P t with
 | some true => (szOf P t).map some
 | some false => some none
 | none => none
theorem Qnf {t : TypeId} {i : Option Nat} {cs : Array Value} {off : Nat} {v : Value} (hi : Qgt P t = some i) (h : Qod off i cs.toList = some v) (w : World) : (Go.part t cs off).run P w = .ok v w := by
 unfold Qgt at hi
 unfold Go.part
 split at hi
 ·rename_i ha
  cases hs : szOf P t with
  | none => rw [hs] at hi; cases hi
  | some s =>
    rw [hs] at hi
    simp only [Option.map_some, Option.some.injEq] at hi
    subst hi
    unfold Qod at h
    dsimp only at h
    split at h
    case h_2 => cases h
    rename_i l hl
    injection h with h; subst h
    obtain ⟨h1, h2⟩ := Qfc _ _ _ hl
    rw [Sem.run_bind, Qe3 ha]
    simp only [Result.andThen_ok, if_true]
    rw [Sem.run_bind, Xn hs]
    simp only [Result.andThen_ok, Sem.run_pure]
    congr 2
    apply Array.ext'
    rw [Array.toList_extract, h1, Qa5, List.extract_eq_take_drop]
    congr 1; omega
 ·rename_i ha
  injection hi with hi; subst hi
  unfold Qod at h
  dsimp only at h
  rw [Jj] at h
  rw [Sem.run_bind, Qe3 ha]
  simp only [Result.andThen_ok, Bool.false_eq_true, if_false]
  have : cs[off]? = some v := by simpa using h
  rw [this]; rfl
 ·cases hi
def Qoy (P : Program) (t : TypeId) (v : Value) (f : Nat) : Option Value := match fieldInfo P t f, v with
 | some (off, n), .agg cs => Qod off n cs.toList
 | _, _ => none
theorem Qj5 {t : TypeId} {v r : Value} {f : Nat} (h : Qoy P t v f = some r) (w : World) : (Instr.field t v f).run P w = .ok r w := by
 unfold Qoy at h
 split at h
 case h_2 => cases h
 rename_i off n cs hfi
 unfold fieldInfo at hfi
 split at hfi
 case h_2 => cases hfi
 rename_i fs hu
 split at hfi
 case h_2 => cases hfi
 rename_i fd hfd
 rw [Jj] at hfd
 have hpart : Qgt P fd.type = some n /\ off = fd.offset := by
  unfold Qgt
  split at hfi
  ·rename_i ha
   cases hs : szOf P fd.type with
   | none => rw [hs] at hfi; cases hfi
   | some s => rw [hs] at hfi; injection hfi with hfi; injection hfi with e1 e2; subst e1; subst e2; simp [ha]
  ·rename_i ha
   injection hfi with hfi; injection hfi with e1 e2; subst e1; subst e2; simp [ha]
  ·cases hfi
 obtain ⟨hp, rfl⟩ := hpart
 unfold Instr.field
 rw [Sem.run_bind, Qh hu]
 simp only [Result.andThen_ok]
 have : fs[f]? = some fd := by simpa using hfd
 rw [this]
 show (Go.part fd.type cs fd.offset).run P w = _
 exact Qnf hp h w
def Qgr (P : Program) (t : TypeId) : Option (Nat × Option Nat) := match P.underlying t with
 | some (.slice e) => (szOf P e).map fun s => (s, none)
 | some (.array n e) => (szOf P e).map fun s => (s, some n)
 | _ => none
def Qbp (P : Program) (t : TypeId) (v : Value) (i : Int) : Option Value :=
 match i, Qgr P t, v with
 | .ofNat i, some (s, none), .slice (some ⟨b, o, none⟩) n _ => bif Nat.blt i n then some (.pointer (some ⟨b, o + i * s, none⟩)) else none
 | .ofNat i, some (s, some n), .pointer (some ⟨b, o, none⟩) => bif Nat.blt i n then some (.pointer (some ⟨b, o + i * s, none⟩)) else none
 | _, _, _ => none
theorem Qa2 {t : TypeId} {v r : Value} {k : IntKind} {i : Int} (h : Qbp P t v i = some r) (w : World) : (Instr.indexAt t v (.int k i)).run P w = .ok r w := by
 unfold Qbp at h
 unfold Instr.indexAt
 simp only [asIntOf, pure_bind]
 split at h
 ·rename_i i s b o n c hei
  have hb0 := Qe h; clear h; obtain ⟨hlt, h⟩ := hb0
  injection h with h; subst h
  have hlt := Z4 hlt
  unfold Qgr at hei
  split at hei
  ·rename_i e hu
   cases hs : szOf P e with
   | none => rw [hs] at hei; cases hei
   | some s' =>
     rw [hs] at hei
     injection hei with hei; injection hei with e1 _; subst e1
     rw [Sem.run_bind, Qh hu]
     simp only [Result.andThen_ok]
     rw [Sem.run_bind, Qh hu]
     simp only [Result.andThen_ok]
     rw [if_pos ⟨by simp, by simpa using hlt⟩, Sem.run_bind, Xn hs]
     simp only [Result.andThen_ok, Sem.run_pure, Yi]
     rfl
  ·rename_i N e hu
   cases hs : szOf P e with
   | none => rw [hs] at hei; cases hei
   | some s' => rw [hs] at hei; injection hei with hei; injection hei with e1 e2; cases e2
  ·cases hei
 ·rename_i i s n b o hei
  have hb0 := Qe h; clear h; obtain ⟨hlt, h⟩ := hb0
  injection h with h; subst h
  have hlt := Z4 hlt
  unfold Qgr at hei
  split at hei
  ·rename_i e hu
   cases hs : szOf P e with
   | none => rw [hs] at hei; cases hei
   | some s' => rw [hs] at hei; injection hei with hei; injection hei with e1 e2; cases e2
  ·rename_i N e hu
   cases hs : szOf P e with
   | none => rw [hs] at hei; cases hei
   | some s' =>
     rw [hs] at hei
     injection hei with hei; injection hei with e1 e2; subst e1; injection e2 with e2; subst e2
     rw [Sem.run_bind, Qh hu]
     simp only [Result.andThen_ok, Instr.sureAddr, pure_bind]
     rw [Sem.run_bind, Qh hu]
     simp only [Result.andThen_ok]
     rw [if_pos ⟨by simp, by simpa using hlt⟩, Sem.run_bind, Xn hs]
     simp only [Result.andThen_ok, Sem.run_pure, Yi]
     rfl
  ·cases hei
 ·cases h
def Qok (P : Program) (t : TypeId) : Option (Nat × Nat × Option Nat) := match P.underlying t with
 | some (.array n e) => match szOf P e, Qgt P e with
   | some s, some p => some (n, s, p)
   | _, _ => none
 | _ => none
def Qoz (P : Program) (t : TypeId) (v : Value) (i : Int) : Option Value :=
 match i, v with
 | .ofNat i, .agg cs => match Qok P t with
   | some (n, s, p) => bif Nat.blt i n then Qod (i * s) p cs.toList else none
   | none => none
 | .ofNat i, .string s => match P.underlying t with
   | some .string => (getL i s.data.toList).map fun b => .int .u8 b.toNat
   | _ => none
 | _, _ => none
theorem Qj6 {t : TypeId} {v r : Value} {k : IntKind} {i : Int} (h : Qoz P t v i = some r) (w : World) : (Instr.index t v (.int k i)).run P w = .ok r w := by
 unfold Qoz at h
 unfold Instr.index
 simp only [asIntOf, pure_bind]
 split at h
 ·rename_i i cs
  split at h
  case h_2 => cases h
  rename_i n s p hai
  have hb0 := Qe h; clear h; obtain ⟨hlt, h⟩ := hb0
  have hlt := Z4 hlt
  unfold Qok at hai
  split at hai
  case h_2 => cases hai
  rename_i N e hu
  split at hai
  case h_2 => cases hai
  rename_i s' p' hs hp
  injection hai with hai; injection hai with e1 e2; injection e2 with e2 e3
  subst e1; subst e2; subst e3
  rw [Sem.run_bind, Qh hu]
  simp only [Result.andThen_ok]
  rw [if_pos ⟨by simp, by simpa using hlt⟩, Sem.run_bind, Xn hs]
  simp only [Result.andThen_ok]
  exact Qnf hp h w
 ·rename_i i s
  split at h
  case h_2 => cases h
  rename_i hu
  cases hg : getL i s.data.toList with
  | none => rw [hg] at h; cases h
  | some b =>
    rw [hg] at h
    simp only [Option.map_some, Option.some.injEq] at h
    subst h
    rw [Jj] at hg
    rw [Sem.run_bind, Qh hu]
    simp only [Result.andThen_ok]
    have hb : (if (0 : Int) <= Int.ofNat i then s[(Int.ofNat i).toNat]? else none) = some b := by
     rw [if_pos (by simp)]
     have : s.data[i]? = some b := by simpa using hg
     show s[i]? = some b
     obtain ⟨h1, h2⟩ := Array.getElem?_eq_some_iff.1 this
     have h1' : i < s.size := h1
     rw [getElem?_pos s i h1']
     exact congrArg some h2
    rw [hb]; rfl
 ·cases h
def Qkp (v : Value) (i : Nat) : Option Value := match v with
 | .tuple vs => getL i vs.toList
 | _ => none
theorem Qhh {v r : Value} {i : Nat} (h : Qkp v i = some r) (w : World) : (Instr.extract v i).run P w = .ok r w := by
 unfold Qkp at h
 split at h
 ·rename_i vs
  rw [Jj] at h
  have : vs[i]? = some r := by simpa using h
  unfold Instr.extract
  simp only [this]; rfl
 ·cases h
def Qlw (P : Program) (s : TypeId) (f : Nat) : Option Nat := match P.underlying s with
 | some (.struct fs) => match getL f fs.toList with
   | some fd => match szOf P fd.type with
     | some (_ + 1) => some fd.offset
     | _ => none
   | none => none
 | _ => none
def Qdo (P : Program) (s : TypeId) (v : Value) (f : Nat) : Option Value := match Qlw P s f, v with
 | some off, .pointer (some ⟨b, o, none⟩) => some (.pointer (some ⟨b, o + off, none⟩))
 | _, _ => none
theorem Qdi {s : TypeId} {v r : Value} {f : Nat} (h : Qdo P s v f = some r) (w : World) : (Instr.fieldAt s v f).run P w = .ok r w /\ Qlu P s f = true := by
 unfold Qdo at h
 split at h
 case h_2 => cases h
 rename_i off b o hfo
 injection h with h; subst h
 unfold Qlw at hfo
 split at hfo
 case h_2 => cases hfo
 rename_i fs hu
 split at hfo
 case h_2 => cases hfo
 rename_i fd hfd
 rw [Jj] at hfd
 have hfd' : fs[f]? = some fd := by simpa using hfd
 split at hfo
 case h_2 => cases hfo
 rename_i m hs
 injection hfo with hfo; subst hfo
 constructor
 ·unfold Instr.fieldAt
  rw [Sem.run_bind, Qh hu]
  simp only [Result.andThen_ok, hfd']
  show (Go.fieldPlace _ fd >>= fun a => Pure.pure (Value.pointer (some a))).run P w = _
  unfold Go.fieldPlace
  rw [Sem.run_bind, Sem.run_bind, Xn hs]
  simp only [Result.andThen_ok]
  rw [if_neg (by omega)]
  simp only [Sem.run_pure, Result.andThen_ok, Yi]
 ·unfold Qlu
  rw [hu]
  simp only [hfd', hs]
  simp
end
end Go.Proofs.Ytfeedchjdnedjaa.Ev

import Derived.Test.YtfeedchjdnedjaaVv17
import Derived.ChangeSlices
import Derived.ChangeSame
import Derived.Deep.Matrix
import Derived.Lib.SmallJoins
import Derived.OpenShut
import Derived.Deep.Slices
import Derived.Test.YtfeedchjdnedjaaWa
import Derived.ChangeArms
set_option linter.unusedVariables false
set_option linter.unusedSimpArgs false
namespace Go.Proofs.Ytfeedchjdnedjaa.Vv
open Go Go.Proofs.Ytfeedchjdnedjaa.Ev
open Go.ChangeShapes Go.WideShapes Go.RowKit Go.Joins Go.Deep
theorem Qqo {H : Type} {enc : TypeId × Value -> H} {P : Program} {f : Func} {s : ChangeSpec} {W W' : World} {args : Array Value} {v : Value} {ds gs : List (DataW H)} {before pa : List MemPlace}
 (hW : DataW.Whole enc P f.params.toList s.vars false W args.toList ds gs before)
 (hres : DataW.TrodAll enc P W' W.heap.size (fun _ => false) false f.resultTypes.toList (v.resultList f.resultTypes.size) (s.fn H (ds ++ gs)).results [])
 (hargs : DataW.TrodAll enc P W' 0 (fun b => decide (b < W.heap.size)) true f.params.toList args.toList (s.fn H (ds ++ gs)).args pa)
 (hvars : DataW.TrodVars enc P W' (fun b => decide (b < W.heap.size)) s.vars (s.fn H (ds ++ gs)).vars []) (hb : Below W.heap.size W W') :
 s.post enc P f false true false false W args v W' :=
 ⟨ds, gs, before, [], pa, [], hW, hres, hargs, hvars, hb.frame _, fun h => nomatch h⟩
theorem Qqp {W : World} {a : Addr} {n c : Nat} {vs : List VV} {f : Nat -> Value} (hn : n = vs.length) (hc : n <= c) (hcell : ∀ i, i < c -> W.cell? (a.add i) = some (f i)) (hT : ∀ i v, vs[i]? = some v -> T (allM W) v (f i)) : T (allM W) (.tr vs n) (.slice (some a) n c) := by
 rcases Nat.eq_zero_or_pos c with rfl | hpos
 ·obtain rfl : n = 0 := by omega
  exact .e
 obtain ⟨b, off, spot⟩ := a
 have h0 := hcell 0 hpos
 have e0 : (⟨b, off, spot⟩ : Addr).add 0 = ⟨b, off, spot⟩ := by unfold Addr.add; simp
 rw [e0] at h0
 unfold World.cell? at h0
 cases e : W.heap[b]? with
 | none => simp only [e] at h0; cases h0
 | some ob =>
   simp only [e] at h0
   cases ob with
   | cells cs t fz =>
     simp only at h0
     cases spot with
     | some q => simp at h0
     | none =>
       have hcell' : ∀ i, i < c -> cs[off + i]? = some (f i) := by
        intro i hi
        have h1 := hcell i hi
        have e1 : (⟨b, off, none⟩ : Addr).add i = ⟨b, off + i, none⟩ := by
         unfold Addr.add
         split
         ·rename_i h; subst h; rfl
         ·rfl
        rw [e1] at h1
        unfold World.cell? at h1
        simp only [e] at h1
        simpa using h1
       refine .tr (cs := cs) (t := t) (fz := fz) e hc ?_ ?_
       ·rcases Nat.eq_zero_or_pos vs.length with h | h
        ·have := (Array.getElem?_eq_some_iff.1 (hcell' 0 hpos)).1; omega
        ·have := (Array.getElem?_eq_some_iff.1 (hcell' (vs.length - 1) (by omega))).1; omega
       ·intro j v v' hj hv
        have hjl := (List.getElem?_eq_some_iff.1 hj).1
        rw [hcell' j (by omega)] at hv
        injection hv with hv; subst hv
        exact hT j v hj
   | _ => cases h0
theorem R_vb {o : OM} {fb : Nat} {m : MM} {b : Bool} {v : Value} (h : R o fb m (vb b) v) : v = .bool b := by
 cases h with
 | t h => cases h; rfl
section
variable {H : Type} {enc : TypeId × Value -> H} {P : Program} {W : World}
def Opens (H : Type) (enc : TypeId × Value -> H) (P : Program) (W : World) (t : TypeId) (S : Type) (f : S -> List VV) : Prop :=
 ∀ (fuel : Nat) (cs : List Value) (x : DataW H × List MemPlace), DataW.trod enc P W 0 (fun _ => true) true fuel t cs = some x -> ∃ s : S, cs.length = (f s).length /\ ∀ (j : Nat) (v : VV) (v' : Value), (f s)[j]? = some v -> cs[j]? = some v' -> T (allM W) v v'
theorem Qh7 {t : TypeId} (ht : P.underlying t = some (.int .i64)) : Opens H enc P W t Int fun n => [vi n] := by
 intro fuel cs x h
 obtain ⟨n, e, _⟩ := DataW.trod_int ht h
 subst e
 refine ⟨n, rfl, fun j v v' a b => ?_⟩
 cases j with
 | zero => simp at a b; subst a; subst b; exact .c rfl
 | succ j => simp at a
def Qow (H : Type) (enc : TypeId × Value -> H) (P : Program) (W : World) (off : Nat) (fs : List Field) (S : Type) (f : S -> List VV) : Prop :=
 ∀ (fuel : Nat) (cs : List Value), (∀ g ∈ fs, ∃ x, DataW.trod enc P W 0 (fun _ => true) true fuel g.type ((cs.drop g.offset).take (P.cellsOf g.type)) = some x) -> cs.length = off + (fs.map fun g => P.cellsOf g.type).sum ->
   ∃ s : S, (cs.drop off).length = (f s).length /\ ∀ (j : Nat) (v : VV) (v' : Value), (f s)[j]? = some v -> (cs.drop off)[j]? = some v' -> T (allM W) v v'
theorem Qe8 {off : Nat} : Qow H enc P W off [] Unit fun _ => [] := by
 intro fuel cs _ hl
 exact ⟨(), by simp at hl ⊢; omega, fun j v v' a => by simp at a⟩
theorem Wp {off m : Nat} {g : Field} {fs : List Field} {A B : Type} {f : A -> List VV} {h : B -> List VV} (ho : g.offset = off) (hm : P.cellsOf g.type = m) (h1 : Opens H enc P W g.type A f) (h2 : Qow H enc P W (off + m) fs B h) :
 Qow H enc P W off (g :: fs) (A × B) fun p => f p.1 ++ h p.2 := by
 intro fuel cs hall hl
 obtain ⟨x, hx⟩ := hall g (by simp)
 rw [ho, hm] at hx
 rw [List.map_cons, List.sum_cons, hm] at hl
 obtain ⟨a, a1, a2⟩ := h1 fuel _ x hx
 obtain ⟨b, b1, b2⟩ := h2 fuel cs (fun g' hg => hall g' (by simp [hg])) (by omega)
 have hle : (fs.map fun g => P.cellsOf g.type).sum + m <= (cs.drop off).length := by rw [List.length_drop]; omega
 have e1 : ((cs.drop off).take m).length = m := by rw [List.length_take]; omega
 rw [e1] at a1
 have e2 : cs.drop (off + m) = (cs.drop off).drop m := by rw [List.drop_drop]
 rw [e2] at b1 b2
 have b1' : (cs.drop off).length - m = (h b).length := by rw [<- b1, List.length_drop (i := m)]
 clear e1 b1
 refine ⟨(a, b), ?_, fun j v v' hv hv' => ?_⟩
 ·show _ = (f a ++ h b).length
  rw [List.length_append]; omega
 ·have hv0 : (f a ++ h b)[j]? = some v := hv
  rcases Nat.lt_or_ge j m with hj | hj
  ·rw [List.getElem?_append_left (by omega)] at hv0
   refine a2 j v v' hv0 ?_
   rw [List.getElem?_take, if_pos hj]; exact hv'
  ·rw [List.getElem?_append_right (by omega), <- a1] at hv0
   refine b2 (j - m) v v' hv0 ?_
   rw [List.getElem?_drop, show m + (j - m) = j by omega]; exact hv'
theorem Qdb {t : TypeId} {fs : Array Field} {S : Type} {f : S -> List VV} (ht : P.underlying t = some (.struct fs)) (hc : P.cellsOf t = (fs.toList.map fun g => P.cellsOf g.type).sum) (h : Qow H enc P W 0 fs.toList S f) : Opens H enc P W t S f := by
 intro fuel cs x hx
 obtain ⟨xs, n, _, _, hl, hlen, hf⟩ := DataW.trod_struct ht hx
 obtain ⟨s, h1, h2⟩ := h n cs (fun g hg => by
  obtain ⟨i, hi, e⟩ := List.getElem_of_mem hg
  have hi' : i < fs.size := by simpa using hi
  have := hf i g (by rw [<- e]; simp [hi'])
  rw [this]
  exact ⟨_, List.getElem?_eq_getElem (by omega)⟩) (by rw [hl, hc]; omega)
 exact ⟨s, by simpa using h1, fun j v v' a b => h2 j v v' a (by simpa using b)⟩
theorem Opens.agg {t : TypeId} {S : Type} {f : S -> List VV} (h : Opens H enc P W t S f) {cs : Array Value} {d : DataW H} {ps : List MemPlace} (hd : DataW.Trod enc P W 0 (fun _ => true) true t (.agg cs) d ps) : ∃ s : S, T (allM W) (.ag (f s)) (.agg cs) := by
 obtain ⟨fuel, hf⟩ := hd
 obtain ⟨s, h1, h2⟩ := h fuel _ _ hf
 have e : (Value.agg cs).cells.toList = cs.toList := by simp [Value.cells]
 rw [e] at h1 h2
 exact ⟨s, .ag (by rw [<- h1]; simp) fun j v v' a b => h2 j v v' a (by rw [Array.getElem?_toList]; exact b)⟩
end
end Go.Proofs.Ytfeedchjdnedjaa.Vv
namespace Go.Proofs.Ytfeedchjdnedjaa.Vv
open Go Go.Proofs.Ytfeedchjdnedjaa.Ev
open Go.ChangeShapes Go.WideShapes Go.RowKit Go.Joins Go.Deep
variable {H : Type} {enc : TypeId × Value -> H} {P : Program} {W : World}
end Go.Proofs.Ytfeedchjdnedjaa.Vv
namespace Go.Proofs.Ytfeedchjdnedjaa.Vv
open Go Go.Proofs.Ytfeedchjdnedjaa.Ev
open Go.ChangeShapes Go.WideShapes Go.RowKit Go.Joins Go.Deep
variable {H : Type} {enc : TypeId × Value -> H} {P : Program} {W : World}
theorem Qh8 {S : Type} {p : Nat -> S -> Prop} : ∀ (n : Nat), (∀ i, i < n -> ∃ s, p i s) -> ∃ xs : List S, xs.length = n /\ ∀ i s, xs[i]? = some s -> p i s
 | 0, _ => ⟨[], rfl, fun i s h => by simp at h⟩
 | n + 1, h => by
   obtain ⟨xs, h1, h2⟩ := Qh8 n fun i hi => h i (by omega)
   obtain ⟨s, hs⟩ := h n (by omega)
   refine ⟨xs ++ [s], by simp [h1], fun i u hu => ?_⟩
   rcases Nat.lt_or_ge i n with hi | hi
   ·rw [List.getElem?_append_left (by omega)] at hu; exact h2 i u hu
   ·have hl := (List.getElem?_eq_some_iff.1 hu).1
    simp at hl
    obtain rfl : i = n := by omega
    rw [List.getElem?_append_right (by omega), h1, Nat.sub_self] at hu
    simp at hu; subst hu; exact hs
theorem flat_get {S : Type} {f : S -> List VV} {m : Nat} (hf : ∀ s, (f s).length = m) : ∀ (xs : List S) (j : Nat) (v : VV), (xs.flatMap f)[j]? = some v -> ∃ i s r, xs[i]? = some s /\ j = i * m + r /\ r < m /\ (f s)[r]? = some v
 | [], j, v, h => by simp at h
 | s :: xs, j, v, h => by
   rw [List.flatMap_cons] at h
   rcases Nat.lt_or_ge j m with hj | hj
   ·rw [List.getElem?_append_left (by rw [hf]; exact hj)] at h
    exact ⟨0, s, j, rfl, by omega, hj, h⟩
   ·rw [List.getElem?_append_right (by rw [hf]; exact hj), hf] at h
    obtain ⟨i, u, r, h1, h2, h3, h4⟩ := flat_get hf xs (j - m) v h
    exact ⟨i + 1, u, r, by simpa using h1, by rw [Nat.add_mul]; omega, h3, h4⟩
theorem add_add (a : Addr) (x y : Nat) : (a.add x).add y = a.add (x + y) := by
 unfold Addr.add
 by_cases h1 : x = 0
 ·subst h1; simp
 ·by_cases h2 : y = 0
  ·subst h2; simp [h1]
  ·simp [h1, h2, Nat.add_assoc]
theorem Qnr {a : Addr} {n c N : Nat} {vs : List VV} {f : Nat -> Value} (hn : vs.length <= N) (hc : n <= c) (hN : 0 < c -> 0 < N) (hcell : ∀ i, i < N -> W.cell? (a.add i) = some (f i)) (hT : ∀ i v, vs[i]? = some v -> T (allM W) v (f i)) : T (allM W) (.tr vs n) (.slice (some a) n c) := by
 rcases Nat.eq_zero_or_pos c with rfl | hpos
 ·obtain rfl : n = 0 := by omega
  exact .e
 have hNp := hN hpos
 have key := Qqp (W := W) (a := a) (n := vs.length) (c := N) (vs := vs) (f := f) rfl hn hcell hT
 generalize vs.length = L at key
 cases key with
 | e => omega
 | tr hb h1 h2 h3 => exact .tr hb hc h2 h3
theorem Qjt {t e : TypeId} {m : Nat} {S : Type} {f : S -> List VV} (ht : P.underlying t = some (.slice e)) (hm : P.cellsOf e = m) (hpos : 0 < m) (hf : ∀ s, (f s).length = m) (h : Opens H enc P W e S f) : Opens H enc P W t (List S) fun xs => [VV.tr (xs.flatMap f) xs.length] := by
 intro fuel cs x hx
 have one : ∀ {v' : Value} {xs : List S}, T (allM W) (.tr (xs.flatMap f) xs.length) v' -> ∃ s : List S, [v'].length = [VV.tr (s.flatMap f) s.length].length /\ ∀ (j : Nat) (v : VV) (u : Value), [VV.tr (s.flatMap f) s.length][j]? = some v -> [v'][j]? = some u -> T (allM W) v u := by
  intro v' xs h
  refine ⟨xs, rfl, fun j v u a b => ?_⟩
  cases j with
  | zero => simp at a b; subst a; subst b; exact h
  | succ j => simp at a
 rcases open_slice ht hx with ⟨hcs, _⟩ | ⟨a, len, cap, k, n, D, Pl, hcs, hb, hl, hmx, hmm, _, hel⟩
 ·subst hcs
  exact one (xs := []) .e
 ·subst hcs
  simp only [if_true] at hmm
  subst hmm
  rw [hm] at hel
  have hall : ∀ i, i < k -> ∃ s : S, ∃ l : List Value, W.cells? 0 (a.add (i * m)) m = some l /\ l.length = (f s).length /\ ∀ (j : Nat) (v : VV) (v' : Value), (f s)[j]? = some v -> l[j]? = some v' -> T (allM W) v v' := by
   intro i hi
   obtain ⟨l, h1, h2⟩ := hel i hi
   obtain ⟨s, h3, h4⟩ := h n l _ h2
   exact ⟨s, l, h1, h3, h4⟩
  obtain ⟨ys, y1, y2⟩ := Qh8 k hall
  have hcell : ∀ j, j < k * m -> ∃ v, W.cell? (a.add j) = some v := by
   intro j hj
   have hi : j / m < k := Nat.div_lt_of_lt_mul (by rw [Nat.mul_comm]; exact hj)
   obtain ⟨l, h1, _⟩ := hel (j / m) hi
   obtain ⟨_, h2, h3⟩ := World.cells?_some h1
   have hr : j % m < m := Nat.mod_lt _ hpos
   have h4 := h3 (j % m) hr
   rw [add_add, show j / m * m + j % m = j by rw [Nat.mul_comm]; exact Nat.div_add_mod j m] at h4
   rw [h4]
   exact ⟨_, List.getElem?_eq_getElem (by omega)⟩
  have hlen : (ys.take len).length = len := by rw [List.length_take]; omega
  refine one (xs := ys.take len) ?_
  have hflat : ((ys.take len).flatMap f).length = len * m := by
   rw [List.length_flatMap, show (fun s => (f s).length) = fun _ => m from funext hf]
   simp [List.map_const', Nat.min_eq_left (show len <= ys.length by omega)]
  rw [hlen]
  refine Qnr (N := k * m) (f := fun j => (W.cell? (a.add j)).getD undef) (by rw [hflat]; exact Nat.mul_le_mul_right m hl) hl (fun hk => Nat.mul_pos hk hpos) (fun j hj => ?_) (fun j v hv => ?_)
  ·obtain ⟨v, hv⟩ := hcell j hj
   show _ = some ((W.cell? (a.add j)).getD undef)
   rw [hv]; rfl
  ·obtain ⟨i, s, r, g1, g2, g3, g4⟩ := flat_get hf _ j v hv
   rw [List.getElem?_take] at g1
   by_cases hi : i < len
   ·rw [if_pos hi] at g1
    obtain ⟨l, h1, h2, h3⟩ := y2 i s g1
    obtain ⟨_, h4, h5⟩ := World.cells?_some h1
    have h6 := h5 r g3
    rw [add_add, <- g2] at h6
    have hr : r < l.length := by omega
    rw [List.getElem?_eq_getElem hr] at h6
    show T (allM W) v ((W.cell? (a.add j)).getD undef)
    rw [h6]
    exact h3 r v _ g4 (List.getElem?_eq_getElem hr)
   ·rw [if_neg hi] at g1; cases g1
theorem Opens.slice {t : TypeId} {S : Type} {g : S -> VV} (h : Opens H enc P W t S fun s => [g s]) {a : Option Addr} {n c : Nat} {d : DataW H} {ps : List MemPlace} (hd : DataW.Trod enc P W 0 (fun _ => true) true t (.slice a n c) d ps) : ∃ s : S, T (allM W) (g s) (.slice a n c) := by
 obtain ⟨fuel, hf⟩ := hd
 obtain ⟨s, h1, h2⟩ := h fuel _ _ hf
 exact ⟨s, h2 0 _ _ rfl rfl⟩
end Go.Proofs.Ytfeedchjdnedjaa.Vv
namespace Go.Proofs.Ytfeedchjdnedjaa.Vv
open Go Go.Proofs.Ytfeedchjdnedjaa.Ev
variable {H : Type} {enc : TypeId × Value -> H} {P : Program} {W : World}
theorem Qbc {t : TypeId} (ht : P.underlying t = some .string) : Opens H enc P W t ByteArray fun s => [vs s] := by
 intro fuel cs x h
 obtain ⟨n, e, _⟩ := DataW.trod_string ht h
 subst e
 refine ⟨n, rfl, fun j v v' a b => ?_⟩
 cases j with
 | zero => simp at a b; subst a; subst b; exact .c rfl
 | succ j => simp at a
end Go.Proofs.Ytfeedchjdnedjaa.Vv
namespace Go.Proofs.Ytfeedchjdnedjaa.Vv
open Go Go.Proofs.Ytfeedchjdnedjaa.Ev
variable {H : Type} {enc : TypeId × Value -> H} {P : Program} {W : World}
theorem Opens.as {t : TypeId} {S A : Type} {f : S -> List VV} (h : Opens H enc P W t S f) (mk : S -> A) {g : A -> List VV} (hfg : ∀ s, g (mk s) = f s) : Opens H enc P W t A g := by
 intro fuel cs x hx
 obtain ⟨s, h1, h2⟩ := h fuel cs x hx
 exact ⟨mk s, by rw [hfg]; exact h1, by rw [hfg]; exact h2⟩
theorem Opens.all {t : TypeId} {A : Type} {p : A -> Prop} {g : A -> List VV} (h : Opens H enc P W t (List { x : A // p x }) fun xs => [VV.tr (xs.flatMap fun x => g x.1) xs.length]) : Opens H enc P W t { xs : List A // ∀ x ∈ xs, p x } fun xs => [VV.tr (xs.1.flatMap g) xs.1.length] :=
 Opens.as (A := { xs : List A // ∀ x ∈ xs, p x }) (g := fun xs => [VV.tr (xs.1.flatMap g) xs.1.length]) h (fun xs => ⟨xs.map (·.1), fun x hx => by obtain ⟨y, _, rfl⟩ := List.mem_map.1 hx; exact y.2⟩)
  (fun xs => by
   show [VV.tr ((xs.map (·.1)).flatMap g) (xs.map (·.1)).length] = _
   rw [List.flatMap_map, List.length_map])
section
open Go.ChangeShapes Go.WideShapes Go.RowKit Go.Joins Go.Deep
end
end Go.Proofs.Ytfeedchjdnedjaa.Vv

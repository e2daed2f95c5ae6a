import Derived.Test.YtenebnfhhhcfaaaVv17
import Derived.ChangeSlices
import Derived.ChangeSame
import Derived.Deep.Matrix
import Derived.Lib.SmallJoins
import Derived.OpenShut
import Derived.Deep.Slices
import Derived.Test.YtenebnfhhhcfaaaWa
import Derived.ChangeArms
set_option linter.unusedVariables false
set_option linter.unusedSimpArgs false
namespace Go.Proofs.Ytenebnfhhhcfaaa.Vv
open Go Go.Proofs.Ytenebnfhhhcfaaa.Ev
open Go.ChangeShapes Go.WideShapes Go.RowKit Go.Joins Go.Deep
theorem Qn3 {H : Type} {enc : TypeId × Value -> H} {P : Program} {f : Func} {s : ChangeSpec} {W W' : World} {args : Array Value} {v : Value} {ds gs : List (DataW H)} {before pa : List MemPlace}
 (hW : DataW.Whole enc P f.params.toList s.vars false W args.toList ds gs before)
 (hres : DataW.TrodAll enc P W' W.heap.size (fun _ => false) false f.resultTypes.toList (v.resultList f.resultTypes.size) (s.fn H (ds ++ gs)).results [])
 (hargs : DataW.TrodAll enc P W' 0 (fun b => decide (b < W.heap.size)) true f.params.toList args.toList (s.fn H (ds ++ gs)).args pa)
 (hvars : DataW.TrodVars enc P W' (fun b => decide (b < W.heap.size)) s.vars (s.fn H (ds ++ gs)).vars []) (hb : Below W.heap.size W W') :
 s.post enc P f false true false false W args v W' :=
 ⟨ds, gs, before, [], pa, [], hW, hres, hargs, hvars, hb.frame _, fun h => nomatch h⟩
theorem Qog {W : World} {a : Addr} {n c : Nat} {vs : List VV} {f : Nat -> Value} (hn : n = vs.length) (hc : n <= c) (hcell : ∀ i, i < c -> W.cell? (a.add i) = some (f i)) (hT : ∀ i v, vs[i]? = some v -> T (allM W) v (f i)) : T (allM W) (.tr vs n) (.slice (some a) n c) := by
 rcases Nat.eq_zero_or_pos c with rfl | hpos
 ·obtain rfl : n = 0 := by omega
  exact .e
 obtain ⟨b, off, spot⟩ := a
 have h0 := hcell 0 hpos
 have e0 : (⟨b, off, spot⟩ : Addr).add 0 = ⟨b, off, spot⟩ := by unfold Addr.add; simp
 rw [e0] at h0
 unfold World.cell? at h0
 cases e : W.heap[b]? with
 | none => simp only [e] at h0; cases h0
 | some ob =>
   simp only [e] at h0
   cases ob with
   | cells cs t fz =>
     simp only at h0
     cases spot with
     | some q => simp at h0
     | none =>
       have hcell' : ∀ i, i < c -> cs[off + i]? = some (f i) := by
        intro i hi
        have h1 := hcell i hi
        have e1 : (⟨b, off, none⟩ : Addr).add i = ⟨b, off + i, none⟩ := by
         unfold Addr.add
         split
         ·rename_i h; subst h; rfl
         ·rfl
        rw [e1] at h1
        unfold World.cell? at h1
        simp only [e] at h1
        simpa using h1
       refine .tr (cs := cs) (t := t) (fz := fz) e hc ?_ ?_
       ·rcases Nat.eq_zero_or_pos vs.length with h | h
        ·have := (Array.getElem?_eq_some_iff.1 (hcell' 0 hpos)).1; omega
        ·have := (Array.getElem?_eq_some_iff.1 (hcell' (vs.length - 1) (by omega))).1; omega
       ·intro j v v' hj hv
        have hjl := (List.getElem?_eq_some_iff.1 hj).1
        rw [hcell' j (by omega)] at hv
        injection hv with hv; subst hv
        exact hT j v hj
   | _ => cases h0
theorem Qqm {W : World} {a : Addr} {n c : Nat} {zs : List Int} (hz : zs.length = c) (hn : n <= c) (hcell : ∀ i, i < c -> W.cell? (a.add i) = some (.int .i64 (zs.getD i 0))) :
 T (allM W) (.tr ((zs.take n).map vi) (zs.take n).length) (.slice (some a) n c) := by
 have hl : (zs.take n).length = n := by rw [List.length_take]; omega
 rw [hl]
 refine Qog (f := fun i => .int .i64 (zs.getD i 0)) (by rw [List.length_map, hl]) hn hcell fun i v hv => ?_
 rw [List.getElem?_map, List.getElem?_take] at hv
 by_cases h : i < n
 ·rw [if_pos h, List.getElem?_eq_getElem (by omega)] at hv
  injection hv with hv; subst hv
  rw [List.getD_eq_getElem?_getD, List.getElem?_eq_getElem (by omega)]
  exact .c rfl
 ·rw [if_neg h] at hv; cases hv
theorem R_vb {o : OM} {fb : Nat} {m : MM} {b : Bool} {v : Value} (h : R o fb m (vb b) v) : v = .bool b := by
 cases h with
 | t h => cases h; rfl
section
variable {H : Type} {enc : TypeId × Value -> H} {P : Program} {W : World}
def Opens (H : Type) (enc : TypeId × Value -> H) (P : Program) (W : World) (t : TypeId) (S : Type) (f : S -> List VV) : Prop :=
 ∀ (fuel : Nat) (cs : List Value) (x : DataW H × List MemPlace), DataW.trod enc P W 0 (fun _ => true) true fuel t cs = some x -> ∃ s : S, cs.length = (f s).length /\ ∀ (j : Nat) (v : VV) (v' : Value), (f s)[j]? = some v -> cs[j]? = some v' -> T (allM W) v v'
theorem Qpq {t : TypeId} (ht : P.underlying t = some (.int .i64)) : Opens H enc P W t Int fun n => [vi n] := by
 intro fuel cs x h
 obtain ⟨n, e, _⟩ := DataW.trod_int ht h
 subst e
 refine ⟨n, rfl, fun j v v' a b => ?_⟩
 cases j with
 | zero => simp at a b; subst a; subst b; exact .c rfl
 | succ j => simp at a
theorem Qn1 {t e : TypeId} (ht : P.underlying t = some (.slice e)) (he : P.underlying e = some (.int .i64)) (ce : P.cellsOf e = 1) : Opens H enc P W t (List Int) fun xs => [VV.tr (xs.map vi) xs.length] := by
 intro fuel cs x hf
 have one : ∀ {v' : Value} {xs : List Int}, T (allM W) (.tr (xs.map vi) xs.length) v' -> ∃ s : List Int, [v'].length = [VV.tr (s.map vi) s.length].length /\ ∀ (j : Nat) (v : VV) (u : Value), [VV.tr (s.map vi) s.length][j]? = some v -> [v'][j]? = some u -> T (allM W) v u := by
  intro v' xs h
  refine ⟨xs, rfl, fun j v u a b => ?_⟩
  cases j with
  | zero => simp at a b; subst a; subst b; exact h
  | succ j => simp at a
 rcases open_ints ht he ce hf with ⟨hcs, _⟩ | ⟨x, l, k, zs, hcs, _, hl, hm, hz, _, hcell, hwz⟩
 ·subst hcs
  exact one (xs := []) .e
 ·subst hcs
  have hz' : zs.length = k := by simpa using hz
  exact one (Qqm hz' hl fun i hi => hcell i (by omega))
def Qni (H : Type) (enc : TypeId × Value -> H) (P : Program) (W : World) (off : Nat) (fs : List Field) (S : Type) (f : S -> List VV) : Prop :=
 ∀ (fuel : Nat) (cs : List Value), (∀ g ∈ fs, ∃ x, DataW.trod enc P W 0 (fun _ => true) true fuel g.type ((cs.drop g.offset).take (P.cellsOf g.type)) = some x) -> cs.length = off + (fs.map fun g => P.cellsOf g.type).sum ->
   ∃ s : S, (cs.drop off).length = (f s).length /\ ∀ (j : Nat) (v : VV) (v' : Value), (f s)[j]? = some v -> (cs.drop off)[j]? = some v' -> T (allM W) v v'
theorem Qn2 {off : Nat} : Qni H enc P W off [] Unit fun _ => [] := by
 intro fuel cs _ hl
 exact ⟨(), by simp at hl ⊢; omega, fun j v v' a => by simp at a⟩
theorem Qgs {off m : Nat} {g : Field} {fs : List Field} {A B : Type} {f : A -> List VV} {h : B -> List VV} (ho : g.offset = off) (hm : P.cellsOf g.type = m) (h1 : Opens H enc P W g.type A f) (h2 : Qni H enc P W (off + m) fs B h) :
 Qni H enc P W off (g :: fs) (A × B) fun p => f p.1 ++ h p.2 := by
 intro fuel cs hall hl
 obtain ⟨x, hx⟩ := hall g (by simp)
 rw [ho, hm] at hx
 rw [List.map_cons, List.sum_cons, hm] at hl
 obtain ⟨a, a1, a2⟩ := h1 fuel _ x hx
 obtain ⟨b, b1, b2⟩ := h2 fuel cs (fun g' hg => hall g' (by simp [hg])) (by omega)
 have hle : (fs.map fun g => P.cellsOf g.type).sum + m <= (cs.drop off).length := by rw [List.length_drop]; omega
 have e1 : ((cs.drop off).take m).length = m := by rw [List.length_take]; omega
 rw [e1] at a1
 have e2 : cs.drop (off + m) = (cs.drop off).drop m := by rw [List.drop_drop]
 rw [e2] at b1 b2
 have b1' : (cs.drop off).length - m = (h b).length := by rw [<- b1, List.length_drop (i := m)]
 clear e1 b1
 refine ⟨(a, b), ?_, fun j v v' hv hv' => ?_⟩
 ·show _ = (f a ++ h b).length
  rw [List.length_append]; omega
 ·have hv0 : (f a ++ h b)[j]? = some v := hv
  rcases Nat.lt_or_ge j m with hj | hj
  ·rw [List.getElem?_append_left (by omega)] at hv0
   refine a2 j v v' hv0 ?_
   rw [List.getElem?_take, if_pos hj]; exact hv'
  ·rw [List.getElem?_append_right (by omega), <- a1] at hv0
   refine b2 (j - m) v v' hv0 ?_
   rw [List.getElem?_drop, show m + (j - m) = j by omega]; exact hv'
theorem Qka {t : TypeId} {fs : Array Field} {S : Type} {f : S -> List VV} (ht : P.underlying t = some (.struct fs)) (hc : P.cellsOf t = (fs.toList.map fun g => P.cellsOf g.type).sum) (h : Qni H enc P W 0 fs.toList S f) : Opens H enc P W t S f := by
 intro fuel cs x hx
 obtain ⟨xs, n, _, _, hl, hlen, hf⟩ := DataW.trod_struct ht hx
 obtain ⟨s, h1, h2⟩ := h n cs (fun g hg => by
  obtain ⟨i, hi, e⟩ := List.getElem_of_mem hg
  have hi' : i < fs.size := by simpa using hi
  have := hf i g (by rw [<- e]; simp [hi'])
  rw [this]
  exact ⟨_, List.getElem?_eq_getElem (by omega)⟩) (by rw [hl, hc]; omega)
 exact ⟨s, by simpa using h1, fun j v v' a b => h2 j v v' a (by simpa using b)⟩
theorem Opens.agg {t : TypeId} {S : Type} {f : S -> List VV} (h : Opens H enc P W t S f) {cs : Array Value} {d : DataW H} {ps : List MemPlace} (hd : DataW.Trod enc P W 0 (fun _ => true) true t (.agg cs) d ps) : ∃ s : S, T (allM W) (.ag (f s)) (.agg cs) := by
 obtain ⟨fuel, hf⟩ := hd
 obtain ⟨s, h1, h2⟩ := h fuel _ _ hf
 have e : (Value.agg cs).cells.toList = cs.toList := by simp [Value.cells]
 rw [e] at h1 h2
 exact ⟨s, .ag (by rw [<- h1]; simp) fun j v v' a b => h2 j v v' a (by rw [Array.getElem?_toList]; exact b)⟩
end
end Go.Proofs.Ytenebnfhhhcfaaa.Vv
namespace Go.Proofs.Ytenebnfhhhcfaaa.Vv
open Go Go.Proofs.Ytenebnfhhhcfaaa.Ev
open Go.ChangeShapes Go.WideShapes Go.RowKit Go.Joins Go.Deep
variable {H : Type} {enc : TypeId × Value -> H} {P : Program} {W : World}
end Go.Proofs.Ytenebnfhhhcfaaa.Vv
namespace Go.Proofs.Ytenebnfhhhcfaaa.Vv
open Go Go.Proofs.Ytenebnfhhhcfaaa.Ev
open Go.ChangeShapes Go.WideShapes Go.RowKit Go.Joins Go.Deep
variable {H : Type} {enc : TypeId × Value -> H} {P : Program} {W : World}
theorem Opens.slice {t : TypeId} {S : Type} {g : S -> VV} (h : Opens H enc P W t S fun s => [g s]) {a : Option Addr} {n c : Nat} {d : DataW H} {ps : List MemPlace} (hd : DataW.Trod enc P W 0 (fun _ => true) true t (.slice a n c) d ps) : ∃ s : S, T (allM W) (g s) (.slice a n c) := by
 obtain ⟨fuel, hf⟩ := hd
 obtain ⟨s, h1, h2⟩ := h fuel _ _ hf
 exact ⟨s, h2 0 _ _ rfl rfl⟩
end Go.Proofs.Ytenebnfhhhcfaaa.Vv
namespace Go.Proofs.Ytenebnfhhhcfaaa.Vv
open Go Go.Proofs.Ytenebnfhhhcfaaa.Ev
variable {H : Type} {enc : TypeId × Value -> H} {P : Program} {W : World}
end Go.Proofs.Ytenebnfhhhcfaaa.Vv
namespace Go.Proofs.Ytenebnfhhhcfaaa.Vv
open Go Go.Proofs.Ytenebnfhhhcfaaa.Ev
variable {H : Type} {enc : TypeId × Value -> H} {P : Program} {W : World}
theorem Opens.as {t : TypeId} {S A : Type} {f : S -> List VV} (h : Opens H enc P W t S f) (mk : S -> A) {g : A -> List VV} (hfg : ∀ s, g (mk s) = f s) : Opens H enc P W t A g := by
 intro fuel cs x hx
 obtain ⟨s, h1, h2⟩ := h fuel cs x hx
 exact ⟨mk s, by rw [hfg]; exact h1, by rw [hfg]; exact h2⟩
theorem Opens.all {t : TypeId} {A : Type} {p : A -> Prop} {g : A -> List VV} (h : Opens H enc P W t (List { x : A // p x }) fun xs => [VV.tr (xs.flatMap fun x => g x.1) xs.length]) : Opens H enc P W t { xs : List A // ∀ x ∈ xs, p x } fun xs => [VV.tr (xs.1.flatMap g) xs.1.length] :=
 Opens.as (A := { xs : List A // ∀ x ∈ xs, p x }) (g := fun xs => [VV.tr (xs.1.flatMap g) xs.1.length]) h (fun xs => ⟨xs.map (·.1), fun x hx => by obtain ⟨y, _, rfl⟩ := List.mem_map.1 hx; exact y.2⟩)
  (fun xs => by
   show [VV.tr ((xs.map (·.1)).flatMap g) (xs.map (·.1)).length] = _
   rw [List.flatMap_map, List.length_map])
section
open Go.ChangeShapes Go.WideShapes Go.RowKit Go.Joins Go.Deep
end
end Go.Proofs.Ytenebnfhhhcfaaa.Vv

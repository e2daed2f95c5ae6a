import Derived.Test.YtfeedchjdnedjaaSX
import Derived.Test.YtfeedchjdnedjaaWa
import Derived.Shelf.Strings.Search3
import Derived.Shelf.Strings.Cut
import Derived.Shelf.Strings.OnBuilder
import Derived.Shelf.Pu.Clone
import Derived.Lib.IndexBytes
set_option linter.unusedVariables false
set_option linter.unusedSimpArgs false
namespace Go.Proofs.Ytfeedchjdnedjaa.Vg
open Go Go.Shelf Go.Lib Go.RowKit Go.Proofs.Ytfeedchjdnedjaa.Ev Go.Proofs.Ytfeedchjdnedjaa.Vv Go.Proofs.Ytfeedchjdnedjaa.Sx
open List (flatMap length_cons length_nil length_map length_append map_cons map_nil length_replicate)
theorem Qvp {P : Program} {f : FuncId} {args : List VV} {r : VV} (hf : ∃ fn c, P.funcs[f]? = some fn /\ fn.body = some c)
 (h : ∀ (w : World) (m : MM) (args' : List Value), Yo m w -> RL .no w.heap.size m args args' -> ∃ v', R .no w.heap.size m r v' /\ Calls P f args'.toArray w fun e w' => e = .returned v' /\ Below w.heap.size w w') : VC P f args r := by
 refine ⟨hf, fun w m args' hM hA => ?_⟩
 obtain ⟨v', hr, hc⟩ := h w m args' hM hA
 refine hc.mono fun e w' hh => ?_
 obtain ⟨he, hb⟩ := hh
 exact ⟨v', m, he, hb, MM.Le.refl m, fun b ob e => by rw [hb.block b (hM.lt e)]; exact hM b ob e, fun b ob e => .inl e, hr⟩
theorem Qud {n : Nat} {m : MM} {a : Value} {l : List Value} (h : RL .no n m [.c a] l) : l = [a] := by
 match l, h with
 | [x], h => rw [(h.tail.1.J9).1]
 | [], h => exact absurd h.1 (by simp)
 | x :: y :: z, h => exact absurd h.1 (by simp)
theorem Qwk {n : Nat} {m : MM} {a b : Value} {l : List Value} (h : RL .no n m [.c a, .c b] l) : l = [a, b] := by
 match l, h with
 | x :: t, h => rw [Qud h.tail.2, (h.tail.1.J9).1]
 | [], h => exact absurd h.1 (by simp)
def oneB (s : ByteArray) : Option UInt8 := match s.data.toList with | [c] => some c | _ => none
theorem Que {s : ByteArray} {c : UInt8} (h : oneB s = some c) : s = ⟨#[c]⟩ := by
 unfold oneB at h
 split at h
 ·rename_i x hx
  injection h with h; subst h
  apply ByteArray.ext
  rw [<- Array.toList_inj, hx]
 ·cases h
theorem Tc {m : MM} {v : Value} (h : Qrr v = true) {o : OM} {n : Nat} : R o n m (.c v) v := .t (.c h)
def Qad (k : Nat) (a0 : ByteArray) (a1 : ByteArray) : Option Bool := (oneB a1).bind fun c => some (decide (0 <= indexByte a0.data.toList c))
theorem Qfh (k : Nat) (a0 : ByteArray) (a1 : ByteArray) (r : Bool) (h : Qad k a0 a1 = some r) : VC Try.prog 25 [vs a0, vs a1] (vb r) := by
 unfold Qad at h
 cases hc : oneB a1 with
 | none => rw [hc] at h; cases h
 | some c =>
   rw [hc] at h
   injection h with h; subst h
   rw [Que hc]
   refine Qvp ⟨_, _, Try.func25, rfl⟩ fun w m args' hM hA => ?_
   rw [Qwk hA]
   exact ⟨_, Tc rfl, (Any.strings_Contains_one Quf a0 c w).mono fun e w' ⟨h1, h2⟩ => ⟨h1, h2 ▸ Below.refl _ _⟩⟩
set_option maxHeartbeats 2000000 in
set_option maxRecDepth 100000 in
theorem Qx8 {P : Program} {ρ : Shelf.Ren} (L : Lays.n220 P ρ) (s : ByteArray) (c : UInt8) (w : World) (hs : s.size < 4294967281) :
 Calls P (ρ.f 220) #[.string s, .string ⟨#[c]⟩] w fun e w' => e = .returned (.tuple #[.string ⟨(Lib.cut s.data.toList [c]).1.toArray⟩, .string ⟨(Lib.cut s.data.toList [c]).2.1.toArray⟩, .bool (Lib.cut s.data.toList [c]).2.2]) /\ ∃ n, w' = w.drewN n := by
 have ho : ∀ x, indexByte s.data.toList c = x -> indexB s ⟨#[c]⟩ = x := fun x h => (index_one s.data.toList c).trans h
 rcases Lib.indexB_cases s ⟨#[c]⟩ with hix | ⟨i, hix, hroom⟩
 ·have hb : indexByte s.data.toList c = -1 := (index_one s.data.toList c).symm.trans hix
  obtain ⟨e1, e2, e3⟩ := Lib.cutB_miss s ⟨#[c]⟩ hix
  rw [show ([c] : List UInt8) = (⟨#[c]⟩ : ByteArray).data.toList from rfl, e1, e2, e3]
  have t3 := L.t3; have t4 := L.t4; have t9 := L.t9
  have a3 : ∀ w, (isAgg (ρ.t 3)).run P w = .ok false w := run_isAgg_plain L.t3 rfl
  have a4 : ∀ w, (isAgg (ρ.t 4)).run P w = .ok false w := run_isAgg_plain L.t4 rfl
  have a9 : ∀ w, (isAgg (ρ.t 9)).run P w = .ok false w := run_isAgg_plain L.t9 rfl
  have e219 : ∀ args w, (callFunc (ρ.f 219) args).run P w = .ok (.enter (ρ.f 219) args) w := enters_of L.f219 (by kernel_rfl) rfl
  have mixed := L.mixed
  have z3 := L.z3; have v3 := L.v3; have z4 := L.z4; have v4 := L.v4; have z9 := L.z9; have v9 := L.v9
  go_enter L.f220, Body.n220_ntmps ρ
  go_wp2_with (go_at_fn (ρ.f 219); refine (Any.stringslite_Index_one { L with } _ _ _).mono ?_; rintro e w' ⟨rfl, rfl⟩; rw [hb])
  go_ret3
  exact ⟨rfl, 0, rfl⟩
 ·have hb : indexByte s.data.toList c = i := (index_one s.data.toList c).symm.trans hix
  obtain ⟨e1, e2, e3⟩ := Lib.cutB_hit s ⟨#[c]⟩ i hix
  rw [show ([c] : List UInt8) = (⟨#[c]⟩ : ByteArray).data.toList from rfl, e1, e2, e3]
  have hone : (⟨#[c]⟩ : ByteArray).size = 1 := rfl
  have c1 : (0 : Int) <= ↑i := by omega
  have c2 : (↑i : Int) <= ↑s.size := by omega
  have c3 : (0 : Int) <= ↑i + 1 := by omega
  have c4 : (↑i + 1 : Int) <= ↑s.size := by omega
  have t3 := L.t3; have t4 := L.t4; have t9 := L.t9
  have a3 : ∀ w, (isAgg (ρ.t 3)).run P w = .ok false w := run_isAgg_plain L.t3 rfl
  have a4 : ∀ w, (isAgg (ρ.t 4)).run P w = .ok false w := run_isAgg_plain L.t4 rfl
  have a9 : ∀ w, (isAgg (ρ.t 9)).run P w = .ok false w := run_isAgg_plain L.t9 rfl
  have e219 : ∀ args w, (callFunc (ρ.f 219) args).run P w = .ok (.enter (ρ.f 219) args) w := enters_of L.f219 (by kernel_rfl) rfl
  have mixed := L.mixed
  have z3 := L.z3; have v3 := L.v3; have z4 := L.z4; have v4 := L.v4; have z9 := L.z9; have v9 := L.v9
  go_enter L.f220, Body.n220_ntmps ρ
  go_wp2_with (go_at_fn (ρ.f 219); refine (Any.stringslite_Index_one { L with } _ _ _).mono ?_; rintro e w' ⟨rfl, rfl⟩; rw [hb])
  go_region_o
  go_wp2
  go_ret3
  exact ⟨rfl, 1, rfl⟩
theorem below_draws (w : World) (n : Nat) : Below w.heap.size w (w.drewN n) := ⟨rfl, rfl, rfl, Nat.le_refl _, fun _ _ => rfl⟩
def J8 (k : Nat) (a0 : ByteArray) (a1 : ByteArray) : Option (ByteArray × ByteArray × Bool) := if a0.size < 4294967281 then (oneB a1).bind fun c => some (⟨(Lib.cut a0.data.toList [c]).1.toArray⟩, ⟨(Lib.cut a0.data.toList [c]).2.1.toArray⟩, (Lib.cut a0.data.toList [c]).2.2) else none
theorem Qcv (k : Nat) (a0 : ByteArray) (a1 : ByteArray) (r : ByteArray × ByteArray × Bool) (h : J8 k a0 a1 = some r) : VC Try.prog 43 [vs a0, vs a1] (VV.tu [vs r.1, vs r.2.1, vb r.2.2]) := by
 unfold J8 at h
 split at h
 case isFalse => cases h
 rename_i hs
 cases hc : oneB a1 with
 | none => rw [hc] at h; cases h
 | some c =>
   rw [hc] at h
   injection h with h; subst h
   rw [Que hc]
   refine Qvp ⟨_, _, Try.func43, rfl⟩ fun w m args' hM hA => ?_
   rw [Qwk hA]
   refine ⟨_, .tu (cs := #[.string _, .string _, .bool _]) rfl (fun j v v' h1 h2 => ?_), (Qx8 Qug a0 c w hs).mono (fun e w' hh => And.intro hh.1 (by obtain ⟨n, h2⟩ := hh.2; rw [h2]; exact below_draws w n))⟩
   match j, h1, h2 with
   | 0, h1, h2 => simp at h1 h2; subst h1; subst h2; exact Tc rfl
   | 1, h1, h2 => simp at h1 h2; subst h1; subst h2; exact Tc rfl
   | 2, h1, h2 => simp at h1 h2; subst h1; subst h2; exact Tc rfl
   | j + 3, h1, h2 => simp at h1
def Ju (k : Nat) (a0 : ByteArray) : Option ByteArray := if a0.size <= 281474976710656 then some a0 else none
theorem Qca (k : Nat) (a0 : ByteArray) (r : ByteArray) (h : Ju k a0 = some r) : VC Try.prog 45 [vs a0] (vs r) := by
 unfold Ju at h
 split at h
 ·rename_i hs
  injection h with h; subst h
  refine Qvp ⟨_, _, Try.func45, rfl⟩ fun w m args' hM hA => ?_
  rw [Qud hA]
  exact ⟨_, Tc rfl, AnyPu.stringslite_Clone Qrs a0 w hs⟩
 ·cases h
def Qxl (xs : List ByteArray) (sep : ByteArray) : ByteArray := ⟨(Lib.join (xs.map (·.data.toList)) sep.data.toList).toArray⟩
def Qct (k : Nat) (a0 : List ByteArray) (a1 : ByteArray) : Option ByteArray := if a0.length <= 140737488355328 /\ (Lib.join (a0.map (·.data.toList)) a1.data.toList).length <= 140737488355328 then some (Qxl a0 a1) else none
theorem Qhw (k : Nat) (a0 : List ByteArray) (a1 : ByteArray) (r : ByteArray) (h : Qct k a0 a1 = some r) : VC Try.prog 46 [VV.tr (List.map vs a0) a0.length, vs a1] (vs r) := by
 unfold Qct at h
 split at h
 ·rename_i hs
  injection h with h; subst h
  refine Qvp ⟨_, _, Try.func46, rfl⟩ fun w m args' hM hA => ?_
  match args', hA with
  | [], hA => exact absurd hA.1 (by simp)
  | x :: t, hA =>
    rw [Qud hA.tail.2]
    have hx := hA.tail.1
    refine ⟨_, Tc rfl, ?_⟩
    generalize hn : a0.length = n at hx
    cases hx with
    | t hx =>
      generalize hcs : List.map vs a0 = cells at hx
      cases hx with
      | e =>
        obtain rfl : a0 = [] := List.length_eq_zero_iff.1 hn
        exact (Any.strings_Join_none Qnl Qkj _ 0 a1 w).mono (fun e w' hh => And.intro hh.1 (by rw [hh.2]; exact Below.refl _ _))
      | tr hb hcap hsz hc =>
        rename_i b off cap cs t fz
        subst hn
        have hw := hM _ _ hb
        exact Any.strings_Join Qnl Qkj b off cap a0 a1 w (fun j x hj => by
         have h1 : cells[j]? = some (vs x) := by rw [<- hcs, List.getElem?_map, hj]; rfl
         have h2 : off + j < cs.size := by
          have := (List.getElem?_eq_some_iff.1 h1).1; omega
         have h3 := hc j (vs x) cs[off + j] h1 (Array.getElem?_eq_getElem h2)
         have h4 := ((R.t (o := .no) (fb := 0) h3).J9).1
         unfold World.cell?
         rw [hw]
         show cs[off + j]? = _
         rw [Array.getElem?_eq_getElem h2, h4]) (hM.lt hb) hs.1 hcap hs.2
 ·cases h
end Go.Proofs.Ytfeedchjdnedjaa.Vg

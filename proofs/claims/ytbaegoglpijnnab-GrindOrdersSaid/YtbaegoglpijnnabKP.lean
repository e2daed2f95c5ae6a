import Derived.Test.YtbaegoglpijnnabA2
import Derived.Test.YtbaegoglpijnnabKM
set_option linter.unusedVariables false
set_option linter.unusedSimpArgs false
namespace Go.Proofs.Ytbaegoglpijnnab.Vg
open Go Go.Proofs.Ytbaegoglpijnnab.Ev Go.Proofs.Ytbaegoglpijnnab.Vv
theorem ints_l (k : Nat) (y : List Int) (hl : y.length <= 43) : ∀ (d fuel i : Nat), y.length = i + d -> d < fuel -> nspeculumbase_Ints_l0_0 k y y fuel (i : Int) = some (.inr ()) := by
 intro d
 induction d with
 | zero =>
   intro fuel i h hf
   obtain ⟨g, rfl⟩ : ∃ g, fuel = g + 1 := ⟨fuel - 1, by omega⟩
   rw [nspeculumbase_Ints_l0_0.eq_2, if_neg (by omega)]
 | succ d ih =>
   intro fuel i h hf
   obtain ⟨g, rfl⟩ : ∃ g, fuel = g + 1 := ⟨fuel - 1, by omega⟩
   rw [nspeculumbase_Ints_l0_0.eq_2, if_pos (by omega), if_pos (by omega), if_pos (by omega), if_pos rfl, big_succ (by omega)]
   exact ih g (i + 1) (by omega) (by omega)
theorem ints_same (k : Nat) (hk : 100 < k) (y : List Int) (hl : y.length <= 43) : nspeculumbase_Ints k y y = some true := by
 unfold nspeculumbase_Ints
 rw [if_pos rfl, show nspeculumbase_Ints_l0_0 k y y k 0 = _ from ints_l k y hl y.length k 0 (by omega) (by omega)]; rfl
theorem wS_rev (mi : ByteArray) (m : List (ByteArray × List Int)) (z : Nat) : ∀ a : List SGrindSession, wS mi m a.reverse z = wS mi m a z
 | [] => rfl
 | s :: a => by
   rw [List.reverse_cons, wS_append, wS_rev mi m z a]
   simp only [wS]; omega
theorem wS_filter (mi : ByteArray) (m : List (ByteArray × List Int)) (z : Nat) : ∀ a : List SGrindSession, wS mi m (a.filter fun s => decide (s.Mirror = mi)) z = wS mi m a z
 | [] => rfl
 | s :: a => by
   by_cases c : s.Mirror = mi
   ·rw [List.filter_cons_of_pos (by simpa using c)]
    simp only [wS]; rw [wS_filter mi m z a]
   ·rw [List.filter_cons_of_neg (by simpa using c), wS_filter mi m z a]
    simp only [wS]; rw [if_neg c]; omega
theorem turn_l (k : Nat) (l : List SStroke) (x : SDay) (r : List Int × Int) : ∀ (d fuel : Nat) (y1 y2 : List SGrindSession) (i : Int), i = (d : Int) - 1 -> d <= x.Sessions.length -> d < fuel -> y1.length + d <= 1000 -> y2.length + d <= 1000 ->
 nspeculumlaw04_GrindOrders_l0_0 k l x r fuel y1 y2 i = some (y1 ++ (x.Sessions.take d).reverse, y2 ++ (x.Sessions.take d).reverse.filter fun s => decide (s.Mirror = x.More.Mirror)) := by
 intro d
 induction d with
 | zero =>
   intro fuel y1 y2 i hi hd hf h1 h2
   obtain ⟨g, rfl⟩ : ∃ g, fuel = g + 1 := ⟨fuel - 1, by omega⟩
   rw [nspeculumlaw04_GrindOrders_l0_0.eq_2, if_neg (by omega)]; simp
 | succ d ih =>
   intro fuel y1 y2 i hi hd hf h1 h2
   obtain ⟨g, rfl⟩ : ∃ g, fuel = g + 1 := ⟨fuel - 1, by omega⟩
   obtain rfl : i = (d : Int) := by omega
   have ht : (x.Sessions.take (d + 1)).reverse = x.Sessions.getD d default :: (x.Sessions.take d).reverse := by
    rw [List.take_add_one, List.getElem?_eq_getElem (by omega), List.reverse_append, List.getD_eq_getElem?_getD, List.getElem?_eq_getElem (by omega)]; rfl
   rw [nspeculumlaw04_GrindOrders_l0_0.eq_2, if_pos (by omega), if_pos (by omega), Int.toNat_natCast, if_pos (by simp only [List.length_cons, List.length_nil]; omega), w64_id (n := (d : Int) - 1) (by omega) (by omega), ht]
   by_cases c : (x.Sessions.getD d default).Mirror = x.More.Mirror
   ·rw [if_pos c, if_pos (by simp only [List.length_cons, List.length_nil]; omega), ih g _ _ _ rfl (by omega) (by omega) (by simp only [List.length_append, List.length_cons, List.length_nil]; omega) (by simp only [List.length_append, List.length_cons, List.length_nil]; omega), List.filter_cons_of_pos (by simpa using c), List.append_assoc, List.append_assoc]; rfl
   ·rw [if_neg c, ih g _ _ _ rfl (by omega) (by omega) (by simp only [List.length_append, List.length_cons, List.length_nil]; omega) (by omega), List.filter_cons_of_neg (by simpa using c), List.append_assoc]; rfl
theorem wearS_ok {l : List SStroke} {m : List (ByteArray × List Int)} {ss : List SGrindSession} {mi : ByteArray} (hl : strE l = 0) (hn : nameB mi = true) (h2 : ss.length <= 200) (h : ∀ s ∈ ss, sesE1 l s = 0) : wearS l m ss mi = ((List.range (zones l)).map (wS mi m ss), 0) := by
 unfold wearS
 rw [if_pos hl, if_pos (by unfold sesE; rw [decide_eq_true h2]; exact sesL_all h), hn]
theorem wearS_zero {l : List SStroke} {m : List (ByteArray × List Int)} {ss : List SGrindSession} {mi : ByteArray} : (wearS l m ss mi).2 ≠ 0 /\ (wearS l m ss mi).1 = [] \/ strE l = 0 /\ sesE l ss = 0 /\ nameB mi = true /\ wearS l m ss mi = ((List.range (zones l)).map (wS mi m ss), 0) := by
 unfold wearS
 by_cases hl : strE l = 0
 ·rw [if_pos hl]
  by_cases h : sesE l ss = 0
  ·rw [if_pos h]
   cases nameB mi with
   | true => exact .inr ⟨hl, h, rfl, rfl⟩
   | false => exact .inl ⟨by simp, rfl⟩
  ·rw [if_neg h]; exact .inl ⟨h, rfl⟩
 ·rw [if_neg hl]; exact .inl ⟨hl, rfl⟩
theorem law_l (k : Nat) (x : SDay) (q : List SGrindSession × List SGrindSession) (n : Nat) (hn : n <= 43) (f f1 f2 : Nat -> Int) (D : SGrindDemand) (hD1 : D.Low.length = n) (hD2 : D.High.length = n) (hd : x.Demand.High.length = n) (hf : ∀ z, z < n -> f2 z = f z + f1 z /\ 0 <= f2 z /\ f2 z <= 1000000000 /\ f2 z <= x.Demand.High.getD z 0 /\ D.High.getD z 0 = w64 (x.Demand.High.getD z 0 - f2 z) /\ 0 <= D.Low.getD z 0 /\ D.Low.getD z 0 <= D.High.getD z 0) : ∀ (d fuel i : Nat), n = i + d -> d < fuel ->
 nspeculumlaw04_GrindOrders_l1_0 k x ((List.range n).map f, 0) q ((List.range n).map f2, 0) ((List.range n).map f1, 0) (D, 0) fuel (i : Int) = some (.inr ()) := by
 intro d
 induction d with
 | zero =>
   intro fuel i h hf
   obtain ⟨g, rfl⟩ : ∃ g, fuel = g + 1 := ⟨fuel - 1, by omega⟩
   rw [nspeculumlaw04_GrindOrders_l1_0.eq_2]
   dsimp only
   rw [List.length_map, List.length_range, if_neg (by omega)]
 | succ d ih =>
   intro fuel i h hfu
   obtain ⟨g, rfl⟩ : ∃ g, fuel = g + 1 := ⟨fuel - 1, by omega⟩
   have hi : i < n := by omega
   obtain ⟨e1, e2, e3, e4, e5, e6, e7⟩ := hf i hi
   rw [nspeculumlaw04_GrindOrders_l1_0.eq_2]
   dsimp only
   simp only [List.length_map, List.length_range, Int.toNat_natCast, getD_map hi]
   rw [if_pos (by omega), if_pos (by omega), if_pos (by omega), if_pos (by omega), if_pos (by rw [w64_id (by omega) (by omega)]; exact e1), if_pos (by omega), if_neg (by omega), if_pos (by omega), if_pos e5, if_pos (by omega), if_neg (by omega), if_neg (by omega), big_succ (by omega)]
   exact ih g (i + 1) (by omega) (by omega)
theorem maxI_nn (x : Int) : 0 <= maxI 0 x := by unfold maxI; split <;> omega
theorem maxI_le {x y : Int} (h1 : 0 <= y) (h2 : x <= y) : maxI 0 x <= y := by unfold maxI; split <;> omega
theorem law_orders (k : Nat) (hk : k = 100000000000000000000) (l : List SStroke) (x : SDay) (hx : x.Sessions.length <= 9223372036854775807) : nspeculumlaw04_GrindOrders k l x = some true := by
 unfold nspeculumlaw04_GrindOrders
 obtain ⟨b, hb, hb2⟩ := light_any k (by omega) l
 obtain ⟨c, hc, hc2⟩ := slim_any k x.Demand
 obtain ⟨e, he, he2⟩ := few_any k x.Sessions hx (by omega)
 rw [show nawake k = some true from rfl, Option.bind_some, if_pos rfl, hb, Option.bind_some]
 cases b with
 | false => rfl
 | true =>
   obtain ⟨hl15, hw⟩ := hb2 rfl
   rw [if_pos rfl, hc, Option.bind_some]
   cases c with
   | false => rfl
   | true =>
     obtain ⟨s1, s2⟩ := hc2 rfl
     rw [if_pos rfl, he, Option.bind_some]
     cases e with
     | false => rfl
     | true =>
       rw [if_pos rfl]
       by_cases c1 : 10 < (x.Sessions.length : Int)
       ·rw [if_pos c1]
       ·rw [if_neg c1]
        by_cases c2 : 30 < (x.More.Mirror.size : Int)
        ·rw [if_pos c2]
        ·rw [if_neg c2]
         by_cases c3 : 30 < (x.More.Stroke.size : Int)
         ·rw [if_pos c3]
         ·obtain ⟨m, m1, m2⟩ : ∃ m, ngrind_wearByName k l = some m /\ (strE l = 0 -> ∀ s, sesE1 l s = 0 -> mhas m s.Stroke = true /\ nameB s.Mirror = true /\ (1 <= s.Minutes /\ s.Minutes <= 10000) /\ (mget m s.Stroke).length = zones l /\ ∀ z, z < zones l -> 0 <= (mget m s.Stroke).getD z 0 /\ (mget m s.Stroke).getD z 0 <= 100) := by
           by_cases hl : strE l = 0
           ·obtain ⟨m, m1, _, m3⟩ := ses_facts k (by omega) hl
            exact ⟨m, m1, fun _ => m3⟩
           ·obtain ⟨m, m1, _, _⟩ := byName_any k (by omega) l (by omega)
            exact ⟨m, m1, fun h => absurd h hl⟩
          have hcp : nspeculumlaw04_sessions k x.Sessions = some x.Sessions := by unfold nspeculumlaw04_sessions; rw [if_pos (by simp; omega)]; rfl
          have wp : ∀ ss : List SGrindSession, ss.length <= 203 -> ngrind_WearOf k l ss x.More.Mirror = some (wearS l m ss x.More.Mirror) := fun ss h => wearOf_p k (by omega) (by omega) l hl15 hw m m1 m2 ss h _
          rw [if_neg c3, copy_any k (by omega) l hl15 hw, Option.bind_some, hcp, Option.bind_some, wp _ (by omega), Option.bind_some]
          rcases wearS_zero (l := l) (m := m) (ss := x.Sessions) (mi := x.More.Mirror) with ⟨h1, h2⟩ | ⟨hl, hse, hn, h1⟩
          ·rw [if_neg h1, h2]; rfl
          ·obtain ⟨h200, hok⟩ := sesE_zero hse
           have hall := sesL_zero hok
           obtain ⟨h0, h12, hg⟩ := strE_zero hl
           have hz2 : zones l <= 40 := (hg 0 h0).1.z2
           have ht := turn_l k l x ((List.range (zones l)).map (wS x.More.Mirror m x.Sessions), 0) x.Sessions.length k [] [] (w64 ((x.Sessions.length : Int) - 1)) (by rw [w64_id (by omega) (by omega)]) (by omega) (by omega) (by simp; omega) (by simp; omega)
           rw [List.take_length, List.nil_append, List.nil_append] at ht
           have hfl := List.length_filter_le (fun s => decide (s.Mirror = x.More.Mirror)) x.Sessions.reverse
           rw [List.length_reverse] at hfl
           have e1 := wearS_ok (l := l) (m := m) (ss := x.Sessions.reverse) (mi := x.More.Mirror) hl hn (by rw [List.length_reverse]; omega) (fun s hs => hall s (List.mem_reverse.1 hs))
           have e2 := wearS_ok (l := l) (m := m) (ss := x.Sessions.reverse.filter fun s => decide (s.Mirror = x.More.Mirror)) (mi := x.More.Mirror) hl hn (by omega) (fun s hs => hall s (List.mem_reverse.1 (List.mem_filter.1 hs).1))
           have f1 : wS x.More.Mirror m x.Sessions.reverse = wS x.More.Mirror m x.Sessions := funext fun z => wS_rev _ _ z _
           have f2 : wS x.More.Mirror m (x.Sessions.reverse.filter fun s => decide (s.Mirror = x.More.Mirror)) = wS x.More.Mirror m x.Sessions := funext fun z => by rw [wS_filter, wS_rev]
           rw [f1] at e1
           rw [f2] at e2
           have hi := ints_same k (by omega) ((List.range (zones l)).map (wS x.More.Mirror m x.Sessions)) (by simp; omega)
           rw [h1, if_pos rfl, ht, Option.bind_some, wp _ (by rw [List.length_reverse]; omega), Option.bind_some, wp _ (by dsimp only; omega), Option.bind_some, e1, e2, if_pos rfl, if_pos rfl, hi, Option.bind_some, if_pos rfl, Option.bind_some, if_pos rfl, demand_copy k x.Demand s1 s2, Option.bind_some, add_p k (by omega) (by omega) l hl15 hw m m1 m2 x.Demand x.Sessions (by omega) x.More, Option.bind_some]
           by_cases ha : (addS l m x.Demand x.Sessions x.More).2 = 0
           ·rw [if_pos ha]
            have key : sesC l x.Demand x.Sessions = 0 /\ sesE l (x.Sessions ++ [x.More]) = 0 /\ under ((List.range (zones l)).map (wS x.More.Mirror m (x.Sessions ++ [x.More]))) x.Demand.High = true /\ (addS l m x.Demand x.Sessions x.More).1 = x.Sessions ++ [x.More] := by
             unfold addS at ha ⊢
             by_cases g1 : sesC l x.Demand x.Sessions = 0
             ·rw [if_pos g1] at ha ⊢
              by_cases g2 : sesE l (x.Sessions ++ [x.More]) = 0
              ·rw [if_pos g2] at ha ⊢
               cases g3 : under ((List.range (zones l)).map (wS x.More.Mirror m (x.Sessions ++ [x.More]))) x.Demand.High with
               | true => exact ⟨g1, g2, rfl, rfl⟩
               | false => rw [g3] at ha; cases ha
              ·rw [if_neg g2] at ha; exact absurd ha g2
             ·rw [if_neg g1] at ha; exact absurd ha g1
            obtain ⟨k1, k2, k3, k4⟩ := key
            obtain ⟨_, hd, _⟩ := sesC_zero k1
            obtain ⟨d1, d2, d3⟩ := demE_zero hd
            obtain ⟨j200, jok⟩ := sesE_zero k2
            have jall := sesL_zero jok
            have e3 := wearS_ok (l := l) (m := m) (ss := x.Sessions ++ [x.More]) (mi := x.More.Mirror) hl hn j200 jall
            have e4 := wearS_ok (l := l) (m := m) (ss := [x.More]) (mi := x.More.Mirror) hl hn (by simp) (fun s hs => jall s (by rw [List.mem_singleton.1 hs]; simp))
            have e5 : leftS l m x.Demand (x.Sessions ++ [x.More]) x.More.Mirror = (⟨(List.range (zones l)).map (leL x.Demand ((List.range (zones l)).map (wS x.More.Mirror m (x.Sessions ++ [x.More])))), (List.range (zones l)).map (leH x.Demand ((List.range (zones l)).map (wS x.More.Mirror m (x.Sessions ++ [x.More]))))⟩, 0) := by
             unfold leftS
             rw [if_pos (by unfold sesC; rw [if_pos hl, if_pos hd]; exact k2), hn]
             dsimp only
             rw [k3]
            have hlw := law_l k x (x.Sessions.reverse, x.Sessions.reverse.filter fun s => decide (s.Mirror = x.More.Mirror)) (zones l) (by omega) (wS x.More.Mirror m x.Sessions) (wS x.More.Mirror m [x.More]) (wS x.More.Mirror m (x.Sessions ++ [x.More])) ⟨(List.range (zones l)).map (leL x.Demand ((List.range (zones l)).map (wS x.More.Mirror m (x.Sessions ++ [x.More])))), (List.range (zones l)).map (leH x.Demand ((List.range (zones l)).map (wS x.More.Mirror m (x.Sessions ++ [x.More]))))⟩ (by simp) (by simp) d2 (fun z hz => by
             have b1 := wS_bd (m2 hl) x.More.Mirror hz (x.Sessions ++ [x.More]) jall
             have b2 := d3 z hz
             have b3 := (lowB_iff _ _ _ 0).1 k3 z (by omega) (by rw [List.length_map, List.length_range]; omega)
             rw [getD_map hz] at b3
             have b4 : ((x.Sessions ++ [x.More]).length : Int) <= 200 := by omega
             dsimp only
             rw [getD_map hz, getD_map hz]
             unfold leL leH
             rw [getD_map hz]
             refine ⟨wS_append _ _ _ _ _, b1.1, by omega, b3, rfl, maxI_nn _, ?_⟩
             rw [w64_id (n := x.Demand.High.getD z 0 - _) (by omega) (by omega), w64_id (by omega) (by omega)]
             exact maxI_le (by omega) (by omega)) (zones l) k 0 (by omega) (by omega)
            rw [k4, wp _ (by omega), Option.bind_some, wp _ (by simp), Option.bind_some, leftFor_p k (by omega) (by omega) l hl15 hw m m1 m2 x.Demand (x.Sessions ++ [x.More]) (by omega) x.More.Mirror, Option.bind_some, e3, e4, e5]
            dsimp only
            simp only [List.length_map, List.length_range, if_true]
            rw [if_pos (by omega)]
            rw [show nspeculumlaw04_GrindOrders_l1_0 k x ((List.range (zones l)).map (wS x.More.Mirror m x.Sessions), 0) (x.Sessions.reverse, x.Sessions.reverse.filter fun s => decide (s.Mirror = x.More.Mirror)) ((List.range (zones l)).map (wS x.More.Mirror m (x.Sessions ++ [x.More])), 0) ((List.range (zones l)).map (wS x.More.Mirror m [x.More]), 0) _ k 0 = _ from hlw]; rfl
           ·rw [if_neg ha]
theorem vc_orders (l : List SStroke) (x : SDay) (hx : x.Sessions.length <= 9223372036854775807) : VC Go.Proofs.Try.prog 4 [VV.tr (l.flatMap c_SStroke) l.length, VV.ag (c_SDay x)] (vb true) := nspeculumlaw04_GrindOrders_ok _ _ _ _ (law_orders 100000000000000000000 rfl l x hx)
end Go.Proofs.Ytbaegoglpijnnab.Vg

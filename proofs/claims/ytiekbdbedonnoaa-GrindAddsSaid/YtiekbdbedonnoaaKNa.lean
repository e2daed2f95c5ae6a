import Derived.Test.YtiekbdbedonnoaaA1
import Derived.Test.YtiekbdbedonnoaaKMa
set_option linter.unusedVariables false
set_option linter.unusedSimpArgs false
namespace Go.Proofs.Ytiekbdbedonnoaa.Vg
open Go Go.Proofs.Ytiekbdbedonnoaa.Ev Go.Proofs.Ytiekbdbedonnoaa.Vv
theorem Q1t (k : Nat) (y : List Int) (hl : y.length <= 43) : ∀ (d fuel i : Nat), y.length = i + d -> d < fuel -> Xp k y y fuel (i : Int) = some (.inr ()) := by
 intro d
 induction d with
 | zero =>
   intro fuel i h hf
   obtain ⟨g, rfl⟩ : ∃ g, fuel = g + 1 := ⟨fuel - 1, by omega⟩
   rw [Xp.eq_2, if_neg (by omega)]
 | succ d ih =>
   intro fuel i h hf
   obtain ⟨g, rfl⟩ : ∃ g, fuel = g + 1 := ⟨fuel - 1, by omega⟩
   rw [Xp.eq_2, if_pos (by omega), if_pos (by omega), if_pos (by omega), if_pos rfl, Y9 (by omega)]
   exact ih g (i + 1) (by omega) (by omega)
theorem Qo5 (k : Nat) (hk : 100 < k) (y : List Int) (hl : y.length <= 43) : Qam k y y = some true := by
 unfold Qam
 rw [if_pos rfl, show Xp k y y k 0 = _ from Q1t k y hl y.length k 0 (by omega) (by omega)]; rfl
theorem Qk2 (k : Nat) (hk : 100 < k) (d : Qg) (h1 : d.Low.length <= 43) (h2 : d.High.length <= 43) : Xe k d d = some true := by
 unfold Xe
 rw [Qo5 k hk _ h1, Option.bind_some, if_pos rfl, Qo5 k hk _ h2]; rfl
theorem Q3j (k : Nat) (l : List Qd) (x : SDay) (r : List Qb × Int) (hr : r.1.length <= 201) : ∀ (d fuel i : Nat), r.1.length = i + d -> d < fuel -> Zt k l x r r fuel (i : Int) = some (.inr ()) := by
 intro d
 induction d with
 | zero =>
   intro fuel i h hf
   obtain ⟨g, rfl⟩ : ∃ g, fuel = g + 1 := ⟨fuel - 1, by omega⟩
   rw [Zt.eq_2, if_neg (by omega)]
 | succ d ih =>
   intro fuel i h hf
   obtain ⟨g, rfl⟩ : ∃ g, fuel = g + 1 := ⟨fuel - 1, by omega⟩
   rw [Zt.eq_2, if_pos (by omega), if_pos (by omega), if_pos (by omega), if_pos (by simp), Y9 (by omega)]
   exact ih g (i + 1) (by omega) (by omega)
theorem Qxp (k : Nat) (hk : k = 100000000000000000000) (l : List Qd) (x : SDay) (hx : x.Sessions.length <= 9223372036854775807) : Qan k l x = some true := by
 unfold Qan
 obtain ⟨b, hb, hb2⟩ := Quv k (by omega) l
 obtain ⟨c, hc, hc2⟩ := Qxq k x.Demand
 obtain ⟨e, he, he2⟩ := Quw k x.Sessions hx (by omega)
 obtain ⟨f, hf, _⟩ := Quw k [x.More] (by simp) (by simp; omega)
 rw [show Qui k = some true from rfl, Option.bind_some, if_pos rfl, hb, Option.bind_some]
 cases b with
 | false => rfl
 | true =>
   obtain ⟨hl15, hw⟩ := hb2 rfl
   rw [if_pos rfl, hc, Option.bind_some]
   cases c with
   | false => rfl
   | true =>
     obtain ⟨s1, s2⟩ := hc2 rfl
     rw [if_pos rfl, he, Option.bind_some]
     cases e with
     | false => rfl
     | true =>
       have hs := he2 rfl
       rw [if_pos rfl, hf, Option.bind_some]
       cases f with
       | false => rfl
       | true =>
         have hcp : Y2 k x.Sessions = some x.Sessions := by unfold Y2; rw [if_pos (by simp; omega)]; rfl
         obtain ⟨r, r1, r2, r3, _, _⟩ := Qxr k (by omega) (by omega) l hl15 hw x.Demand x.Sessions hs x.More
         have e5 := Qil k (by omega) l hl15 hw x.Demand
         have e6 := Qjk k (by omega) l hl15 x.Sessions hs
         have sm := Qk2 k (by omega) ⟨[], []⟩ (by simp) (by simp)
         rw [if_pos rfl, Qxs k (by omega) l hl15 hw, Option.bind_some, Qqp k x.Demand s1 s2, Option.bind_some, hcp, Option.bind_some, r1, Option.bind_some, r2, Option.bind_some, if_pos rfl, if_pos rfl, show Zt k l x r r k 0 = _ from Q3j k l x r r3 r.1.length k 0 (by omega) (by omega), Option.bind_some]
         dsimp only
         rw [e5, e6, Qnn k (by omega)]
         rcases Qux k (by omega) (by omega) l hl15 hw x.Demand x.Sessions hs x.More.Mirror with ⟨h1, h2⟩ | ⟨h1, h2⟩
         ·rw [h2]
          unfold sesC at h1 h2 ⊢
          by_cases hl : strE l = 0
          ·rw [if_pos hl] at *
           by_cases hd : demE l x.Demand = 0
           ·rw [if_pos hd] at *
            simp [hl, hd, h1, sm]
           ·rw [if_neg hd] at *
            simp [hl, hd, sm]
          ·rw [if_neg hl] at *
           simp [hl, sm]
         ·have h1' := h1
          unfold sesC at h1'
          by_cases hl : strE l = 0
          ·rw [if_pos hl] at h1'
           by_cases hd : demE l x.Demand = 0
           ·rw [if_pos hd] at h1'
            rcases h2 with ⟨hn, h2⟩ | ⟨hn, u, u1, u2, u3, h2⟩
            ·rw [h2]; simp [hl, hd, h1', hn, sm]
            ·obtain ⟨h0, h12, hg⟩ := Qfg hl
             have hz2 : zones l <= 40 := (hg 0 h0).1.z2
             obtain ⟨d1, d2, _⟩ := Qk3 hd
             have e7 := Quy k (by omega) l hz2 x.Demand d1 d2 x.Sessions x.More.Mirror u u2 u3
             have sm2 := Qk2 k (by omega) ⟨(List.range u.length).map (leL x.Demand u), (List.range u.length).map (leH x.Demand u)⟩ (by simp; omega) (by simp; omega)
             rw [h2, e7]
             cases under u x.Demand.High with
             | true => simp [hl, hd, h1', hn, sm2]
             | false => simp [hl, hd, h1', hn, sm]
           ·rw [if_neg hd] at h1'; exact absurd h1' hd
          ·rw [if_neg hl] at h1'; exact absurd h1' hl
theorem Qz2 (l : List Qd) (x : SDay) (hx : x.Sessions.length <= 9223372036854775807) : VC Try.prog 4 [VV.tr (l.flatMap Qc) l.length, VV.ag (Qow x)] (vb true) := Qff _ _ _ _ (Qxp 100000000000000000000 rfl l x hx)
end Go.Proofs.Ytiekbdbedonnoaa.Vg

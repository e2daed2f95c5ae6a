import Derived.Test.YtfeedchjdnedjaaT1
namespace Go.Proofs.Ytfeedchjdnedjaa.Vg
set_option maxRecDepth 100000
set_option maxHeartbeats 4000000
set_option linter.unusedVariables false
set_option linter.unusedSimpArgs false
open Go Go.Proofs.Ytfeedchjdnedjaa.Ev Go.Proofs.Ytfeedchjdnedjaa.Vv
open List (flatMap length_cons length_nil length_map length_append map_cons map_nil length_replicate)
structure Qeh where
 Promise : Qb
 Text : ByteArray
 deriving Inhabited
def Qgh (x : Qeh) : List VV := [vs x.Promise.Mirror, vs x.Promise.Batch, vs x.Text]
theorem Qt4 : EqOK Try.prog 25 [some .s, some .s] := Qxx (by kernel_rfl) (by kernel_rfl) (Qrc Try.underlying25 (by kernel_rfl) (by kernel_rfl) (by kernel_rfl) (.cons (by decide +kernel) rfl (Qtx Try.underlying9 (by kernel_rfl) (by kernel_rfl)) (.cons (by decide +kernel) rfl (Qtx Try.underlying9 (by kernel_rfl) (by kernel_rfl)) .nil)))
def Qs2 (k : Nat) : Option Bool := some true
theorem Y8 (k : Nat) (r : Bool) (h : Qs2 k = some r) : VC Try.prog 4 [] (vb r) := by
 injection h with h; subst h
 exact Qvh
def Qwh (z0 : ((List Qb) × Int)) (z1 : Int) (z2 : ((List Qb) × Int)) : List Ans := (nN 3 (.v (VV.ag (Qa (z0.1.getD z1.toNat default))) :: nN 3 (.v (VV.ag (Qa (z2.1.getD z1.toNat default))) :: .n :: [])))
def Qzk (z0 : Bool) : List Ans := (.n :: .n :: .call (vb z0) :: nN 7 (.b false :: .n :: nS 5 (.b true :: .n :: nS 4 (.b true :: []))))
def Qzl (z0 : Bool) : List Ans := (.n :: .n :: .call (vb z0) :: nN 7 (.b false :: nN 6 (.b false :: .n :: nS 4 (.b true :: []))))
def Qe5 (z0 : Bool) : List Ans := (.n :: .n :: .call (vb z0) :: nN 7 (.b false :: nN 6 (.b false :: nN 5 (.b false :: []))))
def Xi (a2 : Qeh) (r2948 : ((List Qb) × Int)) (r2952 : ((List Qb) × Int)) (x11 : Int) : VS := ⟨mkA [(5, VV.pt 0 0), (7, VV.fr (flatMap Qa r2948.1) r2948.1.length), (9, VV.fr (flatMap Qa r2952.1) r2952.1.length), (11, vi x11)], [some ⟨true, 1, Qgh a2⟩], .nil⟩
def X3 (a2 : Qeh) (r2948 : ((List Qb) × Int)) (r2952 : ((List Qb) × Int)) (r : Unit) : VS := ⟨mkA [(6, vb false)], [], .nil⟩
def Qs (a2 : Qeh) (r2948 : ((List Qb) × Int)) (r2952 : ((List Qb) × Int)) (r : Unit) : VS := ⟨mkA [(5, VV.pt 0 0)], [some ⟨true, 1, Qgh a2⟩], .nil⟩
def Qy (k : Nat) (a2 : Qeh) (r2948 : ((List Qb) × Int)) (r2952 : ((List Qb) × Int)) : Nat -> Int -> Option (Sum Unit Unit)
 | 0, _ => none
 | fuel + 1, x11 => if x11 < (r2948.1.length : Int) then (if 0 <= x11 /\ x11 < (r2948.1.length : Int) then (if 0 <= x11 /\ x11 < (r2952.1.length : Int) then (if (decide ((r2948.1.getD x11.toNat default).Mirror = ((r2952.1.getD x11.toNat default).Mirror)) && (decide ((r2948.1.getD x11.toNat default).Batch = ((r2952.1.getD x11.toNat default).Batch)) && true)) = true then (Qy k a2 r2948 r2952 fuel (w64 (x11 + 1))) else (some (.inl ()))) else none) else none) else (some (.inr ()))
theorem Qa3 (k : Nat) (a2 : Qeh) (r2948 : ((List Qb) × Int)) (r2952 : ((List Qb) × Int)) : ∀ (fuel : Nat) (x11 : Int) (r : Sum Unit Unit), Qy k a2 r2948 r2952 fuel x11 = some r -> (match r with | .inl r => Ya none Try.prog (szF Try.f3) (X9 Try.f3 0) (Xi a2 r2948 r2952 x11) .ret (X3 a2 r2948 r2952 r) | .inr r => Ya none Try.prog (szF Try.f3) (X9 Try.f3 0) (Xi a2 r2948 r2952 x11) (.exit 0) (Qs a2 r2948 r2952 r)) := by
 intro fuel
 induction fuel with
 | zero => intro x11 r h; rw [Qy.eq_1] at h; cases h
 | succ fuel ih =>
  intro x11 r h
  rw [Qy.eq_2] at h
  rcases ifs h with ⟨h2980, h⟩ | ⟨h2980, h⟩
  ·obtain ⟨h2981, h⟩ := ifn h
   have e2982 := (show Jw Try.prog 25 (x11.toNat * 2) (flatMap Qa r2948.1) = some (VV.ag (Qa (r2948.1.getD x11.toNat default))) from Qfw ag25 Qa 2 sz25 Qj r2948.1 default h2981 (by omega))
   obtain ⟨h2983, h⟩ := ifn h
   have e2984 := (show Jw Try.prog 25 (x11.toNat * 2) (flatMap Qa r2952.1) = some (VV.ag (Qa (r2952.1.getD x11.toNat default))) from Qfw ag25 Qa 2 sz25 Qj r2952.1 default h2983 (by omega))
   have e2985 := (show List.map kdV [Value.string ((r2948.1.getD x11.toNat default).Mirror), Value.string ((r2948.1.getD x11.toNat default).Batch)] = List.map kdV [Value.string ((r2952.1.getD x11.toNat default).Mirror), Value.string ((r2952.1.getD x11.toNat default).Batch)] /\ EqOK Try.prog 25 (List.map kdV [Value.string ((r2952.1.getD x11.toNat default).Mirror), Value.string ((r2952.1.getD x11.toNat default).Batch)]) from ⟨rfl, Qt4⟩)
   have e2986 := (ti (ti (an h2981 (an e2982 (ti (ti (an h2983 (an e2984 (an e2985 tt)))))))))
   rcases ifs h with ⟨h2987, h⟩ | ⟨h2987, h⟩
   ·have h2 := ih _ _ h
    obtain ⟨q, hv, hq⟩ := pkR (rd := none) (P := Try.prog) (fn := Try.f3) (k := 0) (s := (Xi a2 r2948 r2952 x11)) (ans := [.reg (nN 4 []), .br true, .reg (Qwh r2948 x11 r2952), .br false, .reg (nN 3 [])]) (c := ⟨[(5, none), (7, none), (9, none), (11, none)], [none], []⟩) (e := .normal) (s1 := (Xi a2 r2948 r2952 (w64 (x11 + 1)))) (an (an (an (ti (ti (ti (ti tt)))) (an (dt h2980) tt)) (an (an e2986 (an (Ql h2987) tt)) (ti (ti (ti tt))))) (ti tt)) (by kernel_rfl)
    cases r with
    | inl r => exact Qp pm pn hv hq h2
    | inr r =>
     exact Qp pm pn hv hq h2
   ·injection h with h; subst h
    exact Qq (c := ⟨[(6, none)], [], []⟩) (s1 := (X3 a2 r2948 r2952 ())) pm pn (ans := [.reg (nN 4 []), .br true, .reg (Qwh r2948 x11 r2952), .br true, .reg (.n :: [])]) (by kernel_rfl) (by intro e; cases e) (an (an (an (ti (ti (ti (ti tt)))) (an (dt h2980) tt)) (an e2986 (an (Zd (Qz h2987)) (an (ti tt) tt)))) (ti tt))
  ·injection h with h; subst h
   exact Qq (c := ⟨[(5, none)], [none], []⟩) (s1 := (Qs a2 r2948 r2952 ())) pm pn (ans := [.reg (nN 4 []), .br false]) (by kernel_rfl) (by intro e; cases e) (an (an (ti (ti (ti (ti tt)))) (an (df h2980) tt)) (ti tt))
def Qfm (z0 : (List Qd)) (z1 : (List Qb)) (z2 : ((List Qb) × Int)) : List Ans := (.n :: .call (VV.fr (flatMap Qc z0) z0.length) :: .n :: .call (VV.fr (flatMap Qa z1) z1.length) :: .n :: .n :: .call (VV.tu [VV.fr (flatMap Qa z2.1) z2.1.length, vi z2.2]) :: nN 5 [])
def Qfn (z0 : ((List Qb) × Int)) : List Ans := (nN 4 (.call (VV.tu [VV.fr (flatMap Qa z0.1) z0.1.length, vi z0.2]) :: nN 5 []))
def Qzm (z0 : Bool) (z1 : Bool) : List Ans := (nN 3 (.call (vb z0) :: nN 5 (.call (vb z1) :: .n :: .b false :: nN 8 (.b true :: .b false :: .n :: []))))
def Qzn (z0 : Bool) (z1 : Bool) : List Ans := (nN 3 (.call (vb z0) :: nN 5 (.call (vb z1) :: .n :: .b false :: nN 4 (nS 4 (.b false :: .b false :: .n :: [])))))
def Qzo (z0 : Bool) (z1 : Bool) : List Ans := (nN 3 (.call (vb z0) :: nN 5 (.call (vb z1) :: .n :: .b false :: .n :: nS 8 (.b true :: .n :: []))))
def Qzp (z0 : Bool) : List Ans := (nN 3 (.call (vb z0) :: .n :: .n :: nS 5 (.b true :: .n :: nS 8 (.b true :: .n :: []))))
def Qx4 (z0 : Bool) : List Ans := (.n :: .n :: .call (vb z0) :: .n :: .n :: nS 5 (.b true :: .n :: nS 5 (.b true :: .n :: nS 4 (.b true :: []))))
def Ji (k : Nat) (a0 : (List Qd)) (a1 : (List Qb)) (a2 : Qeh) : Option Bool :=
 (Qs2 k).bind fun r2929 => (if r2929 = true then ((Yj k a0 a1).bind fun r2932 => (if r2932 = true then (if 30 < (a2.Promise.Mirror.size : Int) then (some true) else (if 30 < (a2.Promise.Batch.size : Int) then (some true) else (if 100 < (a2.Text.size : Int) then (some true) else ((Yk k a0).bind fun r2942 => ((Jt k a1).bind fun r2945 => ((Qae k r2942 r2945 a2.Promise).bind fun r2948 => ((X0 k a0 a1 a2.Promise).bind fun r2952 => (if r2948.2 = r2952.2 then (if (r2948.1.length : Int) = (r2952.1.length : Int) then ((Qy k a2 r2948 r2952 k 0).bind fun r2989 => (match r2989 with | .inl r2990 => (some false) | .inr r2991 => ((J6 k a2.Text).bind fun r2994 => ((Xq k a2.Text).bind fun r2998 => ((Yl k a2.Promise).bind fun r3002 => (if r2994.2 = r2998.2 then (if (decide (r2994.1.Mirror = r2998.1.Mirror) && (decide (r2994.1.Batch = r2998.1.Batch) && true)) = true then ((Xm k a2.Promise).bind fun r3010 => (if r3002 = r3010 then ((J6 k r3002).bind fun r3015 => ((Xk k a2.Promise.Mirror).bind fun r3019 => (if r3019 = true then ((Xk k a2.Promise.Batch).bind fun r3023 => (if r3023 = true then (if r3015.2 = 0 then (some (decide (r3015.1.Mirror = a2.Promise.Mirror) && (decide (r3015.1.Batch = a2.Promise.Batch) && true))) else (some false)) else (some true))) else (some true)))) else (some false))) else (some false)) else (some false))))))) else (some false)) else (some false))))))))) else (some true))) else (some false))
theorem Qbr (k : Nat) (a0 : (List Qd)) (a1 : (List Qb)) (a2 : Qeh) (r : Bool) (h : Ji k a0 a1 a2 = some r) : VC Try.prog 3 [VV.tr (flatMap Qc a0) a0.length, VV.tr (flatMap Qa a1) a1.length, VV.ag (Qgh a2)] (vb r) := by
 unfold Ji at h
 obtain ⟨r2929, h2930, h⟩ := bs h
 rcases ifs h with ⟨h2931, h⟩ | ⟨h2931, h⟩
 ·obtain ⟨r2932, h2933, h⟩ := bs h
  have e2934 := (Qd6 k a0 a1 _ h2933)
  rcases ifs h with ⟨h2935, h⟩ | ⟨h2935, h⟩
  ·rcases ifs h with ⟨h2936, h⟩ | ⟨h2936, h⟩
   ·have e2937 := (ti (ti (an e2934 (ti (ti (an (an (Ql h2935) tt) (an (an (Ql h2935) tt) (an (an (Ql h2935) tt) (an (an (Ql h2935) tt) (an (an (Ql h2935) tt) (an (Ql h2935) (ti (an (dt h2936) (an (dt h2936) (an (dt h2936) (an (dt h2936) (an (dt h2936) (an (dt h2936) (ti (an rt (an rt (an rt (an rt (an rt tt))))))))))))))))))))))))
    injection h with h; subst h
    exact Qo pm pn Try.func3 (r0 := vb true) (ans := [.reg (.n :: .n :: []), .reg (.call (vb r2929) :: .n :: []), .br false, .reg (Qzk r2932), .br true, .reg (.n :: [])]) (fr := true) (by kernel_rfl) (an (an (ti (ti tt)) (an (an (an (Y8 k _ h2930) (ti tt)) (an (Ql h2931) tt)) (an e2937 (an rt (an (ti tt) tt))))) (ti tt)) (Wv.refl _)
   ·rcases ifs h with ⟨h2938, h⟩ | ⟨h2938, h⟩
    ·have e2939 := (ti (ti (an e2934 (ti (ti (an (an (Ql h2935) tt) (an (an (Ql h2935) tt) (an (an (Ql h2935) tt) (an (an (Ql h2935) tt) (an (an (Ql h2935) tt) (an (Ql h2935) (ti (an (an (df h2936) tt) (an (an (df h2936) tt) (an (an (df h2936) tt) (an (an (df h2936) tt) (an (an (df h2936) tt) (an (df h2936) (ti (an (dt h2938) (an (dt h2938) (an (dt h2938) (an (dt h2938) (an (dt h2938) tt))))))))))))))))))))))))
     injection h with h; subst h
     exact Qo pm pn Try.func3 (r0 := vb true) (ans := [.reg (.n :: .n :: []), .reg (.call (vb r2929) :: .n :: []), .br false, .reg (Qzl r2932), .br true, .reg (.n :: [])]) (fr := true) (by kernel_rfl) (an (an (ti (ti tt)) (an (an (an (Y8 k _ h2930) (ti tt)) (an (Ql h2931) tt)) (an e2939 (an rt (an (ti tt) tt))))) (ti tt)) (Wv.refl _)
    ·have e2940 := (ti (ti (an e2934 (ti (ti (an (an (Ql h2935) tt) (an (an (Ql h2935) tt) (an (an (Ql h2935) tt) (an (an (Ql h2935) tt) (an (an (Ql h2935) tt) (an (Ql h2935) (ti (an (an (df h2936) tt) (an (an (df h2936) tt) (an (an (df h2936) tt) (an (an (df h2936) tt) (an (an (df h2936) tt) (an (df h2936) (ti (an (an (df h2938) tt) (an (an (df h2938) tt) (an (an (df h2938) tt) (an (an (df h2938) tt) (an (df h2938) tt))))))))))))))))))))))))
     rcases ifs h with ⟨h2941, h⟩ | ⟨h2941, h⟩
     ·injection h with h; subst h
      exact Qo pm pn Try.func3 (r0 := vb true) (ans := [.reg (.n :: .n :: []), .reg (.call (vb r2929) :: .n :: []), .br false, .reg (Qe5 r2932), .br true, .reg (.n :: [])]) (fr := true) (by kernel_rfl) (an (an (ti (ti tt)) (an (an (an (Y8 k _ h2930) (ti tt)) (an (Ql h2931) tt)) (an e2940 (an (dt h2941) (an (ti tt) tt))))) (ti tt)) (Wv.refl _)
     ·obtain ⟨r2942, h2943, h⟩ := bs h
      have e2944 := (show VC Try.prog 7 [VV.tr (flatMap Qc a0) a0.length] (VV.fr (flatMap Qc r2942) r2942.length) from (VC.weak (Qd7 k a0 _ h2943) (Wv.fw rfl rfl)))
      obtain ⟨r2945, h2946, h⟩ := bs h
      have e2947 := (show VC Try.prog 8 [VV.tr (flatMap Qa a1) a1.length] (VV.fr (flatMap Qa r2945) r2945.length) from (VC.weak (Qc8 k a1 _ h2946) (Wv.fw rfl rfl)))
      obtain ⟨r2948, h2949, h⟩ := bs h
      have e2950 := (show VC Try.prog 6 [VV.tr (flatMap Qc r2942) r2942.length, VV.tr (flatMap Qa r2945) r2945.length, VV.ag (Qa a2.Promise)] (VV.tu [VV.fr (flatMap Qa r2948.1) r2948.1.length, vi r2948.2]) from (VC.weak (Qfg k r2942 r2945 a2.Promise _ h2949) (Wv.tuL (.cons (Wv.fw rfl rfl) (.cons (Wv.refl _) .nil)))))
      have e2951 := (ti (an e2944 (ti (an e2947 (ti (ti (an e2950 (ti (ti (ti (ti (ti tt))))))))))))
      obtain ⟨r2952, h2953, h⟩ := bs h
      have e2954 := (show VC Try.prog 9 [VV.tr (flatMap Qc a0) a0.length, VV.tr (flatMap Qa a1) a1.length, VV.ag (Qa a2.Promise)] (VV.tu [VV.fr (flatMap Qa r2952.1) r2952.1.length, vi r2952.2]) from (VC.weak (Qcu k a0 a1 a2.Promise _ h2953) (Wv.tuL (.cons (Wv.fw rfl rfl) (.cons (Wv.refl _) .nil)))))
      have e2955 := (ti (ti (ti (ti (an e2954 (ti (ti (ti (ti (ti tt))))))))))
      rcases ifs h with ⟨h2956, h⟩ | ⟨h2956, h⟩
      ·have e2957 := (an (Ql (dt h2956)) tt)
       have e2958 := (an (Ql (dt h2956)) tt)
       have e2959 := (an (Ql (dt h2956)) tt)
       have e2960 := (an (Ql (dt h2956)) tt)
       have e2961 := (an (Ql (dt h2956)) tt)
       have e2962 := (ti (ti (ti (ti (an e2957 (an e2958 (an e2959 (an e2960 (an e2961 (an (Ql (dt h2956)) tt))))))))))
       rcases ifs h with ⟨h2963, h⟩ | ⟨h2963, h⟩
       ·obtain ⟨r2989, h2988, h⟩ := bs h
        have hph2988 := Qa3 k a2 r2948 r2952 _ _ _ h2988
        cases r2989 with
        | inl r2990 =>
         dsimp only at h
         have e2992 := (an (ti tt) (VRun.loop hph2988))
         injection h with h; subst h
         exact Qo pm pn Try.func3 (r0 := vb false) (ans := [.reg (.n :: .n :: []), .reg (.call (vb r2929) :: .n :: []), .br false, .reg (Qe5 r2932), .br false, .reg (Qfm r2942 r2945 r2948), .reg (Qfn r2952), .reg (nN 9 (.b false :: [])), .br false, .reg (.n :: []), .sub ⟨[(5, none), (7, none), (9, none), (11, none)], [none], []⟩ .ret (X3 a2 r2948 r2952 r2990)]) (fr := true) (by kernel_rfl) (an (an (ti (ti tt)) (an (an (an (Y8 k _ h2930) (ti tt)) (an (Ql h2931) tt)) (an (an e2940 (an (df h2941) tt)) (an e2951 (an e2955 (an (an e2962 (an (Ql (dt h2963)) tt)) (an (ti tt) e2992))))))) (ti tt)) (Wv.refl _)
        | inr r2991 =>
         dsimp only at h
         have e2993 := (an (ti tt) (VRun.loop hph2988))
         obtain ⟨r2994, h2995, h⟩ := bs h
         have e2996 := (Qbn k a2.Text _ h2995)
         have e2997 := (ti (ti (an e2996 (ti (ti (ti (ti (ti (ti tt)))))))))
         obtain ⟨r2998, h2999, h⟩ := bs h
         have e3000 := (Qcb k a2.Text _ h2999)
         have e3001 := (ti (ti (an e3000 (ti (ti (ti (ti (ti (ti tt)))))))))
         obtain ⟨r3002, h3003, h⟩ := bs h
         have e3004 := (Qed k a2.Promise _ h3003)
         rcases ifs h with ⟨h3005, h⟩ | ⟨h3005, h⟩
         ·have e3006 := (an (Ql (dt h3005)) tt)
          have e3007 := (an (Ql (dt h3005)) tt)
          have e3008 := (an (Ql (dt h3005)) (show List.map kdV [Value.string r2994.1.Mirror, Value.string r2994.1.Batch] = List.map kdV [Value.string r2998.1.Mirror, Value.string r2998.1.Batch] /\ EqOK Try.prog 25 (List.map kdV [Value.string r2998.1.Mirror, Value.string r2998.1.Batch]) from ⟨rfl, Qt4⟩))
          rcases ifs h with ⟨h3009, h⟩ | ⟨h3009, h⟩
          ·obtain ⟨r3010, h3011, h⟩ := bs h
           have e3012 := (an (Ql h3009) (Qbu k a2.Promise _ h3011))
           have e3013 := (ti (ti (ti (ti (an e3006 (an e3007 (an e3008 (an (Ql (dt h3005)) (ti (an (an (Ql h3009) tt) (an (an (Ql h3009) tt) (an (an (Ql h3009) tt) (an e3012 (an (an (Ql h3009) tt) (an (Ql h3009) tt)))))))))))))))
           rcases ifs h with ⟨h3014, h⟩ | ⟨h3014, h⟩
           ·obtain ⟨r3015, h3016, h⟩ := bs h
            have e3017 := (Qbn k r3002 _ h3016)
            have e3018 := (ti (an e3017 (ti (ti (ti (ti (ti (ti tt))))))))
            obtain ⟨r3019, h3020, h⟩ := bs h
            have e3021 := (Yn k a2.Promise.Mirror _ h3020)
            rcases ifs h with ⟨h3022, h⟩ | ⟨h3022, h⟩
            ·obtain ⟨r3023, h3024, h⟩ := bs h
             have e3025 := (an (Ql h3022) (Yn k a2.Promise.Batch _ h3024))
             rcases ifs h with ⟨h3026, h⟩ | ⟨h3026, h⟩
             ·rcases ifs h with ⟨h3027, h⟩ | ⟨h3027, h⟩
              ·have e3028 := (an (dt h3027) (show List.map kdV [Value.string r3015.1.Mirror, Value.string r3015.1.Batch] = List.map kdV [Value.string a2.Promise.Mirror, Value.string a2.Promise.Batch] /\ EqOK Try.prog 25 (List.map kdV [Value.string a2.Promise.Mirror, Value.string a2.Promise.Batch]) from ⟨rfl, Qt4⟩))
               have e3029 := (an (Ql h3026) (dt h3027))
               have e3030 := (ti (ti (ti (an e3021 (ti (ti (an (an (Ql h3022) tt) (an (an (Ql h3022) tt) (an (an (Ql h3022) tt) (an e3025 (an (an (Ql h3022) tt) (an (Ql h3022) (ti (an (an (Ql h3026) tt) (an (an (Ql h3026) tt) (an (an (Ql h3026) tt) (an (an (dt h3027) tt) (an (an (dt h3027) tt) (an (an (dt h3027) tt) (an e3028 (an e3029 (an (Ql h3026) (ti tt)))))))))))))))))))))))
               injection h with h; subst h
               exact Qo pm pn Try.func3 (r0 := vb (decide (r3015.1.Mirror = a2.Promise.Mirror) && (decide (r3015.1.Batch = a2.Promise.Batch) && true))) (ans := [.reg (.n :: .n :: []), .reg (.call (vb r2929) :: .n :: []), .br false, .reg (Qe5 r2932), .br false, .reg (Qfm r2942 r2945 r2948), .reg (Qfn r2952), .reg (nN 9 (.b false :: [])), .br false, .reg (.n :: []), .sub ⟨[(5, none), (7, none), (9, none), (11, none)], [none], []⟩ (.exit 0) (Qs a2 r2948 r2952 r2991), .reg (.n :: .n :: .call (VV.tu [VV.ag (Qa r2994.1), vi r2994.2]) :: nN 6 []), .reg (.n :: .n :: .call (VV.tu [VV.ag (Qa r2998.1), vi r2998.2]) :: nN 6 []), .reg (.n :: .n :: .call (vs r3002) :: .n :: []), .reg (nN 7 (.b false :: nN 4 (.call (vs r3010) :: .n :: .b false :: []))), .br false, .reg (.n :: .call (VV.tu [VV.ag (Qa r3015.1), vi r3015.2]) :: nN 6 []), .reg (Qzm r3019 r3023)]) (fr := true) (by kernel_rfl) (an (an (ti (ti tt)) (an (an (an (Y8 k _ h2930) (ti tt)) (an (Ql h2931) tt)) (an (an e2940 (an (df h2941) tt)) (an e2951 (an e2955 (an (an e2962 (an (Ql (dt h2963)) tt)) (an (an (ti tt) e2993) (an e2997 (an e3001 (an (ti (ti (an e3004 (ti tt)))) (an (an e3013 (an (Ql (dt h3014)) tt)) (an e3018 (an e3030 tt))))))))))))) (ti tt)) (Wv.refl _)
              ·have e3031 := (an (Ql h3026) (df h3027))
               have e3032 := (ti (ti (ti (an e3021 (ti (ti (an (an (Ql h3022) tt) (an (an (Ql h3022) tt) (an (an (Ql h3022) tt) (an e3025 (an (an (Ql h3022) tt) (an (Ql h3022) (ti (an (an (Ql h3026) tt) (an (an (Ql h3026) tt) (an (an (Ql h3026) tt) (an (df h3027) (an (df h3027) (an (df h3027) (an (df h3027) (an e3031 (an (Ql h3026) (ti tt)))))))))))))))))))))))
               injection h with h; subst h
               exact Qo pm pn Try.func3 (r0 := vb false) (ans := [.reg (.n :: .n :: []), .reg (.call (vb r2929) :: .n :: []), .br false, .reg (Qe5 r2932), .br false, .reg (Qfm r2942 r2945 r2948), .reg (Qfn r2952), .reg (nN 9 (.b false :: [])), .br false, .reg (.n :: []), .sub ⟨[(5, none), (7, none), (9, none), (11, none)], [none], []⟩ (.exit 0) (Qs a2 r2948 r2952 r2991), .reg (.n :: .n :: .call (VV.tu [VV.ag (Qa r2994.1), vi r2994.2]) :: nN 6 []), .reg (.n :: .n :: .call (VV.tu [VV.ag (Qa r2998.1), vi r2998.2]) :: nN 6 []), .reg (.n :: .n :: .call (vs r3002) :: .n :: []), .reg (nN 7 (.b false :: nN 4 (.call (vs r3010) :: .n :: .b false :: []))), .br false, .reg (.n :: .call (VV.tu [VV.ag (Qa r3015.1), vi r3015.2]) :: nN 6 []), .reg (Qzn r3019 r3023)]) (fr := true) (by kernel_rfl) (an (an (ti (ti tt)) (an (an (an (Y8 k _ h2930) (ti tt)) (an (Ql h2931) tt)) (an (an e2940 (an (df h2941) tt)) (an e2951 (an e2955 (an (an e2962 (an (Ql (dt h2963)) tt)) (an (an (ti tt) e2993) (an e2997 (an e3001 (an (ti (ti (an e3004 (ti tt)))) (an (an e3013 (an (Ql (dt h3014)) tt)) (an e3018 (an e3032 tt))))))))))))) (ti tt)) (Wv.refl _)
             ·have e3033 := (ti (ti (ti (an e3021 (ti (ti (an (an (Ql h3022) tt) (an (an (Ql h3022) tt) (an (an (Ql h3022) tt) (an e3025 (an (an (Ql h3022) tt) (an (Ql h3022) (ti (an (Zd (Qz h3026)) (an (Zd (Qz h3026)) (an (Zd (Qz h3026)) (ti (ti (ti (ti (an (Zd (Qz h3026)) (an (Zd (Qz h3026)) (ti tt)))))))))))))))))))))))
              injection h with h; subst h
              exact Qo pm pn Try.func3 (r0 := vb true) (ans := [.reg (.n :: .n :: []), .reg (.call (vb r2929) :: .n :: []), .br false, .reg (Qe5 r2932), .br false, .reg (Qfm r2942 r2945 r2948), .reg (Qfn r2952), .reg (nN 9 (.b false :: [])), .br false, .reg (.n :: []), .sub ⟨[(5, none), (7, none), (9, none), (11, none)], [none], []⟩ (.exit 0) (Qs a2 r2948 r2952 r2991), .reg (.n :: .n :: .call (VV.tu [VV.ag (Qa r2994.1), vi r2994.2]) :: nN 6 []), .reg (.n :: .n :: .call (VV.tu [VV.ag (Qa r2998.1), vi r2998.2]) :: nN 6 []), .reg (.n :: .n :: .call (vs r3002) :: .n :: []), .reg (nN 7 (.b false :: nN 4 (.call (vs r3010) :: .n :: .b false :: []))), .br false, .reg (.n :: .call (VV.tu [VV.ag (Qa r3015.1), vi r3015.2]) :: nN 6 []), .reg (Qzo r3019 r3023)]) (fr := true) (by kernel_rfl) (an (an (ti (ti tt)) (an (an (an (Y8 k _ h2930) (ti tt)) (an (Ql h2931) tt)) (an (an e2940 (an (df h2941) tt)) (an e2951 (an e2955 (an (an e2962 (an (Ql (dt h2963)) tt)) (an (an (ti tt) e2993) (an e2997 (an e3001 (an (ti (ti (an e3004 (ti tt)))) (an (an e3013 (an (Ql (dt h3014)) tt)) (an e3018 (an e3033 tt))))))))))))) (ti tt)) (Wv.refl _)
            ·have e3034 := (ti (ti (ti (an e3021 (ti (ti (an (Zd (Qz h3022)) (an (Zd (Qz h3022)) (an (Zd (Qz h3022)) (an (Zd (Qz h3022)) (an (Zd (Qz h3022)) (an (Zd (Qz h3022)) (ti (an rt (an rt (an rt (ti (ti (ti (ti (an rt (an rt (ti tt)))))))))))))))))))))))
             injection h with h; subst h
             exact Qo pm pn Try.func3 (r0 := vb true) (ans := [.reg (.n :: .n :: []), .reg (.call (vb r2929) :: .n :: []), .br false, .reg (Qe5 r2932), .br false, .reg (Qfm r2942 r2945 r2948), .reg (Qfn r2952), .reg (nN 9 (.b false :: [])), .br false, .reg (.n :: []), .sub ⟨[(5, none), (7, none), (9, none), (11, none)], [none], []⟩ (.exit 0) (Qs a2 r2948 r2952 r2991), .reg (.n :: .n :: .call (VV.tu [VV.ag (Qa r2994.1), vi r2994.2]) :: nN 6 []), .reg (.n :: .n :: .call (VV.tu [VV.ag (Qa r2998.1), vi r2998.2]) :: nN 6 []), .reg (.n :: .n :: .call (vs r3002) :: .n :: []), .reg (nN 7 (.b false :: nN 4 (.call (vs r3010) :: .n :: .b false :: []))), .br false, .reg (.n :: .call (VV.tu [VV.ag (Qa r3015.1), vi r3015.2]) :: nN 6 []), .reg (Qzp r3019)]) (fr := true) (by kernel_rfl) (an (an (ti (ti tt)) (an (an (an (Y8 k _ h2930) (ti tt)) (an (Ql h2931) tt)) (an (an e2940 (an (df h2941) tt)) (an e2951 (an e2955 (an (an e2962 (an (Ql (dt h2963)) tt)) (an (an (ti tt) e2993) (an e2997 (an e3001 (an (ti (ti (an e3004 (ti tt)))) (an (an e3013 (an (Ql (dt h3014)) tt)) (an e3018 (an e3034 tt))))))))))))) (ti tt)) (Wv.refl _)
           ·injection h with h; subst h
            exact Qo pm pn Try.func3 (r0 := vb false) (ans := [.reg (.n :: .n :: []), .reg (.call (vb r2929) :: .n :: []), .br false, .reg (Qe5 r2932), .br false, .reg (Qfm r2942 r2945 r2948), .reg (Qfn r2952), .reg (nN 9 (.b false :: [])), .br false, .reg (.n :: []), .sub ⟨[(5, none), (7, none), (9, none), (11, none)], [none], []⟩ (.exit 0) (Qs a2 r2948 r2952 r2991), .reg (.n :: .n :: .call (VV.tu [VV.ag (Qa r2994.1), vi r2994.2]) :: nN 6 []), .reg (.n :: .n :: .call (VV.tu [VV.ag (Qa r2998.1), vi r2998.2]) :: nN 6 []), .reg (.n :: .n :: .call (vs r3002) :: .n :: []), .reg (nN 7 (.b false :: nN 4 (.call (vs r3010) :: .n :: .b false :: []))), .br true, .reg (.n :: [])]) (fr := true) (by kernel_rfl) (an (an (ti (ti tt)) (an (an (an (Y8 k _ h2930) (ti tt)) (an (Ql h2931) tt)) (an (an e2940 (an (df h2941) tt)) (an e2951 (an e2955 (an (an e2962 (an (Ql (dt h2963)) tt)) (an (an (ti tt) e2993) (an e2997 (an e3001 (an (ti (ti (an e3004 (ti tt)))) (an e3013 (an (Zd (df h3014)) (an (ti tt) tt))))))))))))) (ti tt)) (Wv.refl _)
          ·have e3035 := (ti (ti (ti (ti (an e3006 (an e3007 (an e3008 (an (Ql (dt h3005)) (ti (an (Zd (Qz h3009)) (an (Zd (Qz h3009)) (an (Zd (Qz h3009)) (an (Zd (Qz h3009)) (an (Zd (Qz h3009)) (an (Zd (Qz h3009)) tt)))))))))))))))
           injection h with h; subst h
           exact Qo pm pn Try.func3 (r0 := vb false) (ans := [.reg (.n :: .n :: []), .reg (.call (vb r2929) :: .n :: []), .br false, .reg (Qe5 r2932), .br false, .reg (Qfm r2942 r2945 r2948), .reg (Qfn r2952), .reg (nN 9 (.b false :: [])), .br false, .reg (.n :: []), .sub ⟨[(5, none), (7, none), (9, none), (11, none)], [none], []⟩ (.exit 0) (Qs a2 r2948 r2952 r2991), .reg (.n :: .n :: .call (VV.tu [VV.ag (Qa r2994.1), vi r2994.2]) :: nN 6 []), .reg (.n :: .n :: .call (VV.tu [VV.ag (Qa r2998.1), vi r2998.2]) :: nN 6 []), .reg (.n :: .n :: .call (vs r3002) :: .n :: []), .reg (nN 7 (.b false :: .n :: nS 5 (.b true :: []))), .br true, .reg (.n :: [])]) (fr := true) (by kernel_rfl) (an (an (ti (ti tt)) (an (an (an (Y8 k _ h2930) (ti tt)) (an (Ql h2931) tt)) (an (an e2940 (an (df h2941) tt)) (an e2951 (an e2955 (an (an e2962 (an (Ql (dt h2963)) tt)) (an (an (ti tt) e2993) (an e2997 (an e3001 (an (ti (ti (an e3004 (ti tt)))) (an e3035 (an rt (an (ti tt) tt))))))))))))) (ti tt)) (Wv.refl _)
         ·have e3036 := (ti (ti (ti (ti (an (Zd (df h3005)) (an (Zd (df h3005)) (an (Zd (df h3005)) (an (Zd (df h3005)) (ti (an rt (an rt (an rt (an rt (an rt (an rt tt)))))))))))))))
          injection h with h; subst h
          exact Qo pm pn Try.func3 (r0 := vb false) (ans := [.reg (.n :: .n :: []), .reg (.call (vb r2929) :: .n :: []), .br false, .reg (Qe5 r2932), .br false, .reg (Qfm r2942 r2945 r2948), .reg (Qfn r2952), .reg (nN 9 (.b false :: [])), .br false, .reg (.n :: []), .sub ⟨[(5, none), (7, none), (9, none), (11, none)], [none], []⟩ (.exit 0) (Qs a2 r2948 r2952 r2991), .reg (.n :: .n :: .call (VV.tu [VV.ag (Qa r2994.1), vi r2994.2]) :: nN 6 []), .reg (.n :: .n :: .call (VV.tu [VV.ag (Qa r2998.1), vi r2998.2]) :: nN 6 []), .reg (.n :: .n :: .call (vs r3002) :: .n :: []), .reg (nN 4 (nS 3 (.b true :: .n :: nS 5 (.b true :: [])))), .br true, .reg (.n :: [])]) (fr := true) (by kernel_rfl) (an (an (ti (ti tt)) (an (an (an (Y8 k _ h2930) (ti tt)) (an (Ql h2931) tt)) (an (an e2940 (an (df h2941) tt)) (an e2951 (an e2955 (an (an e2962 (an (Ql (dt h2963)) tt)) (an (an (ti tt) e2993) (an e2997 (an e3001 (an (ti (ti (an e3004 (ti tt)))) (an e3036 (an rt (an (ti tt) tt))))))))))))) (ti tt)) (Wv.refl _)
       ·injection h with h; subst h
        exact Qo pm pn Try.func3 (r0 := vb false) (ans := [.reg (.n :: .n :: []), .reg (.call (vb r2929) :: .n :: []), .br false, .reg (Qe5 r2932), .br false, .reg (Qfm r2942 r2945 r2948), .reg (Qfn r2952), .reg (nN 9 (.b false :: [])), .br true, .reg (.n :: [])]) (fr := true) (by kernel_rfl) (an (an (ti (ti tt)) (an (an (an (Y8 k _ h2930) (ti tt)) (an (Ql h2931) tt)) (an (an e2940 (an (df h2941) tt)) (an e2951 (an e2955 (an e2962 (an (Zd (df h2963)) (an (ti tt) tt)))))))) (ti tt)) (Wv.refl _)
      ·have e3037 := (ti (ti (ti (ti (an (Zd (df h2956)) (an (Zd (df h2956)) (an (Zd (df h2956)) (an (Zd (df h2956)) (an (Zd (df h2956)) (an (Zd (df h2956)) tt))))))))))
       injection h with h; subst h
       exact Qo pm pn Try.func3 (r0 := vb false) (ans := [.reg (.n :: .n :: []), .reg (.call (vb r2929) :: .n :: []), .br false, .reg (Qe5 r2932), .br false, .reg (Qfm r2942 r2945 r2948), .reg (Qfn r2952), .reg (nN 4 (nS 5 (.b true :: []))), .br true, .reg (.n :: [])]) (fr := true) (by kernel_rfl) (an (an (ti (ti tt)) (an (an (an (Y8 k _ h2930) (ti tt)) (an (Ql h2931) tt)) (an (an e2940 (an (df h2941) tt)) (an e2951 (an e2955 (an e3037 (an rt (an (ti tt) tt)))))))) (ti tt)) (Wv.refl _)
  ·have e3038 := (ti (ti (an e2934 (ti (ti (an (Zd (Qz h2935)) (an (Zd (Qz h2935)) (an (Zd (Qz h2935)) (an (Zd (Qz h2935)) (an (Zd (Qz h2935)) (an (Zd (Qz h2935)) (ti (an rt (an rt (an rt (an rt (an rt (an rt (ti (an rt (an rt (an rt (an rt (an rt tt))))))))))))))))))))))))
   injection h with h; subst h
   exact Qo pm pn Try.func3 (r0 := vb true) (ans := [.reg (.n :: .n :: []), .reg (.call (vb r2929) :: .n :: []), .br false, .reg (Qx4 r2932), .br true, .reg (.n :: [])]) (fr := true) (by kernel_rfl) (an (an (ti (ti tt)) (an (an (an (Y8 k _ h2930) (ti tt)) (an (Ql h2931) tt)) (an e3038 (an rt (an (ti tt) tt))))) (ti tt)) (Wv.refl _)
 ·injection h with h; subst h
  exact Qo pm pn Try.func3 (r0 := vb false) (ans := [.reg (.n :: .n :: []), .reg (.call (vb r2929) :: .n :: []), .br true, .reg (.n :: [])]) (fr := true) (by kernel_rfl) (an (an (ti (ti tt)) (an (an (Y8 k _ h2930) (ti tt)) (an (Zd (Qz h2931)) (an (ti tt) tt)))) (ti tt)) (Wv.refl _)
end Go.Proofs.Ytfeedchjdnedjaa.Vg

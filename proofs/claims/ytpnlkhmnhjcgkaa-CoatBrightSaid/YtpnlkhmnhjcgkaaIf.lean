/- Law of brightness. -/
import Derived.Test.YtpnlkhmnhjcgkaaI2
import Derived.Test.YtpnlkhmnhjcgkaaIc
set_option linter.unusedVariables false
set_option linter.unusedSimpArgs false
namespace Go.Proofs.Ytpnlkhmnhjcgkaa.Vg
open Go Go.Proofs.Ytpnlkhmnhjcgkaa.Ev Go.Proofs.Ytpnlkhmnhjcgkaa.Vv
theorem law_bright (k : Nat) (hk : 1000 < k) (hk2 : k ≤ 1000000000) (a : SAging) (l : List SCoatEvent) (D : Int) : nspeculumlaw08_CoatBright k a l D = some true := by
  unfold nspeculumlaw08_CoatBright
  obtain ⟨b, hb, hlen⟩ := past_any k (by omega) l
  rw [show nawake k = some true from rfl, Option.bind_some, if_pos rfl, hb, Option.bind_some]
  cases b with
  | false => rfl
  | true =>
    have hlen := hlen rfl
    rw [if_pos rfl, events_any k (by omega), Option.bind_some]
    by_cases e : (if agE a = 0 then (hiE a.Washes l).2 else agE a) = 0
    · have ha : agE a = 0 := by
        by_cases c : agE a = 0
        · exact c
        · rw [if_neg c] at e; exact absurd e c
      have hh : (hiE a.Washes l).2 = 0 := by rw [if_pos ha] at e; exact e
      by_cases hD : inR 0 100000 D = true
      · obtain ⟨n, r, last, s1, s2, s3⟩ := on_day k hk hk2 ha hh hD
        by_cases hn : n < 0
        · rw [show ncoat_Bright k _ l D = _ from s2 hn, Option.bind_some, show nspeculumlaw08_past k _ l = _ from past_ref k hk a l, Option.bind_some, if_pos e, within_base, Option.bind_some, if_pos hD, show nspeculumref08_StateOn k _ l D = _ from s1, Option.bind_some, if_pos hn, if_pos rfl]
          rfl
        · obtain ⟨t1, t2⟩ := s3 (by omega)
          rw [show ncoat_Bright k _ l D = _ from t1, Option.bind_some, show nspeculumlaw08_past k _ l = _ from past_ref k hk a l, Option.bind_some, if_pos e, within_base, Option.bind_some, if_pos hD, show nspeculumref08_StateOn k _ l D = _ from s1, Option.bind_some, if_neg hn, if_pos rfl, show nspeculumref08_Bright k _ l D = _ from t2, Option.bind_some]
          simp
      · have hb : ncoat_Bright k a l D = some (⟨0, 0⟩, 2) := by
          unfold ncoat_Bright ncoat_rightFilmOn
          rw [show ncoat_CheckHistory k _ l = _ from history_coat k hk hk2 a l, Option.bind_some, if_pos ha, if_pos hh, day_coat k hk hk2, if_neg hD, Option.bind_some, if_neg (by decide), Option.bind_some, if_neg (by decide)]
        rw [show ncoat_Bright k _ l D = _ from hb, Option.bind_some, show nspeculumlaw08_past k _ l = _ from past_ref k hk a l, Option.bind_some, if_pos e, within_base, Option.bind_some, if_neg hD, if_pos rfl]
        rfl
    · rw [show ncoat_Bright k _ l D = _ from bright_err k hk hk2 a l D e, Option.bind_some, show nspeculumlaw08_past k _ l = _ from past_ref k hk a l, Option.bind_some, if_neg e, if_pos rfl]
      rfl
theorem vc_bright (a : SAging) (l : List SCoatEvent) (D : Int) : VC Go.Proofs.Try.prog 14 [VV.ag [vi a.Fresh.Lo, vi a.Fresh.Hi, vi a.Loss.Lo, vi a.Loss.Hi, vi a.Back.Lo, vi a.Back.Hi, vi a.Washes], VV.tr (l.flatMap c_SCoatEvent) l.length, vi D] (vb true) :=
  nspeculumlaw08_CoatBright_ok 10000 a l D true (law_bright 10000 (by decide) (by decide) a l D)
end Go.Proofs.Ytpnlkhmnhjcgkaa.Vg

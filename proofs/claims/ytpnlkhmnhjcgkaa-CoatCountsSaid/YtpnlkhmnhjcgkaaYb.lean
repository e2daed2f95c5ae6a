/- Law of counts. -/
import Derived.Test.YtpnlkhmnhjcgkaaO2
import Derived.Test.YtpnlkhmnhjcgkaaYa
set_option linter.unusedVariables false
set_option linter.unusedSimpArgs false
namespace Go.Proofs.Ytpnlkhmnhjcgkaa.Vg
open Go Go.Proofs.Ytpnlkhmnhjcgkaa.Ev Go.Proofs.Ytpnlkhmnhjcgkaa.Vv
theorem law_counts (k : Nat) (hk : 100 < k) (hk2 : k ≤ 100000000) (l : List SMaterial) (nm : ByteArray) (w : SRange) (h1 : In w.Lo) (h2 : In w.Hi) : nspeculumlaw08_CoatCounts k l nm w = some true := by
  unfold nspeculumlaw08_CoatCounts
  obtain ⟨b, hb, hlen⟩ := short_any k hk l
  rw [show nawake k = some true from rfl, Option.bind_some, if_pos rfl, hb, Option.bind_some]
  cases b with
  | false => rfl
  | true =>
    have hlen := hlen rfl
    rw [if_pos rfl]
    by_cases c : 20 < (nm.size : Int)
    · rw [if_pos c]
    · rw [if_neg c, own_any k (by omega), Option.bind_some, show ncoat_CountsFor k l nm _ = _ from counts_coat k hk hk2 l nm (w := w) h1 h2, Option.bind_some, materials_ref k hk hk2, Option.bind_some]
      by_cases c0 : maE l = 0
      · rw [if_pos c0, if_pos c0, show nspeculumref08_CountsFor k l nm _ = _ from counts_ref k hk hk2 c0 nm w, Option.bind_some, if_pos rfl]
        simp
      · rw [if_neg c0, if_neg c0, if_pos rfl]; rfl
theorem vc_counts (l : List SMaterial) (nm : ByteArray) (w : SRange) (h1 : In64 w.Lo) (h2 : In64 w.Hi) : VC Go.Proofs.Try.prog 4 [VV.tr (l.flatMap c_SMaterial) l.length, vs nm, VV.ag [vi w.Lo, vi w.Hi]] (vb true) :=
  nspeculumlaw08_CoatCounts_ok 10000 l nm w true (law_counts 10000 (by decide) (by decide) l nm w (by unfold In; unfold In64 at h1; omega) (by unfold In; unfold In64 at h2; omega))
end Go.Proofs.Ytpnlkhmnhjcgkaa.Vg

/- Lists of lists of structs that come in. -/
import Derived.Test.YtpnlkhmnhjcgkaaVy
import Derived.Test.YtpnlkhmnhjcgkaaVk
set_option linter.unusedVariables false
set_option linter.unusedSimpArgs false
namespace Go.Proofs.Ytpnlkhmnhjcgkaa.Vv
open Go Go.Proofs.Ytpnlkhmnhjcgkaa.Ev
theorem lists_map {S A : Type} {f : S → List VV} {mk : S → A} {g : A → List VV} {v : List A → VV} (hv : ∀ x, v x = VV.tr (x.flatMap g) x.length) (hf : ∀ s, f s = g (mk s)) : ∀ ys : List (List S), (ys.flatMap fun xs => [VV.tr (xs.flatMap f) xs.length]) = (ys.map (List.map mk)).map v
  | [] => rfl
  | y :: ys => by
    rw [List.flatMap_cons, List.map_cons, List.map_cons, lists_map hv hf ys, hv, List.length_map]
    have e : y.flatMap f = (y.map mk).flatMap g := by
      rw [List.flatMap_map]
      exact congrArg (fun h => y.flatMap h) (funext hf)
    rw [e]; rfl
theorem tr_map2 {S A : Type} {f : S → List VV} {mk : S → A} {g : A → List VV} {v : List A → VV} (hv : ∀ x, v x = VV.tr (x.flatMap g) x.length) (hf : ∀ s, f s = g (mk s)) {M : MM} {ys : List (List S)} {x : Value} (h : T M (VV.tr (ys.flatMap fun xs => [VV.tr (xs.flatMap f) xs.length]) ys.length) x) :
    T M (VV.tr ((ys.map (List.map mk)).map v) (ys.map (List.map mk)).length) x := by
  rw [lists_map hv hf ys] at h
  rw [List.length_map]; exact h
end Go.Proofs.Ytpnlkhmnhjcgkaa.Vv

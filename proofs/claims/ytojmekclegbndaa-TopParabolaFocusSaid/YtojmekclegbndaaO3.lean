/- Numbers on the way that may be too large, told again. -/
import Derived.Test.YtojmekclegbndaaO2
set_option linter.unusedVariables false
set_option linter.unusedSimpArgs false
namespace Go.Proofs.Ytojmekclegbndaa.Vg
open Go Go.Proofs.Ytojmekclegbndaa.Ev Go.Proofs.Ytojmekclegbndaa.Vv
structure SWay where
  Large : Bool
def nspeculumbase_IsSmall (k : Nat) (a0 : SFrac) : Option Bool :=
  (nspeculumbase_IsLowest k a0).bind fun r1778 => (if r1778 = true then ((nspeculumbase_Within k a0.Num (-1000000000) 1000000000).bind fun r1782 => (if r1782 = true then (some (decide (a0.Den ≤ 1000000000))) else (some false))) else (some false))
def n_speculumref02_Way_fit (k : Nat) (a0 : SWay) (a1 : Int) (a2 : Int) : Option (SFrac × SWay) :=
  (nspeculumbase_Lowest k a1 a2).bind fun r1793 => ((nspeculumbase_IsSmall k r1793).bind fun r1796 => (if r1796 = true then (some (r1793, a0)) else (some ((⟨0, 1⟩ : SFrac), (⟨true⟩ : SWay)))))
def n_speculumref02_Way_Mul (k : Nat) (a0 : SWay) (a1 : SFrac) (a2 : SFrac) : Option (SFrac × SWay) :=
  (n_speculumref02_Way_fit k a0 (w64 (a1.Num * a2.Num)) (w64 (a1.Den * a2.Den))).bind fun r1804 => (some (r1804.1, r1804.2))
def n_speculumref02_Way_Add (k : Nat) (a0 : SWay) (a1 : SFrac) (a2 : SFrac) : Option (SFrac × SWay) :=
  (n_speculumref02_Way_fit k a0 (w64 ((w64 (a1.Num * a2.Den)) + (w64 (a2.Num * a1.Den)))) (w64 (a1.Den * a2.Den))).bind fun r1812 => (some (r1812.1, r1812.2))
def n_speculumref02_Way_Sub (k : Nat) (a0 : SWay) (a1 : SFrac) (a2 : SFrac) : Option (SFrac × SWay) :=
  (n_speculumref02_Way_fit k a0 (w64 ((w64 (a1.Num * a2.Den)) - (w64 (a2.Num * a1.Den)))) (w64 (a1.Den * a2.Den))).bind fun r1820 => (some (r1820.1, r1820.2))
def n_speculumref02_Way_Quo (k : Nat) (a0 : SWay) (a1 : SFrac) (a2 : SFrac) : Option (SFrac × SWay) :=
  if a2.Num = 0 then (some ((⟨0, 1⟩ : SFrac), (⟨true⟩ : SWay))) else ((n_speculumref02_Way_fit k a0 (w64 (a1.Num * a2.Den)) (w64 (a1.Den * a2.Num))).bind fun r1830 => (some (r1830.1, r1830.2)))
end Go.Proofs.Ytojmekclegbndaa.Vg

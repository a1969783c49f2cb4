/-
  WholeDivisors answers true, whatever two numbers it is handed.
-/
import Derived.Test.YthbomfboohjcfadWVzz
import Derived.Test.YthbomfboohjcfadWVz
import Derived.Test.YthbomfboohjcfadWVp
namespace Go.Proofs.Ythbomfboohjcfad
namespace Lm
open Go.RowKit

theorem wdivs_law (w : World) (nx : Bool) (a0 : Option Addr) (n0 c0 : Nat) (xs : List Int) (zx : Int) (ny : Bool) (a1 : Option Addr) (n1 c1 : Nat) (ys : List Int) (zy : Int) (AX : Ag w nx a0 n0 c0 xs zx) (AY : Ag w ny a1 n1 c1 ys zy) (b0 : n0 ≤ 35184372088832) (b1 : n1 ≤ 35184372088832) :
    Calls Try.prog 7 #[.agg #[.bool nx, .slice a0 n0 c0], .agg #[.bool ny, .slice a1 n1 c1]] w fun e w' => e = .returned (.bool true) ∧ Below w.heap.size w w' := by
  by_cases h : 1500 < 1 + (n0 : Int) + (1 + n1)
  · exact wdivs_long w nx a0 n0 c0 xs zx ny a1 n1 c1 ys zy AX AY b0 b1 h
  · by_cases hy : zy = 0
    · subst hy
      by_cases hx : zx = 0
      · exact wdivs_zz w nx a0 n0 c0 xs zx ny a1 n1 c1 ys AX AY b0 b1 h hx
      · exact wdivs_z w nx a0 n0 c0 xs zx ny a1 n1 c1 ys AX AY b0 b1 h hx
    · exact wdivs_p w nx a0 n0 c0 xs zx ny a1 n1 c1 ys zy AX AY b0 b1 h hy

end Lm
end Go.Proofs.Ythbomfboohjcfad

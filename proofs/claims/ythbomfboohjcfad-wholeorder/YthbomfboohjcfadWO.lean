/-
  WholeOrder answers true, whatever three numbers it is handed.
-/
import Derived.Test.YthbomfboohjcfadWOlt
import Derived.Test.YthbomfboohjcfadWOeq
import Derived.Test.YthbomfboohjcfadWOgt
namespace Go.Proofs.Ythbomfboohjcfad
namespace Lm
open Go.RowKit

theorem worder_law (w : World) (nx : Bool) (a0 : Option Addr) (n0 c0 : Nat) (xs : List Int) (zx : Int) (ny : Bool) (a1 : Option Addr) (n1 c1 : Nat) (ys : List Int) (zy : Int) (nz : Bool) (a2 : Option Addr) (n2 c2 : Nat) (us : List Int) (zz : Int) (AX : Ag w nx a0 n0 c0 xs zx) (AY : Ag w ny a1 n1 c1 ys zy) (AZ : Ag w nz a2 n2 c2 us zz) (b0 : n0 ≤ 35184372088832) (b1 : n1 ≤ 35184372088832) (b2 : n2 ≤ 35184372088832) :
    Calls Try.prog 5 #[.agg #[.bool nx, .slice a0 n0 c0], .agg #[.bool ny, .slice a1 n1 c1], .agg #[.bool nz, .slice a2 n2 c2]] w fun e w' => e = .returned (.bool true) ∧ Below w.heap.size w w' := by
  by_cases h : 1500 < 1 + (n0 : Int) + (1 + n1) + (1 + n2)
  · exact worder_long w nx a0 n0 c0 xs zx ny a1 n1 c1 ys zy nz a2 n2 c2 us zz AX AY AZ b0 b1 b2 h
  · rcases Int.lt_trichotomy zx zy with hc | hc | hc
    · exact worder_lt w nx a0 n0 c0 xs zx ny a1 n1 c1 ys zy nz a2 n2 c2 us zz AX AY AZ b0 b1 b2 h hc
    · exact worder_eq w nx a0 n0 c0 xs zx ny a1 n1 c1 ys zy nz a2 n2 c2 us zz AX AY AZ b0 b1 b2 h hc
    · exact worder_gt w nx a0 n0 c0 xs zx ny a1 n1 c1 ys zy nz a2 n2 c2 us zz AX AY AZ b0 b1 b2 h hc

end Lm
end Go.Proofs.Ythbomfboohjcfad

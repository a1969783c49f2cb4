/-
  Whole numbers: the contracts of Add, Sub, Mul, Cmp, SameWhole and LenWhole.
-/
import Derived.Test.YtkdcgnooeojjgabWP
namespace Go.Proofs.Ytkdcgnooeojjgab
namespace Lm
open Go.RowKit

end Lm
end Go.Proofs.Ytkdcgnooeojjgab

/-
  The numerator and the denominator of a fraction, as they were handed in; 0 and 1, if the denominator is 0.
-/
import Derived.Test.YtjhhjefobbhdlaaInv7
namespace Go.Proofs.Ytjhhjefobbhdlaa
namespace Lm
open Go Go.RowKit

def tp (p q : Int) : Int := if q = 0 then 0 else p
def tq (q : Int) : Int := if q = 0 then 1 else q
theorem outw0 (w : World) : OutW 0 0 (.agg #[.bool false, .slice none 0 0]) w := ⟨false, none, 0, [], rfl, ⟨⟨sl_nil w, canon_nil, rfl⟩, rfl⟩, Nat.le_refl _⟩

end Lm
end Go.Proofs.Ytjhhjefobbhdlaa

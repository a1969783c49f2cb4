/-
  Whole numbers: the contracts, in the form in which the laws use them.
-/
import Derived.Test.YtjhhjefobbhdlaaWCa
import Derived.Test.YtjhhjefobbhdlaaWCs
import Derived.Test.YtjhhjefobbhdlaaWCm
import Derived.Test.YtjhhjefobbhdlaaWCc
import Derived.Test.YtjhhjefobbhdlaaWE
namespace Go.Proofs.Ytjhhjefobbhdlaa
namespace Lm
open Go.RowKit

/-- What is handed in: a sign and a list of limbs that are worth z. -/
structure Ag (w : World) (ng : Bool) (ao : Option Addr) (n cap : Nat) (xs : List Int) (z : Int) : Prop where
  sl : Sl w (.slice ao n cap) xs
  worth : sg ng (val xs) = z

theorem Ag.below {w w' : World} {ng : Bool} {ao : Option Addr} {n cap : Nat} {xs : List Int} {z : Int} (h : Ag w ng ao n cap xs z) (hb : Below w.heap.size w w') : Ag w' ng ao n cap xs z := ⟨h.sl.below hb, h.worth⟩
theorem Wh.ag {w : World} {ng : Bool} {ao : Option Addr} {cap : Nat} {rs : List Int} {z : Int} (h : Wh w ng ao cap rs z) : Ag w ng ao rs.length cap rs z := ⟨h.sl, h.worth⟩

theorem cmp_z (w : World) (nx : Bool) (a1 : Option Addr) (n1 c1 : Nat) (xs : List Int) (x : Int) (hx : Ag w nx a1 n1 c1 xs x) (ny : Bool) (a2 : Option Addr) (n2 c2 : Nat) (ys : List Int) (y : Int) (hy : Ag w ny a2 n2 c2 ys y) (hm1 : xs.length ≤ 400000) (hm2 : ys.length ≤ 400000) (k : Int) (hk : cmpI x y = k) :
    Calls Try.prog 30 #[.agg #[.bool nx, .slice a1 n1 c1], .agg #[.bool ny, .slice a2 n2 c2]] w fun e w' => e = .returned (.int .i64 k) ∧ Below w.heap.size w w' := by
  have h := wcmp_any w nx a1 n1 c1 xs hx.sl ny a2 n2 c2 ys hy.sl hm1 hm2
  rw [hx.worth, hy.worth, hk] at h
  exact h

theorem add_z (w : World) (nx : Bool) (a1 : Option Addr) (n1 c1 : Nat) (xs : List Int) (x : Int) (hx : Ag w nx a1 n1 c1 xs x) (ny : Bool) (a2 : Option Addr) (n2 c2 : Nat) (ys : List Int) (y : Int) (hy : Ag w ny a2 n2 c2 ys y) (hm1 : xs.length ≤ 400000) (hm2 : ys.length ≤ 400000) :
    Calls Try.prog 26 #[.agg #[.bool nx, .slice a1 n1 c1], .agg #[.bool ny, .slice a2 n2 c2]] w fun e w' => ∃ ng' ao cap rs, e = .returned (.agg #[.bool ng', .slice ao rs.length cap]) ∧ Wh w' ng' ao cap rs (x + y) ∧ rs.length ≤ xs.length + ys.length + 1 ∧ Below w.heap.size w w' := by
  have h := wadd_g w nx a1 n1 c1 xs hx.sl ny a2 n2 c2 ys hy.sl hm1 hm2
  rw [hx.worth, hy.worth] at h
  exact h

theorem sub_z (w : World) (nx : Bool) (a1 : Option Addr) (n1 c1 : Nat) (xs : List Int) (x : Int) (hx : Ag w nx a1 n1 c1 xs x) (ny : Bool) (a2 : Option Addr) (n2 c2 : Nat) (ys : List Int) (y : Int) (hy : Ag w ny a2 n2 c2 ys y) (hm1 : xs.length ≤ 400000) (hm2 : ys.length ≤ 400000) :
    Calls Try.prog 27 #[.agg #[.bool nx, .slice a1 n1 c1], .agg #[.bool ny, .slice a2 n2 c2]] w fun e w' => ∃ ng' ao cap rs, e = .returned (.agg #[.bool ng', .slice ao rs.length cap]) ∧ Wh w' ng' ao cap rs (x - y) ∧ rs.length ≤ xs.length + ys.length + 1 ∧ Below w.heap.size w w' := by
  have h := wsub_g w nx a1 n1 c1 xs hx.sl ny a2 n2 c2 ys hy.sl hm1 hm2
  rw [hx.worth, hy.worth] at h
  exact h

theorem mul_z (w : World) (nx : Bool) (a1 : Option Addr) (n1 c1 : Nat) (xs : List Int) (x : Int) (hx : Ag w nx a1 n1 c1 xs x) (ny : Bool) (a2 : Option Addr) (n2 c2 : Nat) (ys : List Int) (y : Int) (hy : Ag w ny a2 n2 c2 ys y) (hm1 : xs.length ≤ 400000) (hm2 : ys.length ≤ 400000) :
    Calls Try.prog 28 #[.agg #[.bool nx, .slice a1 n1 c1], .agg #[.bool ny, .slice a2 n2 c2]] w fun e w' => ∃ ng' ao cap rs, e = .returned (.agg #[.bool ng', .slice ao rs.length cap]) ∧ Wh w' ng' ao cap rs (x * y) ∧ rs.length ≤ xs.length + ys.length ∧ Below w.heap.size w w' := by
  have h := wmul_g w nx a1 n1 c1 xs hx.sl ny a2 n2 c2 ys hy.sl hm1 hm2
  rw [hx.worth, hy.worth] at h
  exact h

theorem neg_z (w : World) (nx : Bool) (a1 : Option Addr) (n1 c1 : Nat) (xs : List Int) (x : Int) (hx : Ag w nx a1 n1 c1 xs x) (hm1 : xs.length ≤ 400000) :
    Calls Try.prog 29 #[.agg #[.bool nx, .slice a1 n1 c1]] w fun e w' => ∃ ng' ao cap rs, e = .returned (.agg #[.bool ng', .slice ao rs.length cap]) ∧ Wh w' ng' ao cap rs (-x) ∧ rs.length ≤ xs.length ∧ Below w.heap.size w w' := by
  have h := wneg_g w nx a1 n1 c1 xs hx.sl (by omega)
  rw [hx.worth] at h
  exact h

theorem trim_z (w : World) (nx : Bool) (a1 : Option Addr) (n1 c1 : Nat) (xs : List Int) (x : Int) (hx : Ag w nx a1 n1 c1 xs x) (hm1 : xs.length ≤ 400000) :
    Calls Try.prog 12 #[.agg #[.bool nx, .slice a1 n1 c1]] w fun e w' => ∃ ng' ao cap rs, e = .returned (.agg #[.bool ng', .slice ao rs.length cap]) ∧ Wh w' ng' ao cap rs x ∧ rs.length ≤ xs.length ∧ Below w.heap.size w w' := by
  have h := wtrim_g w nx a1 n1 c1 xs hx.sl (by omega)
  rw [hx.worth] at h
  exact h

theorem sign_z (w : World) (nx : Bool) (a1 : Option Addr) (n1 c1 : Nat) (xs : List Int) (x : Int) (hx : Ag w nx a1 n1 c1 xs x) (hm1 : xs.length ≤ 400000) (k : Int) (hk : Int.sign x = k) :
    Calls Try.prog 13 #[.agg #[.bool nx, .slice a1 n1 c1]] w fun e w' => e = .returned (.int .i64 k) ∧ Below w.heap.size w w' := by
  have h := wsign_any w nx a1 n1 c1 xs hx.sl (by omega)
  rw [hx.worth, hk] at h
  exact h

theorem same_z (w : World) (n1 n2 : Bool) (a1 a2 : Option Addr) (c1 c2 : Nat) (xs ys : List Int) (z1 z2 : Int) (hx : Wh w n1 a1 c1 xs z1) (hy : Wh w n2 a2 c2 ys z2) (b : Bool) (hb : decide (z1 = z2) = b) :
    Calls Try.prog 18 #[.agg #[.bool n1, .slice a1 xs.length c1], .agg #[.bool n2, .slice a2 ys.length c2]] w fun e w' => e = .returned (.bool b) ∧ Below w.heap.size w w' := by
  have h := wsame_any w n1 n2 a1 a2 c1 c2 xs ys z1 z2 hx hy
  rw [hb] at h
  exact h

end Lm
end Go.Proofs.Ytjhhjefobbhdlaa

/-
  No cell of these rows narrows 'for every input' (looked for: loops, veiled, ifaces, maps, wideKeys, modest, calm, conditions, laid).
  DERIVED. THE GIVEN ROWS OF THIS SEAT. 5 by the template 'for every input the law returns true; each argument reads behind the call as it read before'; 0 by the template 'total and deterministic' (their statements: YtjogfjgkabjcfaaGreatTotals.lean).
  GIVEN WITH THE SEED: the statements are not yours to turn. If you find one false, say at which input.
  Laid BY PROGRAM, IN A SANDBOX (cutbox-rows.mjs): the forced cells as the released guide's own fill.sh prints them over the translation 8fce8e40e89932c1… (all of the seat's roots in one cut). By AI agents, Wed Nov 11 2026. No macro, syntax, notation, axiom, sorry.
-/
import Derived.Test.YtjogfjgkabjcfaaGreatChecked
import GoSem.Claim
import GoSem.ClaimJoined
import GoSem.ClaimMapViews
import Derived.JoinedTies
import Derived.KernelRfl
namespace Go.Proofs.YtjogfjgkabjcfaaGreat
/- THE CELL 'sum', in the pinned program and in every row, IS THE sha256 OF THE DUMP (.gsa) THAT YtjogfjgkabjcfaaGreatProg.lean LOADS. Nothing in Lean hashes anything: it is a label: what it is worth is what the hold of that sum in a sandbox is worth. -/
noncomputable def Tryz.pinned : Pinned := { name := "ytjogfjgkabjcfaagreat", sum := "8fce8e40e89932c1fda495e8bd7e5c851ceedecc741cb3f22451cea619aa7afe", checked := Tryz.checked }
namespace Rows
def none {H : Type} : Left H := { results := [], args := [] }

/-- 'rafterlaw07.SpanTwice': WHATEVER THE INPUT: true; the input reads as it did. -/
def spanTwiceSpec : ChangeSpec := { name := "spanTwice", fn := fun _ => fun
  | [d1, d2, d3] => { results := [.lit (.bool true)], args := [d1, d2, d3] }
  | _ => none }
def spanTwiceRow : OpenClaim := { program := "ytjogfjgkabjcfaagreat", sum := "8fce8e40e89932c1fda495e8bd7e5c851ceedecc741cb3f22451cea619aa7afe", func := "rafter/rafterlaw07.SpanTwice", spec := "spanTwice", unfollowed := true, recurses := true, apart := false }
def SpanTwiceSaid : Prop := spanTwiceRow.holds Tryz.pinned (OpenSpec.ofChange spanTwiceSpec)

/-- ITS FALSE NEIGHBOUR: 'it returns false'. Refute it at one input. -/
def spanTwiceWrong : ChangeSpec := { name := "spanTwice", fn := fun _ => fun
  | [d1, d2, d3] => { results := [.lit (.bool false)], args := [d1, d2, d3] }
  | _ => none }
def SpanTwiceWrongFalsely : Prop := spanTwiceRow.holds Tryz.pinned (OpenSpec.ofChange spanTwiceWrong)

/-- 'rafterlaw07.SpanLattice': WHATEVER THE INPUT: true; the input reads as it did. -/
def spanLatticeSpec : ChangeSpec := { name := "spanLattice", fn := fun _ => fun
  | [d1, d2, d3] => { results := [.lit (.bool true)], args := [d1, d2, d3] }
  | _ => none }
def spanLatticeRow : OpenClaim := { program := "ytjogfjgkabjcfaagreat", sum := "8fce8e40e89932c1fda495e8bd7e5c851ceedecc741cb3f22451cea619aa7afe", func := "rafter/rafterlaw07.SpanLattice", spec := "spanLattice", unfollowed := true, recurses := true, apart := false }
def SpanLatticeSaid : Prop := spanLatticeRow.holds Tryz.pinned (OpenSpec.ofChange spanLatticeSpec)

/-- ITS FALSE NEIGHBOUR: 'it returns false'. Refute it at one input. -/
def spanLatticeWrong : ChangeSpec := { name := "spanLattice", fn := fun _ => fun
  | [d1, d2, d3] => { results := [.lit (.bool false)], args := [d1, d2, d3] }
  | _ => none }
def SpanLatticeWrongFalsely : Prop := spanLatticeRow.holds Tryz.pinned (OpenSpec.ofChange spanLatticeWrong)

/-- 'rafterlaw07.SpanAdjoint': WHATEVER THE INPUT: true; the input reads as it did. -/
def spanAdjointSpec : ChangeSpec := { name := "spanAdjoint", fn := fun _ => fun
  | [d1, d2, d3, d4] => { results := [.lit (.bool true)], args := [d1, d2, d3, d4] }
  | _ => none }
def spanAdjointRow : OpenClaim := { program := "ytjogfjgkabjcfaagreat", sum := "8fce8e40e89932c1fda495e8bd7e5c851ceedecc741cb3f22451cea619aa7afe", func := "rafter/rafterlaw07.SpanAdjoint", spec := "spanAdjoint", unfollowed := true, recurses := true, apart := false }
def SpanAdjointSaid : Prop := spanAdjointRow.holds Tryz.pinned (OpenSpec.ofChange spanAdjointSpec)

/-- ITS FALSE NEIGHBOUR: 'it returns false'. Refute it at one input. -/
def spanAdjointWrong : ChangeSpec := { name := "spanAdjoint", fn := fun _ => fun
  | [d1, d2, d3, d4] => { results := [.lit (.bool false)], args := [d1, d2, d3, d4] }
  | _ => none }
def SpanAdjointWrongFalsely : Prop := spanAdjointRow.holds Tryz.pinned (OpenSpec.ofChange spanAdjointWrong)

/-- 'rafterlaw07.SpanTwo': WHATEVER THE INPUT: true; the input reads as it did. -/
def spanTwoSpec : ChangeSpec := { name := "spanTwo", fn := fun _ => fun
  | [d1, d2] => { results := [.lit (.bool true)], args := [d1, d2] }
  | _ => none }
def spanTwoRow : OpenClaim := { program := "ytjogfjgkabjcfaagreat", sum := "8fce8e40e89932c1fda495e8bd7e5c851ceedecc741cb3f22451cea619aa7afe", func := "rafter/rafterlaw07.SpanTwo", spec := "spanTwo", unfollowed := true, recurses := true, apart := false }
def SpanTwoSaid : Prop := spanTwoRow.holds Tryz.pinned (OpenSpec.ofChange spanTwoSpec)

/-- ITS FALSE NEIGHBOUR: 'it returns false'. Refute it at one input. -/
def spanTwoWrong : ChangeSpec := { name := "spanTwo", fn := fun _ => fun
  | [d1, d2] => { results := [.lit (.bool false)], args := [d1, d2] }
  | _ => none }
def SpanTwoWrongFalsely : Prop := spanTwoRow.holds Tryz.pinned (OpenSpec.ofChange spanTwoWrong)

/-- 'rafterlaw07.SpanLeast': WHATEVER THE INPUT: true; the input reads as it did. -/
def spanLeastSpec : ChangeSpec := { name := "spanLeast", fn := fun _ => fun
  | [d1, d2] => { results := [.lit (.bool true)], args := [d1, d2] }
  | _ => none }
def spanLeastRow : OpenClaim := { program := "ytjogfjgkabjcfaagreat", sum := "8fce8e40e89932c1fda495e8bd7e5c851ceedecc741cb3f22451cea619aa7afe", func := "rafter/rafterlaw07.SpanLeast", spec := "spanLeast", unfollowed := true, recurses := true, apart := false }
def SpanLeastSaid : Prop := spanLeastRow.holds Tryz.pinned (OpenSpec.ofChange spanLeastSpec)

/-- ITS FALSE NEIGHBOUR: 'it returns false'. Refute it at one input. -/
def spanLeastWrong : ChangeSpec := { name := "spanLeast", fn := fun _ => fun
  | [d1, d2] => { results := [.lit (.bool false)], args := [d1, d2] }
  | _ => none }
def SpanLeastWrongFalsely : Prop := spanLeastRow.holds Tryz.pinned (OpenSpec.ofChange spanLeastWrong)

/- THE SECOND FORM. 'bulk': how many values and letters a reading holds, each counted each time it is reached (what is shared counts as often as it is met; a slice's spare places count too). A statement '..UptoSaid' is the law's where the arguments, and the package variables that the reading takes, are together of bulk at most 1048576: NARROWER than '..Said'. Prove '..Said' where nothing that the law and all that it calls make is longer than what came in: it says more and counts as full. Else prove '..UptoSaid'. A law counts once. -/
mutual
def uptoBulk {H : Type} : DataW H → Nat
  | .lit (.string bytes) => bytes.length + 1
  | .lit _ => 1
  | .nil => 1
  | .ptr d => uptoBulk d + 1
  | .slice elems spare => uptoBulkAll elems + uptoBulkAll spare + 1
  | .agg parts => uptoBulkAll parts + 1
  | .iface _ d => uptoBulk d + 1
  | .map entries => uptoBulkEntries entries + 1
  | .held _ => 1
def uptoBulkAll {H : Type} : List (DataW H) → Nat
  | [] => 0
  | d :: r => uptoBulk d + uptoBulkAll r
def uptoBulkEntries {H : Type} : List (Lit × DataW H) → Nat
  | [] => 0
  | x :: r => uptoBulkEntry x + uptoBulkEntries r
def uptoBulkEntry {H : Type} : Lit × DataW H → Nat
  | (.string bytes, d) => bytes.length + uptoBulk d + 1
  | (_, d) => uptoBulk d + 1
 end
def uptoSmall : (H : Type) → List (DataW H) → Bool := fun _ ds => decide (uptoBulkAll ds ≤ 1048576)
def OpenSpec.upto (s : _root_.Go.ChangeSpec) : _root_.Go.OpenSpec := { _root_.Go.OpenSpec.ofChange s with cond := some uptoSmall }

/-- 'rafterlaw07.SpanTwice', WHERE WHAT IT READS IS OF BULK AT MOST 1048576: true; the input reads as it did. -/
def spanTwiceUptoRow : OpenClaim := { program := "ytjogfjgkabjcfaagreat", sum := "8fce8e40e89932c1fda495e8bd7e5c851ceedecc741cb3f22451cea619aa7afe", func := "rafter/rafterlaw07.SpanTwice", spec := "spanTwice", unfollowed := true, recurses := true, apart := false, narrowed := true }
def SpanTwiceUptoSaid : Prop := spanTwiceUptoRow.holds Tryz.pinned (OpenSpec.upto spanTwiceSpec)

/-- 'rafterlaw07.SpanLattice', WHERE WHAT IT READS IS OF BULK AT MOST 1048576: true; the input reads as it did. -/
def spanLatticeUptoRow : OpenClaim := { program := "ytjogfjgkabjcfaagreat", sum := "8fce8e40e89932c1fda495e8bd7e5c851ceedecc741cb3f22451cea619aa7afe", func := "rafter/rafterlaw07.SpanLattice", spec := "spanLattice", unfollowed := true, recurses := true, apart := false, narrowed := true }
def SpanLatticeUptoSaid : Prop := spanLatticeUptoRow.holds Tryz.pinned (OpenSpec.upto spanLatticeSpec)

/-- 'rafterlaw07.SpanAdjoint', WHERE WHAT IT READS IS OF BULK AT MOST 1048576: true; the input reads as it did. -/
def spanAdjointUptoRow : OpenClaim := { program := "ytjogfjgkabjcfaagreat", sum := "8fce8e40e89932c1fda495e8bd7e5c851ceedecc741cb3f22451cea619aa7afe", func := "rafter/rafterlaw07.SpanAdjoint", spec := "spanAdjoint", unfollowed := true, recurses := true, apart := false, narrowed := true }
def SpanAdjointUptoSaid : Prop := spanAdjointUptoRow.holds Tryz.pinned (OpenSpec.upto spanAdjointSpec)

/-- 'rafterlaw07.SpanTwo', WHERE WHAT IT READS IS OF BULK AT MOST 1048576: true; the input reads as it did. -/
def spanTwoUptoRow : OpenClaim := { program := "ytjogfjgkabjcfaagreat", sum := "8fce8e40e89932c1fda495e8bd7e5c851ceedecc741cb3f22451cea619aa7afe", func := "rafter/rafterlaw07.SpanTwo", spec := "spanTwo", unfollowed := true, recurses := true, apart := false, narrowed := true }
def SpanTwoUptoSaid : Prop := spanTwoUptoRow.holds Tryz.pinned (OpenSpec.upto spanTwoSpec)

/-- 'rafterlaw07.SpanLeast', WHERE WHAT IT READS IS OF BULK AT MOST 1048576: true; the input reads as it did. -/
def spanLeastUptoRow : OpenClaim := { program := "ytjogfjgkabjcfaagreat", sum := "8fce8e40e89932c1fda495e8bd7e5c851ceedecc741cb3f22451cea619aa7afe", func := "rafter/rafterlaw07.SpanLeast", spec := "spanLeast", unfollowed := true, recurses := true, apart := false, narrowed := true }
def SpanLeastUptoSaid : Prop := spanLeastUptoRow.holds Tryz.pinned (OpenSpec.upto spanLeastSpec)

end Rows
end Go.Proofs.YtjogfjgkabjcfaaGreat

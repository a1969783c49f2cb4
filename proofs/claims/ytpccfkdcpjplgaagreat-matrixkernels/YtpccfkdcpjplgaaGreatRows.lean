/-
  No cell of these rows narrows 'for every input' (looked for: loops, veiled, ifaces, maps, wideKeys, modest, calm, conditions, laid).
  DERIVED. THE GIVEN ROWS OF THIS SEAT. 3 by the template 'for every input the law returns true; each argument reads behind the call as it read before'; 0 by the template 'total and deterministic' (their statements: YtpccfkdcpjplgaaGreatTotals.lean).
  GIVEN WITH THE SEED: the statements are not yours to turn. If you find one false, say at which input.
  Laid BY PROGRAM, IN A SANDBOX (cutbox-rows.mjs): the forced cells as the released guide's own fill.sh prints them over the translation b8f725c4056622a8… (all of the seat's roots in one cut). By AI agents, Wed Nov 11 2026. No macro, syntax, notation, axiom, sorry.
-/
import Derived.Test.YtpccfkdcpjplgaaGreatChecked
import GoSem.Claim
import GoSem.ClaimJoined
import GoSem.ClaimMapViews
import Derived.JoinedTies
import Derived.KernelRfl
namespace Go.Proofs.YtpccfkdcpjplgaaGreat
/- THE CELL 'sum', in the pinned program and in every row, IS THE sha256 OF THE DUMP (.gsa) THAT YtpccfkdcpjplgaaGreatProg.lean LOADS. Nothing in Lean hashes anything: it is a label: what it is worth is what the hold of that sum in a sandbox is worth. -/
noncomputable def Tryz.pinned : Pinned := { name := "ytpccfkdcpjplgaagreat", sum := "b8f725c4056622a8eac0f2308c623d445489ba9dc4f0a4f981f50a528a0fb78a", checked := Tryz.checked }
namespace Rows
def none {H : Type} : Left H := { results := [], args := [] }

/-- 'rafterlaw06.MatrixReduces': WHATEVER THE INPUT: true; the input reads as it did. -/
def matrixReducesSpec : ChangeSpec := { name := "matrixReduces", fn := fun _ => fun
  | [d1, d2] => { results := [.lit (.bool true)], args := [d1, d2] }
  | _ => none }
def matrixReducesRow : OpenClaim := { program := "ytpccfkdcpjplgaagreat", sum := "b8f725c4056622a8eac0f2308c623d445489ba9dc4f0a4f981f50a528a0fb78a", func := "rafter/rafterlaw06.MatrixReduces", spec := "matrixReduces", inPlace := ["slices.overlaps[[]rafter/api.Whole]", "slices.overlaps[int]"], unfollowed := true, recurses := true, apart := false }
def MatrixReducesSaid : Prop := matrixReducesRow.holds Tryz.pinned (OpenSpec.ofChange matrixReducesSpec)

/-- ITS FALSE NEIGHBOUR: 'it returns false'. Refute it at one input. -/
def matrixReducesWrong : ChangeSpec := { name := "matrixReduces", fn := fun _ => fun
  | [d1, d2] => { results := [.lit (.bool false)], args := [d1, d2] }
  | _ => none }
def MatrixReducesWrongFalsely : Prop := matrixReducesRow.holds Tryz.pinned (OpenSpec.ofChange matrixReducesWrong)

/-- 'rafterlaw06.MatrixKernels': WHATEVER THE INPUT: true; the input reads as it did. -/
def matrixKernelsSpec : ChangeSpec := { name := "matrixKernels", fn := fun _ => fun
  | [d1, d2] => { results := [.lit (.bool true)], args := [d1, d2] }
  | _ => none }
def matrixKernelsRow : OpenClaim := { program := "ytpccfkdcpjplgaagreat", sum := "b8f725c4056622a8eac0f2308c623d445489ba9dc4f0a4f981f50a528a0fb78a", func := "rafter/rafterlaw06.MatrixKernels", spec := "matrixKernels", inPlace := ["slices.overlaps[[]rafter/api.Whole]", "slices.overlaps[int]"], unfollowed := true, recurses := true, apart := false }
def MatrixKernelsSaid : Prop := matrixKernelsRow.holds Tryz.pinned (OpenSpec.ofChange matrixKernelsSpec)

/-- ITS FALSE NEIGHBOUR: 'it returns false'. Refute it at one input. -/
def matrixKernelsWrong : ChangeSpec := { name := "matrixKernels", fn := fun _ => fun
  | [d1, d2] => { results := [.lit (.bool false)], args := [d1, d2] }
  | _ => none }
def MatrixKernelsWrongFalsely : Prop := matrixKernelsRow.holds Tryz.pinned (OpenSpec.ofChange matrixKernelsWrong)

/-- 'rafterlaw06.MatrixInsides': WHATEVER THE INPUT: true; the input reads as it did. -/
def matrixInsidesSpec : ChangeSpec := { name := "matrixInsides", fn := fun _ => fun
  | [d1, d2, d3] => { results := [.lit (.bool true)], args := [d1, d2, d3] }
  | _ => none }
def matrixInsidesRow : OpenClaim := { program := "ytpccfkdcpjplgaagreat", sum := "b8f725c4056622a8eac0f2308c623d445489ba9dc4f0a4f981f50a528a0fb78a", func := "rafter/rafterlaw06.MatrixInsides", spec := "matrixInsides", inPlace := ["slices.overlaps[[]rafter/api.Whole]", "slices.overlaps[int]"], unfollowed := true, recurses := true, apart := false }
def MatrixInsidesSaid : Prop := matrixInsidesRow.holds Tryz.pinned (OpenSpec.ofChange matrixInsidesSpec)

/-- ITS FALSE NEIGHBOUR: 'it returns false'. Refute it at one input. -/
def matrixInsidesWrong : ChangeSpec := { name := "matrixInsides", fn := fun _ => fun
  | [d1, d2, d3] => { results := [.lit (.bool false)], args := [d1, d2, d3] }
  | _ => none }
def MatrixInsidesWrongFalsely : Prop := matrixInsidesRow.holds Tryz.pinned (OpenSpec.ofChange matrixInsidesWrong)

/- THE SECOND FORM. 'bulk': how many values and letters a reading holds, each counted each time it is reached (what is shared counts as often as it is met; a slice's spare places count too). A statement '..UptoSaid' is the law's where the arguments, and the package variables that the reading takes, are together of bulk at most 1048576: NARROWER than '..Said'. Prove '..Said' where nothing that the law and all that it calls make is longer than what came in: it says more and counts as full. Else prove '..UptoSaid'. A law counts once. -/
mutual
def uptoBulk {H : Type} : DataW H → Nat
  | .lit (.string bytes) => bytes.length + 1
  | .lit _ => 1
  | .nil => 1
  | .ptr d => uptoBulk d + 1
  | .slice elems spare => uptoBulkAll elems + uptoBulkAll spare + 1
  | .agg parts => uptoBulkAll parts + 1
  | .iface _ d => uptoBulk d + 1
  | .map entries => uptoBulkEntries entries + 1
  | .held _ => 1
def uptoBulkAll {H : Type} : List (DataW H) → Nat
  | [] => 0
  | d :: r => uptoBulk d + uptoBulkAll r
def uptoBulkEntries {H : Type} : List (Lit × DataW H) → Nat
  | [] => 0
  | x :: r => uptoBulkEntry x + uptoBulkEntries r
def uptoBulkEntry {H : Type} : Lit × DataW H → Nat
  | (.string bytes, d) => bytes.length + uptoBulk d + 1
  | (_, d) => uptoBulk d + 1
 end
def uptoSmall : (H : Type) → List (DataW H) → Bool := fun _ ds => decide (uptoBulkAll ds ≤ 1048576)
def OpenSpec.upto (s : _root_.Go.ChangeSpec) : _root_.Go.OpenSpec := { _root_.Go.OpenSpec.ofChange s with cond := some uptoSmall }

/-- 'rafterlaw06.MatrixReduces', WHERE WHAT IT READS IS OF BULK AT MOST 1048576: true; the input reads as it did. -/
def matrixReducesUptoRow : OpenClaim := { program := "ytpccfkdcpjplgaagreat", sum := "b8f725c4056622a8eac0f2308c623d445489ba9dc4f0a4f981f50a528a0fb78a", func := "rafter/rafterlaw06.MatrixReduces", spec := "matrixReduces", inPlace := ["slices.overlaps[[]rafter/api.Whole]", "slices.overlaps[int]"], unfollowed := true, recurses := true, apart := false, narrowed := true }
def MatrixReducesUptoSaid : Prop := matrixReducesUptoRow.holds Tryz.pinned (OpenSpec.upto matrixReducesSpec)

/-- 'rafterlaw06.MatrixKernels', WHERE WHAT IT READS IS OF BULK AT MOST 1048576: true; the input reads as it did. -/
def matrixKernelsUptoRow : OpenClaim := { program := "ytpccfkdcpjplgaagreat", sum := "b8f725c4056622a8eac0f2308c623d445489ba9dc4f0a4f981f50a528a0fb78a", func := "rafter/rafterlaw06.MatrixKernels", spec := "matrixKernels", inPlace := ["slices.overlaps[[]rafter/api.Whole]", "slices.overlaps[int]"], unfollowed := true, recurses := true, apart := false, narrowed := true }
def MatrixKernelsUptoSaid : Prop := matrixKernelsUptoRow.holds Tryz.pinned (OpenSpec.upto matrixKernelsSpec)

/-- 'rafterlaw06.MatrixInsides', WHERE WHAT IT READS IS OF BULK AT MOST 1048576: true; the input reads as it did. -/
def matrixInsidesUptoRow : OpenClaim := { program := "ytpccfkdcpjplgaagreat", sum := "b8f725c4056622a8eac0f2308c623d445489ba9dc4f0a4f981f50a528a0fb78a", func := "rafter/rafterlaw06.MatrixInsides", spec := "matrixInsides", inPlace := ["slices.overlaps[[]rafter/api.Whole]", "slices.overlaps[int]"], unfollowed := true, recurses := true, apart := false, narrowed := true }
def MatrixInsidesUptoSaid : Prop := matrixInsidesUptoRow.holds Tryz.pinned (OpenSpec.upto matrixInsidesSpec)

end Rows
end Go.Proofs.YtpccfkdcpjplgaaGreat

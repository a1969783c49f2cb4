/-
  No cell of these rows narrows 'for every input' (looked for: loops, veiled, ifaces, maps, wideKeys, modest, calm, conditions, laid).
  DERIVED. THE GIVEN ROWS OF THIS SEAT. 2 by the template 'for every input the law returns true; each argument reads behind the call as it read before'; 0 by the template 'total and deterministic' (their statements: YtodgiglhconkoaaTotals.lean).
  GIVEN WITH THE SEED: the statements are not yours to turn. If you find one false, say at which input.
  Laid BY PROGRAM, IN A SANDBOX (cutbox-rows.mjs): the forced cells as the released guide's own fill.sh prints them over the translation eb215454011b0b46… (all of the seat's roots in one cut). By AI agents, Wed Nov 11 2026. No macro, syntax, notation, axiom, sorry.
-/
import Derived.Test.YtodgiglhconkoaaChecked
import GoSem.Claim
import GoSem.ClaimJoined
import GoSem.ClaimMapViews
import Derived.JoinedTies
import Derived.KernelRfl
namespace Go.Proofs.Ytodgiglhconkoaa
/- THE CELL 'sum', in the pinned program and in every row, IS THE sha256 OF THE DUMP (.gsa) THAT YtodgiglhconkoaaProg.lean LOADS. Nothing in Lean hashes anything: it is a label: what it is worth is what the hold of that sum in a sandbox is worth. -/
noncomputable def Try.pinned : Pinned := { name := "ytodgiglhconkoaa", sum := "eb215454011b0b469557d0590a3aea8840185ac71ddf8eed80f6568dbb759408", checked := Try.checked }
namespace Rows
def none {H : Type} : Left H := { results := [], args := [] }

/-- 'rafterlaw06.MatrixSpace': WHATEVER THE INPUT: true; the input reads as it did. -/
def matrixSpaceSpec : ChangeSpec := { name := "matrixSpace", fn := fun _ => fun
  | [d1, d2, d3] => { results := [.lit (.bool true)], args := [d1, d2, d3] }
  | _ => none }
def matrixSpaceRow : OpenClaim := { program := "ytodgiglhconkoaa", sum := "eb215454011b0b469557d0590a3aea8840185ac71ddf8eed80f6568dbb759408", func := "rafter/rafterlaw06.MatrixSpace", spec := "matrixSpace", inPlace := ["slices.overlaps[[]rafter/api.Whole]", "slices.overlaps[int]"], unfollowed := true, recurses := true, apart := false }
def MatrixSpaceSaid : Prop := matrixSpaceRow.holds Try.pinned (OpenSpec.ofChange matrixSpaceSpec)

/-- ITS FALSE NEIGHBOUR: 'it returns false'. Refute it at one input. -/
def matrixSpaceWrong : ChangeSpec := { name := "matrixSpace", fn := fun _ => fun
  | [d1, d2, d3] => { results := [.lit (.bool false)], args := [d1, d2, d3] }
  | _ => none }
def MatrixSpaceWrongFalsely : Prop := matrixSpaceRow.holds Try.pinned (OpenSpec.ofChange matrixSpaceWrong)

/-- 'rafterlaw06.MatrixTurns': WHATEVER THE INPUT: true; the input reads as it did. -/
def matrixTurnsSpec : ChangeSpec := { name := "matrixTurns", fn := fun _ => fun
  | [d1, d2, d3] => { results := [.lit (.bool true)], args := [d1, d2, d3] }
  | _ => none }
def matrixTurnsRow : OpenClaim := { program := "ytodgiglhconkoaa", sum := "eb215454011b0b469557d0590a3aea8840185ac71ddf8eed80f6568dbb759408", func := "rafter/rafterlaw06.MatrixTurns", spec := "matrixTurns", inPlace := ["slices.overlaps[[]rafter/api.Whole]", "slices.overlaps[int]"], unfollowed := true, recurses := true, apart := false }
def MatrixTurnsSaid : Prop := matrixTurnsRow.holds Try.pinned (OpenSpec.ofChange matrixTurnsSpec)

/-- ITS FALSE NEIGHBOUR: 'it returns false'. Refute it at one input. -/
def matrixTurnsWrong : ChangeSpec := { name := "matrixTurns", fn := fun _ => fun
  | [d1, d2, d3] => { results := [.lit (.bool false)], args := [d1, d2, d3] }
  | _ => none }
def MatrixTurnsWrongFalsely : Prop := matrixTurnsRow.holds Try.pinned (OpenSpec.ofChange matrixTurnsWrong)

/- THE SECOND FORM. 'bulk': how many values and letters a reading holds, each counted each time it is reached (what is shared counts as often as it is met; a slice's spare places count too). A statement '..UptoSaid' is the law's where the arguments, and the package variables that the reading takes, are together of bulk at most 1048576: NARROWER than '..Said'. Prove '..Said' where nothing that the law and all that it calls make is longer than what came in: it says more and counts as full. Else prove '..UptoSaid'. A law counts once. -/
mutual
def uptoBulk {H : Type} : DataW H → Nat
  | .lit (.string bytes) => bytes.length + 1
  | .lit _ => 1
  | .nil => 1
  | .ptr d => uptoBulk d + 1
  | .slice elems spare => uptoBulkAll elems + uptoBulkAll spare + 1
  | .agg parts => uptoBulkAll parts + 1
  | .iface _ d => uptoBulk d + 1
  | .map entries => uptoBulkEntries entries + 1
  | .held _ => 1
def uptoBulkAll {H : Type} : List (DataW H) → Nat
  | [] => 0
  | d :: r => uptoBulk d + uptoBulkAll r
def uptoBulkEntries {H : Type} : List (Lit × DataW H) → Nat
  | [] => 0
  | x :: r => uptoBulkEntry x + uptoBulkEntries r
def uptoBulkEntry {H : Type} : Lit × DataW H → Nat
  | (.string bytes, d) => bytes.length + uptoBulk d + 1
  | (_, d) => uptoBulk d + 1
 end
def uptoSmall : (H : Type) → List (DataW H) → Bool := fun _ ds => decide (uptoBulkAll ds ≤ 1048576)
def OpenSpec.upto (s : _root_.Go.ChangeSpec) : _root_.Go.OpenSpec := { _root_.Go.OpenSpec.ofChange s with cond := some uptoSmall }

/-- 'rafterlaw06.MatrixSpace', WHERE WHAT IT READS IS OF BULK AT MOST 1048576: true; the input reads as it did. -/
def matrixSpaceUptoRow : OpenClaim := { program := "ytodgiglhconkoaa", sum := "eb215454011b0b469557d0590a3aea8840185ac71ddf8eed80f6568dbb759408", func := "rafter/rafterlaw06.MatrixSpace", spec := "matrixSpace", inPlace := ["slices.overlaps[[]rafter/api.Whole]", "slices.overlaps[int]"], unfollowed := true, recurses := true, apart := false, narrowed := true }
def MatrixSpaceUptoSaid : Prop := matrixSpaceUptoRow.holds Try.pinned (OpenSpec.upto matrixSpaceSpec)

/-- 'rafterlaw06.MatrixTurns', WHERE WHAT IT READS IS OF BULK AT MOST 1048576: true; the input reads as it did. -/
def matrixTurnsUptoRow : OpenClaim := { program := "ytodgiglhconkoaa", sum := "eb215454011b0b469557d0590a3aea8840185ac71ddf8eed80f6568dbb759408", func := "rafter/rafterlaw06.MatrixTurns", spec := "matrixTurns", inPlace := ["slices.overlaps[[]rafter/api.Whole]", "slices.overlaps[int]"], unfollowed := true, recurses := true, apart := false, narrowed := true }
def MatrixTurnsUptoSaid : Prop := matrixTurnsUptoRow.holds Try.pinned (OpenSpec.upto matrixTurnsSpec)

end Rows
end Go.Proofs.Ytodgiglhconkoaa

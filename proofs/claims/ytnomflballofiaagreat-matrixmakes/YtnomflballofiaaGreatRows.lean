/-
  No cell of these rows narrows 'for every input' (looked for: loops, veiled, ifaces, maps, wideKeys, modest, calm, conditions, laid).
  DERIVED. THE GIVEN ROWS OF THIS SEAT. 3 by the template 'for every input the law returns true; each argument reads behind the call as it read before'; 0 by the template 'total and deterministic' (their statements: YtnomflballofiaaGreatTotals.lean).
  GIVEN WITH THE SEED: the statements are not yours to turn. If you find one false, say at which input.
  Laid BY PROGRAM, IN A SANDBOX (cutbox-rows.mjs): the forced cells as the released guide's own fill.sh prints them over the translation 2a6a247b51b58f7b… (all of the seat's roots in one cut). By AI agents, Wed Nov 11 2026. No macro, syntax, notation, axiom, sorry.
-/
import Derived.Test.YtnomflballofiaaGreatChecked
import GoSem.Claim
import GoSem.ClaimJoined
import GoSem.ClaimMapViews
import Derived.JoinedTies
import Derived.KernelRfl
namespace Go.Proofs.YtnomflballofiaaGreat
/- THE CELL 'sum', in the pinned program and in every row, IS THE sha256 OF THE DUMP (.gsa) THAT YtnomflballofiaaGreatProg.lean LOADS. Nothing in Lean hashes anything: it is a label: what it is worth is what the hold of that sum in a sandbox is worth. -/
noncomputable def Tryz.pinned : Pinned := { name := "ytnomflballofiaagreat", sum := "2a6a247b51b58f7b0b0442a23aa768fc111fae229e27ff44fe0e398d0a10e3f3", checked := Tryz.checked }
namespace Rows
def none {H : Type} : Left H := { results := [], args := [] }

/-- 'rafterlaw06.MatrixForms': WHATEVER THE INPUT: true; the input reads as it did. -/
def matrixFormsSpec : ChangeSpec := { name := "matrixForms", fn := fun _ => fun
  | [d1, d2] => { results := [.lit (.bool true)], args := [d1, d2] }
  | _ => none }
def matrixFormsRow : OpenClaim := { program := "ytnomflballofiaagreat", sum := "2a6a247b51b58f7b0b0442a23aa768fc111fae229e27ff44fe0e398d0a10e3f3", func := "rafter/rafterlaw06.MatrixForms", spec := "matrixForms", inPlace := ["slices.overlaps[[]rafter/api.Whole]", "slices.overlaps[int]"], unfollowed := true, recurses := true, apart := false }
def MatrixFormsSaid : Prop := matrixFormsRow.holds Tryz.pinned (OpenSpec.ofChange matrixFormsSpec)

/-- ITS FALSE NEIGHBOUR: 'it returns false'. Refute it at one input. -/
def matrixFormsWrong : ChangeSpec := { name := "matrixForms", fn := fun _ => fun
  | [d1, d2] => { results := [.lit (.bool false)], args := [d1, d2] }
  | _ => none }
def MatrixFormsWrongFalsely : Prop := matrixFormsRow.holds Tryz.pinned (OpenSpec.ofChange matrixFormsWrong)

/-- 'rafterlaw06.MatrixDual': WHATEVER THE INPUT: true; the input reads as it did. -/
def matrixDualSpec : ChangeSpec := { name := "matrixDual", fn := fun _ => fun
  | [d1, d2, d3] => { results := [.lit (.bool true)], args := [d1, d2, d3] }
  | _ => none }
def matrixDualRow : OpenClaim := { program := "ytnomflballofiaagreat", sum := "2a6a247b51b58f7b0b0442a23aa768fc111fae229e27ff44fe0e398d0a10e3f3", func := "rafter/rafterlaw06.MatrixDual", spec := "matrixDual", inPlace := ["slices.overlaps[[]rafter/api.Whole]", "slices.overlaps[int]"], unfollowed := true, recurses := true, apart := false }
def MatrixDualSaid : Prop := matrixDualRow.holds Tryz.pinned (OpenSpec.ofChange matrixDualSpec)

/-- ITS FALSE NEIGHBOUR: 'it returns false'. Refute it at one input. -/
def matrixDualWrong : ChangeSpec := { name := "matrixDual", fn := fun _ => fun
  | [d1, d2, d3] => { results := [.lit (.bool false)], args := [d1, d2, d3] }
  | _ => none }
def MatrixDualWrongFalsely : Prop := matrixDualRow.holds Tryz.pinned (OpenSpec.ofChange matrixDualWrong)

/-- 'rafterlaw06.MatrixMakes': WHATEVER THE INPUT: true; the input reads as it did. -/
def matrixMakesSpec : ChangeSpec := { name := "matrixMakes", fn := fun _ => fun
  | [d1, d2, d3] => { results := [.lit (.bool true)], args := [d1, d2, d3] }
  | _ => none }
def matrixMakesRow : OpenClaim := { program := "ytnomflballofiaagreat", sum := "2a6a247b51b58f7b0b0442a23aa768fc111fae229e27ff44fe0e398d0a10e3f3", func := "rafter/rafterlaw06.MatrixMakes", spec := "matrixMakes", inPlace := ["slices.overlaps[[]rafter/api.Whole]", "slices.overlaps[int]"], unfollowed := true, recurses := true, apart := false }
def MatrixMakesSaid : Prop := matrixMakesRow.holds Tryz.pinned (OpenSpec.ofChange matrixMakesSpec)

/-- ITS FALSE NEIGHBOUR: 'it returns false'. Refute it at one input. -/
def matrixMakesWrong : ChangeSpec := { name := "matrixMakes", fn := fun _ => fun
  | [d1, d2, d3] => { results := [.lit (.bool false)], args := [d1, d2, d3] }
  | _ => none }
def MatrixMakesWrongFalsely : Prop := matrixMakesRow.holds Tryz.pinned (OpenSpec.ofChange matrixMakesWrong)

/- THE SECOND FORM. 'bulk': how many values and letters a reading holds, each counted each time it is reached (what is shared counts as often as it is met; a slice's spare places count too). A statement '..UptoSaid' is the law's where the arguments, and the package variables that the reading takes, are together of bulk at most 1048576: NARROWER than '..Said'. Prove '..Said' where nothing that the law and all that it calls make is longer than what came in: it says more and counts as full. Else prove '..UptoSaid'. A law counts once. -/
mutual
def uptoBulk {H : Type} : DataW H → Nat
  | .lit (.string bytes) => bytes.length + 1
  | .lit _ => 1
  | .nil => 1
  | .ptr d => uptoBulk d + 1
  | .slice elems spare => uptoBulkAll elems + uptoBulkAll spare + 1
  | .agg parts => uptoBulkAll parts + 1
  | .iface _ d => uptoBulk d + 1
  | .map entries => uptoBulkEntries entries + 1
  | .held _ => 1
def uptoBulkAll {H : Type} : List (DataW H) → Nat
  | [] => 0
  | d :: r => uptoBulk d + uptoBulkAll r
def uptoBulkEntries {H : Type} : List (Lit × DataW H) → Nat
  | [] => 0
  | x :: r => uptoBulkEntry x + uptoBulkEntries r
def uptoBulkEntry {H : Type} : Lit × DataW H → Nat
  | (.string bytes, d) => bytes.length + uptoBulk d + 1
  | (_, d) => uptoBulk d + 1
 end
def uptoSmall : (H : Type) → List (DataW H) → Bool := fun _ ds => decide (uptoBulkAll ds ≤ 1048576)
def OpenSpec.upto (s : _root_.Go.ChangeSpec) : _root_.Go.OpenSpec := { _root_.Go.OpenSpec.ofChange s with cond := some uptoSmall }

/-- 'rafterlaw06.MatrixForms', WHERE WHAT IT READS IS OF BULK AT MOST 1048576: true; the input reads as it did. -/
def matrixFormsUptoRow : OpenClaim := { program := "ytnomflballofiaagreat", sum := "2a6a247b51b58f7b0b0442a23aa768fc111fae229e27ff44fe0e398d0a10e3f3", func := "rafter/rafterlaw06.MatrixForms", spec := "matrixForms", inPlace := ["slices.overlaps[[]rafter/api.Whole]", "slices.overlaps[int]"], unfollowed := true, recurses := true, apart := false, narrowed := true }
def MatrixFormsUptoSaid : Prop := matrixFormsUptoRow.holds Tryz.pinned (OpenSpec.upto matrixFormsSpec)

/-- 'rafterlaw06.MatrixDual', WHERE WHAT IT READS IS OF BULK AT MOST 1048576: true; the input reads as it did. -/
def matrixDualUptoRow : OpenClaim := { program := "ytnomflballofiaagreat", sum := "2a6a247b51b58f7b0b0442a23aa768fc111fae229e27ff44fe0e398d0a10e3f3", func := "rafter/rafterlaw06.MatrixDual", spec := "matrixDual", inPlace := ["slices.overlaps[[]rafter/api.Whole]", "slices.overlaps[int]"], unfollowed := true, recurses := true, apart := false, narrowed := true }
def MatrixDualUptoSaid : Prop := matrixDualUptoRow.holds Tryz.pinned (OpenSpec.upto matrixDualSpec)

/-- 'rafterlaw06.MatrixMakes', WHERE WHAT IT READS IS OF BULK AT MOST 1048576: true; the input reads as it did. -/
def matrixMakesUptoRow : OpenClaim := { program := "ytnomflballofiaagreat", sum := "2a6a247b51b58f7b0b0442a23aa768fc111fae229e27ff44fe0e398d0a10e3f3", func := "rafter/rafterlaw06.MatrixMakes", spec := "matrixMakes", inPlace := ["slices.overlaps[[]rafter/api.Whole]", "slices.overlaps[int]"], unfollowed := true, recurses := true, apart := false, narrowed := true }
def MatrixMakesUptoSaid : Prop := matrixMakesUptoRow.holds Tryz.pinned (OpenSpec.upto matrixMakesSpec)

end Rows
end Go.Proofs.YtnomflballofiaaGreat

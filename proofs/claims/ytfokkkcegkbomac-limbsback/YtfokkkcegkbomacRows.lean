/-
  No cell of these rows narrows 'for every input' (looked for: loops, veiled, ifaces, maps, wideKeys, modest, calm, conditions, laid).
  DERIVED. THE GIVEN ROWS OF THIS SEAT. 3 by the template 'for every input the law returns true; each argument reads behind the call as it read before'; 0 by the template 'total and deterministic' (their statements: YtfokkkcegkbomacTotals.lean).
  GIVEN WITH THE SEED: the statements are not yours to turn. If you find one false, say at which input.
  Laid BY PROGRAM, IN A SANDBOX (cutbox-rows.mjs): the forced cells as the released guide's own fill.sh prints them over the translation c008f8e7b2d708d2… (all of the seat's roots in one cut). By AI agents, Wed Nov 11 2026. No macro, syntax, notation, axiom, sorry.
-/
import Derived.Test.YtfokkkcegkbomacChecked
import GoSem.Claim
import GoSem.ClaimJoined
import GoSem.ClaimMapViews
import Derived.JoinedTies
import Derived.KernelRfl
namespace Go.Proofs.Ytfokkkcegkbomac
/- THE CELL 'sum', in the pinned program and in every row, IS THE sha256 OF THE DUMP (.gsa) THAT YtfokkkcegkbomacProg.lean LOADS. Nothing in Lean hashes anything: it is a label: what it is worth is what the hold of that sum in a sandbox is worth. -/
noncomputable def Try.pinned : Pinned := { name := "ytfokkkcegkbomac", sum := "c008f8e7b2d708d2a7210ccb10c10dfa7b47fa907ac8e439b9c97ae8d9dd7295", checked := Try.checked }
namespace Rows
def none {H : Type} : Left H := { results := [], args := [] }

/-- 'rafterlaw01.LimbsShifts': WHATEVER THE INPUT: true; the input reads as it did. -/
def limbsShiftsSpec : ChangeSpec := { name := "limbsShifts", fn := fun _ => fun
  | [d1, d2] => { results := [.lit (.bool true)], args := [d1, d2] }
  | _ => none }
def limbsShiftsRow : OpenClaim := { program := "ytfokkkcegkbomac", sum := "c008f8e7b2d708d2a7210ccb10c10dfa7b47fa907ac8e439b9c97ae8d9dd7295", func := "rafter/rafterlaw01.LimbsShifts", spec := "limbsShifts", apart := false }
def LimbsShiftsSaid : Prop := limbsShiftsRow.holds Try.pinned (OpenSpec.ofChange limbsShiftsSpec)

/-- ITS FALSE NEIGHBOUR: 'it returns false'. Refute it at one input. -/
def limbsShiftsWrong : ChangeSpec := { name := "limbsShifts", fn := fun _ => fun
  | [d1, d2] => { results := [.lit (.bool false)], args := [d1, d2] }
  | _ => none }
def LimbsShiftsWrongFalsely : Prop := limbsShiftsRow.holds Try.pinned (OpenSpec.ofChange limbsShiftsWrong)

/-- 'rafterlaw01.LimbsBack': WHATEVER THE INPUT: true; the input reads as it did. -/
def limbsBackSpec : ChangeSpec := { name := "limbsBack", fn := fun _ => fun
  | [d1, d2] => { results := [.lit (.bool true)], args := [d1, d2] }
  | _ => none }
def limbsBackRow : OpenClaim := { program := "ytfokkkcegkbomac", sum := "c008f8e7b2d708d2a7210ccb10c10dfa7b47fa907ac8e439b9c97ae8d9dd7295", func := "rafter/rafterlaw01.LimbsBack", spec := "limbsBack", apart := false }
def LimbsBackSaid : Prop := limbsBackRow.holds Try.pinned (OpenSpec.ofChange limbsBackSpec)

/-- ITS FALSE NEIGHBOUR: 'it returns false'. Refute it at one input. -/
def limbsBackWrong : ChangeSpec := { name := "limbsBack", fn := fun _ => fun
  | [d1, d2] => { results := [.lit (.bool false)], args := [d1, d2] }
  | _ => none }
def LimbsBackWrongFalsely : Prop := limbsBackRow.holds Try.pinned (OpenSpec.ofChange limbsBackWrong)

/-- 'rafterlaw01.LimbsTops': WHATEVER THE INPUT: true; the input reads as it did. -/
def limbsTopsSpec : ChangeSpec := { name := "limbsTops", fn := fun _ => fun
  | [d1, d2, d3] => { results := [.lit (.bool true)], args := [d1, d2, d3] }
  | _ => none }
def limbsTopsRow : OpenClaim := { program := "ytfokkkcegkbomac", sum := "c008f8e7b2d708d2a7210ccb10c10dfa7b47fa907ac8e439b9c97ae8d9dd7295", func := "rafter/rafterlaw01.LimbsTops", spec := "limbsTops", apart := false }
def LimbsTopsSaid : Prop := limbsTopsRow.holds Try.pinned (OpenSpec.ofChange limbsTopsSpec)

/-- ITS FALSE NEIGHBOUR: 'it returns false'. Refute it at one input. -/
def limbsTopsWrong : ChangeSpec := { name := "limbsTops", fn := fun _ => fun
  | [d1, d2, d3] => { results := [.lit (.bool false)], args := [d1, d2, d3] }
  | _ => none }
def LimbsTopsWrongFalsely : Prop := limbsTopsRow.holds Try.pinned (OpenSpec.ofChange limbsTopsWrong)

/- THE SECOND FORM. 'bulk': how many values and letters a reading holds, each counted each time it is reached (what is shared counts as often as it is met; a slice's spare places count too). A statement '..UptoSaid' is the law's where the arguments, and the package variables that the reading takes, are together of bulk at most 1048576: NARROWER than '..Said'. Prove '..Said' where nothing that the law and all that it calls make is longer than what came in: it says more and counts as full. Else prove '..UptoSaid'. A law counts once. -/
mutual
def uptoBulk {H : Type} : DataW H → Nat
  | .lit (.string bytes) => bytes.length + 1
  | .lit _ => 1
  | .nil => 1
  | .ptr d => uptoBulk d + 1
  | .slice elems spare => uptoBulkAll elems + uptoBulkAll spare + 1
  | .agg parts => uptoBulkAll parts + 1
  | .iface _ d => uptoBulk d + 1
  | .map entries => uptoBulkEntries entries + 1
  | .held _ => 1
def uptoBulkAll {H : Type} : List (DataW H) → Nat
  | [] => 0
  | d :: r => uptoBulk d + uptoBulkAll r
def uptoBulkEntries {H : Type} : List (Lit × DataW H) → Nat
  | [] => 0
  | x :: r => uptoBulkEntry x + uptoBulkEntries r
def uptoBulkEntry {H : Type} : Lit × DataW H → Nat
  | (.string bytes, d) => bytes.length + uptoBulk d + 1
  | (_, d) => uptoBulk d + 1
 end
def uptoSmall : (H : Type) → List (DataW H) → Bool := fun _ ds => decide (uptoBulkAll ds ≤ 1048576)
def OpenSpec.upto (s : _root_.Go.ChangeSpec) : _root_.Go.OpenSpec := { _root_.Go.OpenSpec.ofChange s with cond := some uptoSmall }

/-- 'rafterlaw01.LimbsShifts', WHERE WHAT IT READS IS OF BULK AT MOST 1048576: true; the input reads as it did. -/
def limbsShiftsUptoRow : OpenClaim := { program := "ytfokkkcegkbomac", sum := "c008f8e7b2d708d2a7210ccb10c10dfa7b47fa907ac8e439b9c97ae8d9dd7295", func := "rafter/rafterlaw01.LimbsShifts", spec := "limbsShifts", apart := false, narrowed := true }
def LimbsShiftsUptoSaid : Prop := limbsShiftsUptoRow.holds Try.pinned (OpenSpec.upto limbsShiftsSpec)

/-- 'rafterlaw01.LimbsBack', WHERE WHAT IT READS IS OF BULK AT MOST 1048576: true; the input reads as it did. -/
def limbsBackUptoRow : OpenClaim := { program := "ytfokkkcegkbomac", sum := "c008f8e7b2d708d2a7210ccb10c10dfa7b47fa907ac8e439b9c97ae8d9dd7295", func := "rafter/rafterlaw01.LimbsBack", spec := "limbsBack", apart := false, narrowed := true }
def LimbsBackUptoSaid : Prop := limbsBackUptoRow.holds Try.pinned (OpenSpec.upto limbsBackSpec)

/-- 'rafterlaw01.LimbsTops', WHERE WHAT IT READS IS OF BULK AT MOST 1048576: true; the input reads as it did. -/
def limbsTopsUptoRow : OpenClaim := { program := "ytfokkkcegkbomac", sum := "c008f8e7b2d708d2a7210ccb10c10dfa7b47fa907ac8e439b9c97ae8d9dd7295", func := "rafter/rafterlaw01.LimbsTops", spec := "limbsTops", apart := false, narrowed := true }
def LimbsTopsUptoSaid : Prop := limbsTopsUptoRow.holds Try.pinned (OpenSpec.upto limbsTopsSpec)

end Rows
end Go.Proofs.Ytfokkkcegkbomac

/-
  No cell of these rows narrows 'for every input' (looked for: loops, veiled, ifaces, maps, wideKeys, modest, calm, conditions, laid).
  DERIVED. THE GIVEN ROWS OF THIS SEAT. 6 by the template 'for every input the law returns true; each argument reads behind the call as it read before'; 0 by the template 'total and deterministic' (their statements: YthbomfboohjcfaaTotals.lean).
  GIVEN WITH THE SEED: the statements are not yours to turn. If you find one false, say at which input.
  Laid BY PROGRAM, IN A SANDBOX (cutbox-rows.mjs): the forced cells as the released guide's own fill.sh prints them over the translation c8ee1c86f23cce51… (all of the seat's roots in one cut). By AI agents, Wed Nov 11 2026. No macro, syntax, notation, axiom, sorry.
-/
import Derived.Test.YthbomfboohjcfaaChecked
import GoSem.Claim
import GoSem.ClaimJoined
import GoSem.ClaimMapViews
import Derived.JoinedTies
import Derived.KernelRfl
namespace Go.Proofs.Ythbomfboohjcfaa
/- THE CELL 'sum', in the pinned program and in every row, IS THE sha256 OF THE DUMP (.gsa) THAT YthbomfboohjcfaaProg.lean LOADS. Nothing in Lean hashes anything: it is a label: what it is worth is what the hold of that sum in a sandbox is worth. -/
noncomputable def Try.pinned : Pinned := { name := "ythbomfboohjcfaa", sum := "c8ee1c86f23cce5105ba2ac1555779fbfbe14e9a22dd37232176716c6830619d", checked := Try.checked }
namespace Rows
def none {H : Type} : Left H := { results := [], args := [] }

/-- 'rafterlaw01.LimbsTrims': WHATEVER THE INPUT: true; the input reads as it did. -/
def limbsTrimsSpec : ChangeSpec := { name := "limbsTrims", fn := fun _ => fun
  | [d1, d2] => { results := [.lit (.bool true)], args := [d1, d2] }
  | _ => none }
def limbsTrimsRow : OpenClaim := { program := "ythbomfboohjcfaa", sum := "c8ee1c86f23cce5105ba2ac1555779fbfbe14e9a22dd37232176716c6830619d", func := "rafter/rafterlaw01.LimbsTrims", spec := "limbsTrims", apart := false }
def LimbsTrimsSaid : Prop := limbsTrimsRow.holds Try.pinned (OpenSpec.ofChange limbsTrimsSpec)

/-- ITS FALSE NEIGHBOUR: 'it returns false'. Refute it at one input. -/
def limbsTrimsWrong : ChangeSpec := { name := "limbsTrims", fn := fun _ => fun
  | [d1, d2] => { results := [.lit (.bool false)], args := [d1, d2] }
  | _ => none }
def LimbsTrimsWrongFalsely : Prop := limbsTrimsRow.holds Try.pinned (OpenSpec.ofChange limbsTrimsWrong)

/-- 'rafterlaw01.LimbsSums': WHATEVER THE INPUT: true; the input reads as it did. -/
def limbsSumsSpec : ChangeSpec := { name := "limbsSums", fn := fun _ => fun
  | [d1, d2] => { results := [.lit (.bool true)], args := [d1, d2] }
  | _ => none }
def limbsSumsRow : OpenClaim := { program := "ythbomfboohjcfaa", sum := "c8ee1c86f23cce5105ba2ac1555779fbfbe14e9a22dd37232176716c6830619d", func := "rafter/rafterlaw01.LimbsSums", spec := "limbsSums", apart := false }
def LimbsSumsSaid : Prop := limbsSumsRow.holds Try.pinned (OpenSpec.ofChange limbsSumsSpec)

/-- ITS FALSE NEIGHBOUR: 'it returns false'. Refute it at one input. -/
def limbsSumsWrong : ChangeSpec := { name := "limbsSums", fn := fun _ => fun
  | [d1, d2] => { results := [.lit (.bool false)], args := [d1, d2] }
  | _ => none }
def LimbsSumsWrongFalsely : Prop := limbsSumsRow.holds Try.pinned (OpenSpec.ofChange limbsSumsWrong)

/-- 'rafterlaw01.LimbsProducts': WHATEVER THE INPUT: true; the input reads as it did. -/
def limbsProductsSpec : ChangeSpec := { name := "limbsProducts", fn := fun _ => fun
  | [d1, d2] => { results := [.lit (.bool true)], args := [d1, d2] }
  | _ => none }
def limbsProductsRow : OpenClaim := { program := "ythbomfboohjcfaa", sum := "c8ee1c86f23cce5105ba2ac1555779fbfbe14e9a22dd37232176716c6830619d", func := "rafter/rafterlaw01.LimbsProducts", spec := "limbsProducts", apart := false }
def LimbsProductsSaid : Prop := limbsProductsRow.holds Try.pinned (OpenSpec.ofChange limbsProductsSpec)

/-- ITS FALSE NEIGHBOUR: 'it returns false'. Refute it at one input. -/
def limbsProductsWrong : ChangeSpec := { name := "limbsProducts", fn := fun _ => fun
  | [d1, d2] => { results := [.lit (.bool false)], args := [d1, d2] }
  | _ => none }
def LimbsProductsWrongFalsely : Prop := limbsProductsRow.holds Try.pinned (OpenSpec.ofChange limbsProductsWrong)

/-- 'rafterlaw01.LimbsDivides': WHATEVER THE INPUT: true; the input reads as it did. -/
def limbsDividesSpec : ChangeSpec := { name := "limbsDivides", fn := fun _ => fun
  | [d1, d2] => { results := [.lit (.bool true)], args := [d1, d2] }
  | _ => none }
def limbsDividesRow : OpenClaim := { program := "ythbomfboohjcfaa", sum := "c8ee1c86f23cce5105ba2ac1555779fbfbe14e9a22dd37232176716c6830619d", func := "rafter/rafterlaw01.LimbsDivides", spec := "limbsDivides", apart := false }
def LimbsDividesSaid : Prop := limbsDividesRow.holds Try.pinned (OpenSpec.ofChange limbsDividesSpec)

/-- ITS FALSE NEIGHBOUR: 'it returns false'. Refute it at one input. -/
def limbsDividesWrong : ChangeSpec := { name := "limbsDivides", fn := fun _ => fun
  | [d1, d2] => { results := [.lit (.bool false)], args := [d1, d2] }
  | _ => none }
def LimbsDividesWrongFalsely : Prop := limbsDividesRow.holds Try.pinned (OpenSpec.ofChange limbsDividesWrong)

/-- 'rafterlaw01.LimbsGcds': WHATEVER THE INPUT: true; the input reads as it did. -/
def limbsGcdsSpec : ChangeSpec := { name := "limbsGcds", fn := fun _ => fun
  | [d1, d2] => { results := [.lit (.bool true)], args := [d1, d2] }
  | _ => none }
def limbsGcdsRow : OpenClaim := { program := "ythbomfboohjcfaa", sum := "c8ee1c86f23cce5105ba2ac1555779fbfbe14e9a22dd37232176716c6830619d", func := "rafter/rafterlaw01.LimbsGcds", spec := "limbsGcds", apart := false }
def LimbsGcdsSaid : Prop := limbsGcdsRow.holds Try.pinned (OpenSpec.ofChange limbsGcdsSpec)

/-- ITS FALSE NEIGHBOUR: 'it returns false'. Refute it at one input. -/
def limbsGcdsWrong : ChangeSpec := { name := "limbsGcds", fn := fun _ => fun
  | [d1, d2] => { results := [.lit (.bool false)], args := [d1, d2] }
  | _ => none }
def LimbsGcdsWrongFalsely : Prop := limbsGcdsRow.holds Try.pinned (OpenSpec.ofChange limbsGcdsWrong)

/-- 'rafterlaw01.LimbsMoves': WHATEVER THE INPUT: true; the input reads as it did. -/
def limbsMovesSpec : ChangeSpec := { name := "limbsMoves", fn := fun _ => fun
  | [d1, d2] => { results := [.lit (.bool true)], args := [d1, d2] }
  | _ => none }
def limbsMovesRow : OpenClaim := { program := "ythbomfboohjcfaa", sum := "c8ee1c86f23cce5105ba2ac1555779fbfbe14e9a22dd37232176716c6830619d", func := "rafter/rafterlaw01.LimbsMoves", spec := "limbsMoves", apart := false }
def LimbsMovesSaid : Prop := limbsMovesRow.holds Try.pinned (OpenSpec.ofChange limbsMovesSpec)

/-- ITS FALSE NEIGHBOUR: 'it returns false'. Refute it at one input. -/
def limbsMovesWrong : ChangeSpec := { name := "limbsMoves", fn := fun _ => fun
  | [d1, d2] => { results := [.lit (.bool false)], args := [d1, d2] }
  | _ => none }
def LimbsMovesWrongFalsely : Prop := limbsMovesRow.holds Try.pinned (OpenSpec.ofChange limbsMovesWrong)

/- THE SECOND FORM. 'bulk': how many values and letters a reading holds, each counted each time it is reached (what is shared counts as often as it is met; a slice's spare places count too). A statement '..UptoSaid' is the law's where the arguments, and the package variables that the reading takes, are together of bulk at most 1048576: NARROWER than '..Said'. Prove '..Said' where nothing that the law and all that it calls make is longer than what came in: it says more and counts as full. Else prove '..UptoSaid'. A law counts once. -/
mutual
def uptoBulk {H : Type} : DataW H → Nat
  | .lit (.string bytes) => bytes.length + 1
  | .lit _ => 1
  | .nil => 1
  | .ptr d => uptoBulk d + 1
  | .slice elems spare => uptoBulkAll elems + uptoBulkAll spare + 1
  | .agg parts => uptoBulkAll parts + 1
  | .iface _ d => uptoBulk d + 1
  | .map entries => uptoBulkEntries entries + 1
  | .held _ => 1
def uptoBulkAll {H : Type} : List (DataW H) → Nat
  | [] => 0
  | d :: r => uptoBulk d + uptoBulkAll r
def uptoBulkEntries {H : Type} : List (Lit × DataW H) → Nat
  | [] => 0
  | x :: r => uptoBulkEntry x + uptoBulkEntries r
def uptoBulkEntry {H : Type} : Lit × DataW H → Nat
  | (.string bytes, d) => bytes.length + uptoBulk d + 1
  | (_, d) => uptoBulk d + 1
 end
def uptoSmall : (H : Type) → List (DataW H) → Bool := fun _ ds => decide (uptoBulkAll ds ≤ 1048576)
def OpenSpec.upto (s : _root_.Go.ChangeSpec) : _root_.Go.OpenSpec := { _root_.Go.OpenSpec.ofChange s with cond := some uptoSmall }

/-- 'rafterlaw01.LimbsTrims', WHERE WHAT IT READS IS OF BULK AT MOST 1048576: true; the input reads as it did. -/
def limbsTrimsUptoRow : OpenClaim := { program := "ythbomfboohjcfaa", sum := "c8ee1c86f23cce5105ba2ac1555779fbfbe14e9a22dd37232176716c6830619d", func := "rafter/rafterlaw01.LimbsTrims", spec := "limbsTrims", apart := false, narrowed := true }
def LimbsTrimsUptoSaid : Prop := limbsTrimsUptoRow.holds Try.pinned (OpenSpec.upto limbsTrimsSpec)

/-- 'rafterlaw01.LimbsSums', WHERE WHAT IT READS IS OF BULK AT MOST 1048576: true; the input reads as it did. -/
def limbsSumsUptoRow : OpenClaim := { program := "ythbomfboohjcfaa", sum := "c8ee1c86f23cce5105ba2ac1555779fbfbe14e9a22dd37232176716c6830619d", func := "rafter/rafterlaw01.LimbsSums", spec := "limbsSums", apart := false, narrowed := true }
def LimbsSumsUptoSaid : Prop := limbsSumsUptoRow.holds Try.pinned (OpenSpec.upto limbsSumsSpec)

/-- 'rafterlaw01.LimbsProducts', WHERE WHAT IT READS IS OF BULK AT MOST 1048576: true; the input reads as it did. -/
def limbsProductsUptoRow : OpenClaim := { program := "ythbomfboohjcfaa", sum := "c8ee1c86f23cce5105ba2ac1555779fbfbe14e9a22dd37232176716c6830619d", func := "rafter/rafterlaw01.LimbsProducts", spec := "limbsProducts", apart := false, narrowed := true }
def LimbsProductsUptoSaid : Prop := limbsProductsUptoRow.holds Try.pinned (OpenSpec.upto limbsProductsSpec)

/-- 'rafterlaw01.LimbsDivides', WHERE WHAT IT READS IS OF BULK AT MOST 1048576: true; the input reads as it did. -/
def limbsDividesUptoRow : OpenClaim := { program := "ythbomfboohjcfaa", sum := "c8ee1c86f23cce5105ba2ac1555779fbfbe14e9a22dd37232176716c6830619d", func := "rafter/rafterlaw01.LimbsDivides", spec := "limbsDivides", apart := false, narrowed := true }
def LimbsDividesUptoSaid : Prop := limbsDividesUptoRow.holds Try.pinned (OpenSpec.upto limbsDividesSpec)

/-- 'rafterlaw01.LimbsGcds', WHERE WHAT IT READS IS OF BULK AT MOST 1048576: true; the input reads as it did. -/
def limbsGcdsUptoRow : OpenClaim := { program := "ythbomfboohjcfaa", sum := "c8ee1c86f23cce5105ba2ac1555779fbfbe14e9a22dd37232176716c6830619d", func := "rafter/rafterlaw01.LimbsGcds", spec := "limbsGcds", apart := false, narrowed := true }
def LimbsGcdsUptoSaid : Prop := limbsGcdsUptoRow.holds Try.pinned (OpenSpec.upto limbsGcdsSpec)

/-- 'rafterlaw01.LimbsMoves', WHERE WHAT IT READS IS OF BULK AT MOST 1048576: true; the input reads as it did. -/
def limbsMovesUptoRow : OpenClaim := { program := "ythbomfboohjcfaa", sum := "c8ee1c86f23cce5105ba2ac1555779fbfbe14e9a22dd37232176716c6830619d", func := "rafter/rafterlaw01.LimbsMoves", spec := "limbsMoves", apart := false, narrowed := true }
def LimbsMovesUptoSaid : Prop := limbsMovesUptoRow.holds Try.pinned (OpenSpec.upto limbsMovesSpec)

end Rows
end Go.Proofs.Ythbomfboohjcfaa

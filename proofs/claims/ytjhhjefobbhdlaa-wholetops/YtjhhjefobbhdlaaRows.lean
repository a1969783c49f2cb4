/-
  No cell of these rows narrows 'for every input' (looked for: loops, veiled, ifaces, maps, wideKeys, modest, calm, conditions, laid).
  DERIVED. THE GIVEN ROWS OF THIS SEAT. 4 by the template 'for every input the law returns true; each argument reads behind the call as it read before'; 0 by the template 'total and deterministic' (their statements: YtjhhjefobbhdlaaTotals.lean).
  GIVEN WITH THE SEED: the statements are not yours to turn. If you find one false, say at which input.
  Laid BY PROGRAM, IN A SANDBOX (cutbox-rows.mjs): the forced cells as the released guide's own fill.sh prints them over the translation 7502ca374a75a683… (all of the seat's roots in one cut). By AI agents, Wed Nov 11 2026. No macro, syntax, notation, axiom, sorry.
-/
import Derived.Test.YtjhhjefobbhdlaaChecked
import GoSem.Claim
import GoSem.ClaimJoined
import GoSem.ClaimMapViews
import Derived.JoinedTies
import Derived.KernelRfl
namespace Go.Proofs.Ytjhhjefobbhdlaa
/- THE CELL 'sum', in the pinned program and in every row, IS THE sha256 OF THE DUMP (.gsa) THAT YtjhhjefobbhdlaaProg.lean LOADS. Nothing in Lean hashes anything: it is a label: what it is worth is what the hold of that sum in a sandbox is worth. -/
noncomputable def Try.pinned : Pinned := { name := "ytjhhjefobbhdlaa", sum := "7502ca374a75a6836f1f204e9cf708bf841d276b9a449b2a5c711ac35181f0f9", checked := Try.checked }
namespace Rows
def none {H : Type} : Left H := { results := [], args := [] }

/-- 'rafterlaw02.WholeReads': WHATEVER THE INPUT: true; the input reads as it did. -/
def wholeReadsSpec : ChangeSpec := { name := "wholeReads", fn := fun _ => fun
  | [d1, d2] => { results := [.lit (.bool true)], args := [d1, d2] }
  | _ => none }
def wholeReadsRow : OpenClaim := { program := "ytjhhjefobbhdlaa", sum := "7502ca374a75a6836f1f204e9cf708bf841d276b9a449b2a5c711ac35181f0f9", func := "rafter/rafterlaw02.WholeReads", spec := "wholeReads", apart := false }
def WholeReadsSaid : Prop := wholeReadsRow.holds Try.pinned (OpenSpec.ofChange wholeReadsSpec)

/-- ITS FALSE NEIGHBOUR: 'it returns false'. Refute it at one input. -/
def wholeReadsWrong : ChangeSpec := { name := "wholeReads", fn := fun _ => fun
  | [d1, d2] => { results := [.lit (.bool false)], args := [d1, d2] }
  | _ => none }
def WholeReadsWrongFalsely : Prop := wholeReadsRow.holds Try.pinned (OpenSpec.ofChange wholeReadsWrong)

/-- 'rafterlaw02.WholeSums': WHATEVER THE INPUT: true; the input reads as it did. -/
def wholeSumsSpec : ChangeSpec := { name := "wholeSums", fn := fun _ => fun
  | [d1, d2] => { results := [.lit (.bool true)], args := [d1, d2] }
  | _ => none }
def wholeSumsRow : OpenClaim := { program := "ytjhhjefobbhdlaa", sum := "7502ca374a75a6836f1f204e9cf708bf841d276b9a449b2a5c711ac35181f0f9", func := "rafter/rafterlaw02.WholeSums", spec := "wholeSums", apart := false }
def WholeSumsSaid : Prop := wholeSumsRow.holds Try.pinned (OpenSpec.ofChange wholeSumsSpec)

/-- ITS FALSE NEIGHBOUR: 'it returns false'. Refute it at one input. -/
def wholeSumsWrong : ChangeSpec := { name := "wholeSums", fn := fun _ => fun
  | [d1, d2] => { results := [.lit (.bool false)], args := [d1, d2] }
  | _ => none }
def WholeSumsWrongFalsely : Prop := wholeSumsRow.holds Try.pinned (OpenSpec.ofChange wholeSumsWrong)

/-- 'rafterlaw02.WholeSum': WHATEVER THE INPUT: true; the input reads as it did. -/
def wholeSumSpec : ChangeSpec := { name := "wholeSum", fn := fun _ => fun
  | [d] => { results := [.lit (.bool true)], args := [d] }
  | _ => none }
def wholeSumRow : OpenClaim := { program := "ytjhhjefobbhdlaa", sum := "7502ca374a75a6836f1f204e9cf708bf841d276b9a449b2a5c711ac35181f0f9", func := "rafter/rafterlaw02.WholeSum", spec := "wholeSum", apart := false }
def WholeSumSaid : Prop := wholeSumRow.holds Try.pinned (OpenSpec.ofChange wholeSumSpec)

/-- ITS FALSE NEIGHBOUR: 'it returns false'. Refute it at one input. -/
def wholeSumWrong : ChangeSpec := { name := "wholeSum", fn := fun _ => fun
  | [d] => { results := [.lit (.bool false)], args := [d] }
  | _ => none }
def WholeSumWrongFalsely : Prop := wholeSumRow.holds Try.pinned (OpenSpec.ofChange wholeSumWrong)

/-- 'rafterlaw02.WholeTops': WHATEVER THE INPUT: true; the input reads as it did. -/
def wholeTopsSpec : ChangeSpec := { name := "wholeTops", fn := fun _ => fun
  | [d1, d2] => { results := [.lit (.bool true)], args := [d1, d2] }
  | _ => none }
def wholeTopsRow : OpenClaim := { program := "ytjhhjefobbhdlaa", sum := "7502ca374a75a6836f1f204e9cf708bf841d276b9a449b2a5c711ac35181f0f9", func := "rafter/rafterlaw02.WholeTops", spec := "wholeTops", apart := false }
def WholeTopsSaid : Prop := wholeTopsRow.holds Try.pinned (OpenSpec.ofChange wholeTopsSpec)

/-- ITS FALSE NEIGHBOUR: 'it returns false'. Refute it at one input. -/
def wholeTopsWrong : ChangeSpec := { name := "wholeTops", fn := fun _ => fun
  | [d1, d2] => { results := [.lit (.bool false)], args := [d1, d2] }
  | _ => none }
def WholeTopsWrongFalsely : Prop := wholeTopsRow.holds Try.pinned (OpenSpec.ofChange wholeTopsWrong)

/- THE SECOND FORM. 'bulk': how many values and letters a reading holds, each counted each time it is reached (what is shared counts as often as it is met; a slice's spare places count too). A statement '..UptoSaid' is the law's where the arguments, and the package variables that the reading takes, are together of bulk at most 1048576: NARROWER than '..Said'. Prove '..Said' where nothing that the law and all that it calls make is longer than what came in: it says more and counts as full. Else prove '..UptoSaid'. A law counts once. -/
mutual
def uptoBulk {H : Type} : DataW H → Nat
  | .lit (.string bytes) => bytes.length + 1
  | .lit _ => 1
  | .nil => 1
  | .ptr d => uptoBulk d + 1
  | .slice elems spare => uptoBulkAll elems + uptoBulkAll spare + 1
  | .agg parts => uptoBulkAll parts + 1
  | .iface _ d => uptoBulk d + 1
  | .map entries => uptoBulkEntries entries + 1
  | .held _ => 1
def uptoBulkAll {H : Type} : List (DataW H) → Nat
  | [] => 0
  | d :: r => uptoBulk d + uptoBulkAll r
def uptoBulkEntries {H : Type} : List (Lit × DataW H) → Nat
  | [] => 0
  | x :: r => uptoBulkEntry x + uptoBulkEntries r
def uptoBulkEntry {H : Type} : Lit × DataW H → Nat
  | (.string bytes, d) => bytes.length + uptoBulk d + 1
  | (_, d) => uptoBulk d + 1
 end
def uptoSmall : (H : Type) → List (DataW H) → Bool := fun _ ds => decide (uptoBulkAll ds ≤ 1048576)
def OpenSpec.upto (s : _root_.Go.ChangeSpec) : _root_.Go.OpenSpec := { _root_.Go.OpenSpec.ofChange s with cond := some uptoSmall }

/-- 'rafterlaw02.WholeReads', WHERE WHAT IT READS IS OF BULK AT MOST 1048576: true; the input reads as it did. -/
def wholeReadsUptoRow : OpenClaim := { program := "ytjhhjefobbhdlaa", sum := "7502ca374a75a6836f1f204e9cf708bf841d276b9a449b2a5c711ac35181f0f9", func := "rafter/rafterlaw02.WholeReads", spec := "wholeReads", apart := false, narrowed := true }
def WholeReadsUptoSaid : Prop := wholeReadsUptoRow.holds Try.pinned (OpenSpec.upto wholeReadsSpec)

/-- 'rafterlaw02.WholeSums', WHERE WHAT IT READS IS OF BULK AT MOST 1048576: true; the input reads as it did. -/
def wholeSumsUptoRow : OpenClaim := { program := "ytjhhjefobbhdlaa", sum := "7502ca374a75a6836f1f204e9cf708bf841d276b9a449b2a5c711ac35181f0f9", func := "rafter/rafterlaw02.WholeSums", spec := "wholeSums", apart := false, narrowed := true }
def WholeSumsUptoSaid : Prop := wholeSumsUptoRow.holds Try.pinned (OpenSpec.upto wholeSumsSpec)

/-- 'rafterlaw02.WholeSum', WHERE WHAT IT READS IS OF BULK AT MOST 1048576: true; the input reads as it did. -/
def wholeSumUptoRow : OpenClaim := { program := "ytjhhjefobbhdlaa", sum := "7502ca374a75a6836f1f204e9cf708bf841d276b9a449b2a5c711ac35181f0f9", func := "rafter/rafterlaw02.WholeSum", spec := "wholeSum", apart := false, narrowed := true }
def WholeSumUptoSaid : Prop := wholeSumUptoRow.holds Try.pinned (OpenSpec.upto wholeSumSpec)

/-- 'rafterlaw02.WholeTops', WHERE WHAT IT READS IS OF BULK AT MOST 1048576: true; the input reads as it did. -/
def wholeTopsUptoRow : OpenClaim := { program := "ytjhhjefobbhdlaa", sum := "7502ca374a75a6836f1f204e9cf708bf841d276b9a449b2a5c711ac35181f0f9", func := "rafter/rafterlaw02.WholeTops", spec := "wholeTops", apart := false, narrowed := true }
def WholeTopsUptoSaid : Prop := wholeTopsUptoRow.holds Try.pinned (OpenSpec.upto wholeTopsSpec)

end Rows
end Go.Proofs.Ytjhhjefobbhdlaa

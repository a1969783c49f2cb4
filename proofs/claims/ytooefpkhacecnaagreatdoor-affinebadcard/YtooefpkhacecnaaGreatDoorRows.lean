/-
  NARROWER THAN 'FOR EVERY INPUT', by the rows' own cells (each row's printed sentence says how): AffineNames: laid · AffineCanons: laid · AffinePrints: laid · AffineBack: laid · AffineTurns: laid · AffineBad: laid.
  DERIVED. THE GIVEN ROWS OF THIS SEAT. 6 by the template 'for every input the law returns true; each argument reads behind the call as it read before'; 0 by the template 'total and deterministic' (their statements: YtooefpkhacecnaaGreatDoorTotals.lean).
  GIVEN WITH THE SEED: the statements are not yours to turn. If you find one false, say at which input.
  Laid BY PROGRAM, IN A SANDBOX (cutbox-rows.mjs): the forced cells as the released guide's own fill.sh prints them over the translation 1370dcc8099d96dc… (all of the seat's roots in one cut). By AI agents, Wed Nov 11 2026. No macro, syntax, notation, axiom, sorry.
-/
import Derived.Test.YtooefpkhacecnaaGreatDoorChecked
import GoSem.PinnedTables
import GoSem.Claim
import GoSem.ClaimJoined
import GoSem.ClaimMapViews
import Derived.JoinedTies
import Derived.KernelRfl
namespace Go.Proofs.YtooefpkhacecnaaGreatDoor
/- THE CELL 'sum', in the pinned program and in every row, IS THE sha256 OF THE DUMP (.gsa) THAT YtooefpkhacecnaaGreatDoorProg.lean LOADS. Nothing in Lean hashes anything: it is a label: what it is worth is what the hold of that sum in a sandbox is worth. -/
noncomputable def Tryz.pinned : Pinned := { name := "ytooefpkhacecnaagreatdoor", sum := "1370dcc8099d96dc0667977ce6015db8e7d7455b617341fb3ed0277f3523433a", checked := Tryz.checked }
namespace Rows
def none {H : Type} : Left H := { results := [], args := [] }

/- WHAT THE LISTED PACKAGE-LEVEL VARIABLES READ AS WHEN THE CALL BEGINS. Each datum BY PROGRAM (the guide's laid-datum.mjs) off the statement by which the dump's own 'gosem.cut.vars' lays the variable. In a bare row this is a premise. The card (YtooefpkhacecnaaGreatDoorCards.lean) ties it to the program's text. -/
def laid_unicode_utf8_acceptRanges {H : Type} : DataW H := .agg [.agg [.lit (.int .u8 128), .lit (.int .u8 191)], .agg [.lit (.int .u8 160), .lit (.int .u8 191)], .agg [.lit (.int .u8 128), .lit (.int .u8 159)], .agg [.lit (.int .u8 144), .lit (.int .u8 191)], .agg [.lit (.int .u8 128), .lit (.int .u8 143)], .agg [.lit (.int .u8 0), .lit (.int .u8 0)], .agg [.lit (.int .u8 0), .lit (.int .u8 0)], .agg [.lit (.int .u8 0), .lit (.int .u8 0)], .agg [.lit (.int .u8 0), .lit (.int .u8 0)], .agg [.lit (.int .u8 0), .lit (.int .u8 0)], .agg [.lit (.int .u8 0), .lit (.int .u8 0)], .agg [.lit (.int .u8 0), .lit (.int .u8 0)], .agg [.lit (.int .u8 0), .lit (.int .u8 0)], .agg [.lit (.int .u8 0), .lit (.int .u8 0)], .agg [.lit (.int .u8 0), .lit (.int .u8 0)], .agg [.lit (.int .u8 0), .lit (.int .u8 0)]]
/-- One of Go's own tables, pinned by name: the form's constant. -/
def laid_unicode_utf8_first : DataW Unit := Go.Pinned.utf8First

/-- 'rafterlaw05.AffineNames': WHATEVER THE INPUT: true; the input reads as it did. -/
def affineNamesSpec : ChangeSpec := { name := "affineNames", fn := fun _ => fun
  | [d1, d2] => { results := [.lit (.bool true)], args := [d1, d2] }
  | _ => none }
def affineNamesRow : OpenClaim := { program := "ytooefpkhacecnaagreatdoor", sum := "1370dcc8099d96dc0667977ce6015db8e7d7455b617341fb3ed0277f3523433a", func := "rafter/rafterlaw05.AffineNames", spec := "affineNames", inPlace := ["internal/abi.NoEscape"], unfollowed := true, recurses := true, named := ["unicode/utf8.first", "unicode/utf8.acceptRanges"], apart := false, laid := [("unicode/utf8.acceptRanges", laid_unicode_utf8_acceptRanges), ("unicode/utf8.first", laid_unicode_utf8_first)] }
def AffineNamesSaid : Prop := affineNamesRow.holds Tryz.pinned (OpenSpec.ofChange affineNamesSpec)

/-- ITS FALSE NEIGHBOUR: 'it returns false'. Refute it at one input. -/
def affineNamesWrong : ChangeSpec := { name := "affineNames", fn := fun _ => fun
  | [d1, d2] => { results := [.lit (.bool false)], args := [d1, d2] }
  | _ => none }
def AffineNamesWrongFalsely : Prop := affineNamesRow.holds Tryz.pinned (OpenSpec.ofChange affineNamesWrong)

/-- 'rafterlaw05.AffineCanons': WHATEVER THE INPUT: true; the input reads as it did. -/
def affineCanonsSpec : ChangeSpec := { name := "affineCanons", fn := fun _ => fun
  | [d] => { results := [.lit (.bool true)], args := [d] }
  | _ => none }
def affineCanonsRow : OpenClaim := { program := "ytooefpkhacecnaagreatdoor", sum := "1370dcc8099d96dc0667977ce6015db8e7d7455b617341fb3ed0277f3523433a", func := "rafter/rafterlaw05.AffineCanons", spec := "affineCanons", inPlace := ["internal/abi.NoEscape"], unfollowed := true, recurses := true, named := ["unicode/utf8.first", "unicode/utf8.acceptRanges"], apart := false, laid := [("unicode/utf8.acceptRanges", laid_unicode_utf8_acceptRanges), ("unicode/utf8.first", laid_unicode_utf8_first)] }
def AffineCanonsSaid : Prop := affineCanonsRow.holds Tryz.pinned (OpenSpec.ofChange affineCanonsSpec)

/-- ITS FALSE NEIGHBOUR: 'it returns false'. Refute it at one input. -/
def affineCanonsWrong : ChangeSpec := { name := "affineCanons", fn := fun _ => fun
  | [d] => { results := [.lit (.bool false)], args := [d] }
  | _ => none }
def AffineCanonsWrongFalsely : Prop := affineCanonsRow.holds Tryz.pinned (OpenSpec.ofChange affineCanonsWrong)

/-- 'rafterlaw05.AffinePrints': WHATEVER THE INPUT: true; the input reads as it did. -/
def affinePrintsSpec : ChangeSpec := { name := "affinePrints", fn := fun _ => fun
  | [d1, d2] => { results := [.lit (.bool true)], args := [d1, d2] }
  | _ => none }
def affinePrintsRow : OpenClaim := { program := "ytooefpkhacecnaagreatdoor", sum := "1370dcc8099d96dc0667977ce6015db8e7d7455b617341fb3ed0277f3523433a", func := "rafter/rafterlaw05.AffinePrints", spec := "affinePrints", inPlace := ["internal/abi.NoEscape"], unfollowed := true, recurses := true, named := ["unicode/utf8.first", "unicode/utf8.acceptRanges"], apart := false, laid := [("unicode/utf8.acceptRanges", laid_unicode_utf8_acceptRanges), ("unicode/utf8.first", laid_unicode_utf8_first)] }
def AffinePrintsSaid : Prop := affinePrintsRow.holds Tryz.pinned (OpenSpec.ofChange affinePrintsSpec)

/-- ITS FALSE NEIGHBOUR: 'it returns false'. Refute it at one input. -/
def affinePrintsWrong : ChangeSpec := { name := "affinePrints", fn := fun _ => fun
  | [d1, d2] => { results := [.lit (.bool false)], args := [d1, d2] }
  | _ => none }
def AffinePrintsWrongFalsely : Prop := affinePrintsRow.holds Tryz.pinned (OpenSpec.ofChange affinePrintsWrong)

/-- 'rafterlaw05.AffineBack': WHATEVER THE INPUT: true; the input reads as it did. -/
def affineBackSpec : ChangeSpec := { name := "affineBack", fn := fun _ => fun
  | [d] => { results := [.lit (.bool true)], args := [d] }
  | _ => none }
def affineBackRow : OpenClaim := { program := "ytooefpkhacecnaagreatdoor", sum := "1370dcc8099d96dc0667977ce6015db8e7d7455b617341fb3ed0277f3523433a", func := "rafter/rafterlaw05.AffineBack", spec := "affineBack", inPlace := ["internal/abi.NoEscape"], unfollowed := true, recurses := true, named := ["unicode/utf8.first", "unicode/utf8.acceptRanges"], apart := false, laid := [("unicode/utf8.acceptRanges", laid_unicode_utf8_acceptRanges), ("unicode/utf8.first", laid_unicode_utf8_first)] }
def AffineBackSaid : Prop := affineBackRow.holds Tryz.pinned (OpenSpec.ofChange affineBackSpec)

/-- ITS FALSE NEIGHBOUR: 'it returns false'. Refute it at one input. -/
def affineBackWrong : ChangeSpec := { name := "affineBack", fn := fun _ => fun
  | [d] => { results := [.lit (.bool false)], args := [d] }
  | _ => none }
def AffineBackWrongFalsely : Prop := affineBackRow.holds Tryz.pinned (OpenSpec.ofChange affineBackWrong)

/-- 'rafterlaw05.AffineTurns': WHATEVER THE INPUT: true; the input reads as it did. -/
def affineTurnsSpec : ChangeSpec := { name := "affineTurns", fn := fun _ => fun
  | [d1, d2] => { results := [.lit (.bool true)], args := [d1, d2] }
  | _ => none }
def affineTurnsRow : OpenClaim := { program := "ytooefpkhacecnaagreatdoor", sum := "1370dcc8099d96dc0667977ce6015db8e7d7455b617341fb3ed0277f3523433a", func := "rafter/rafterlaw05.AffineTurns", spec := "affineTurns", inPlace := ["internal/abi.NoEscape"], unfollowed := true, recurses := true, named := ["unicode/utf8.first", "unicode/utf8.acceptRanges"], apart := false, laid := [("unicode/utf8.acceptRanges", laid_unicode_utf8_acceptRanges), ("unicode/utf8.first", laid_unicode_utf8_first)] }
def AffineTurnsSaid : Prop := affineTurnsRow.holds Tryz.pinned (OpenSpec.ofChange affineTurnsSpec)

/-- ITS FALSE NEIGHBOUR: 'it returns false'. Refute it at one input. -/
def affineTurnsWrong : ChangeSpec := { name := "affineTurns", fn := fun _ => fun
  | [d1, d2] => { results := [.lit (.bool false)], args := [d1, d2] }
  | _ => none }
def AffineTurnsWrongFalsely : Prop := affineTurnsRow.holds Tryz.pinned (OpenSpec.ofChange affineTurnsWrong)

/-- 'rafterlaw05.AffineBad': WHATEVER THE INPUT: true; the input reads as it did. -/
def affineBadSpec : ChangeSpec := { name := "affineBad", fn := fun _ => fun
  | [d1, d2, d3] => { results := [.lit (.bool true)], args := [d1, d2, d3] }
  | _ => none }
def affineBadRow : OpenClaim := { program := "ytooefpkhacecnaagreatdoor", sum := "1370dcc8099d96dc0667977ce6015db8e7d7455b617341fb3ed0277f3523433a", func := "rafter/rafterlaw05.AffineBad", spec := "affineBad", inPlace := ["internal/abi.NoEscape"], unfollowed := true, recurses := true, named := ["unicode/utf8.first", "unicode/utf8.acceptRanges"], apart := false, laid := [("unicode/utf8.acceptRanges", laid_unicode_utf8_acceptRanges), ("unicode/utf8.first", laid_unicode_utf8_first)] }
def AffineBadSaid : Prop := affineBadRow.holds Tryz.pinned (OpenSpec.ofChange affineBadSpec)

/-- ITS FALSE NEIGHBOUR: 'it returns false'. Refute it at one input. -/
def affineBadWrong : ChangeSpec := { name := "affineBad", fn := fun _ => fun
  | [d1, d2, d3] => { results := [.lit (.bool false)], args := [d1, d2, d3] }
  | _ => none }
def AffineBadWrongFalsely : Prop := affineBadRow.holds Tryz.pinned (OpenSpec.ofChange affineBadWrong)

/- THE SECOND FORM. 'bulk': how many values and letters a reading holds, each counted each time it is reached (what is shared counts as often as it is met; a slice's spare places count too). A statement '..UptoSaid' is the law's where the arguments, and the package variables that the reading takes, are together of bulk at most 1048576: NARROWER than '..Said'. Prove '..Said' where nothing that the law and all that it calls make is longer than what came in: it says more and counts as full. Else prove '..UptoSaid'. A law counts once. -/
mutual
def uptoBulk {H : Type} : DataW H → Nat
  | .lit (.string bytes) => bytes.length + 1
  | .lit _ => 1
  | .nil => 1
  | .ptr d => uptoBulk d + 1
  | .slice elems spare => uptoBulkAll elems + uptoBulkAll spare + 1
  | .agg parts => uptoBulkAll parts + 1
  | .iface _ d => uptoBulk d + 1
  | .map entries => uptoBulkEntries entries + 1
  | .held _ => 1
def uptoBulkAll {H : Type} : List (DataW H) → Nat
  | [] => 0
  | d :: r => uptoBulk d + uptoBulkAll r
def uptoBulkEntries {H : Type} : List (Lit × DataW H) → Nat
  | [] => 0
  | x :: r => uptoBulkEntry x + uptoBulkEntries r
def uptoBulkEntry {H : Type} : Lit × DataW H → Nat
  | (.string bytes, d) => bytes.length + uptoBulk d + 1
  | (_, d) => uptoBulk d + 1
 end
def uptoSmall : (H : Type) → List (DataW H) → Bool := fun _ ds => decide (uptoBulkAll ds ≤ 1048576)
def OpenSpec.upto (s : _root_.Go.ChangeSpec) : _root_.Go.OpenSpec := { _root_.Go.OpenSpec.ofChange s with cond := some uptoSmall }

/-- 'rafterlaw05.AffineNames', WHERE WHAT IT READS IS OF BULK AT MOST 1048576: true; the input reads as it did. -/
def affineNamesUptoRow : OpenClaim := { program := "ytooefpkhacecnaagreatdoor", sum := "1370dcc8099d96dc0667977ce6015db8e7d7455b617341fb3ed0277f3523433a", func := "rafter/rafterlaw05.AffineNames", spec := "affineNames", inPlace := ["internal/abi.NoEscape"], unfollowed := true, recurses := true, named := ["unicode/utf8.first", "unicode/utf8.acceptRanges"], apart := false, laid := [("unicode/utf8.acceptRanges", laid_unicode_utf8_acceptRanges), ("unicode/utf8.first", laid_unicode_utf8_first)], narrowed := true }
def AffineNamesUptoSaid : Prop := affineNamesUptoRow.holds Tryz.pinned (OpenSpec.upto affineNamesSpec)

/-- 'rafterlaw05.AffineCanons', WHERE WHAT IT READS IS OF BULK AT MOST 1048576: true; the input reads as it did. -/
def affineCanonsUptoRow : OpenClaim := { program := "ytooefpkhacecnaagreatdoor", sum := "1370dcc8099d96dc0667977ce6015db8e7d7455b617341fb3ed0277f3523433a", func := "rafter/rafterlaw05.AffineCanons", spec := "affineCanons", inPlace := ["internal/abi.NoEscape"], unfollowed := true, recurses := true, named := ["unicode/utf8.first", "unicode/utf8.acceptRanges"], apart := false, laid := [("unicode/utf8.acceptRanges", laid_unicode_utf8_acceptRanges), ("unicode/utf8.first", laid_unicode_utf8_first)], narrowed := true }
def AffineCanonsUptoSaid : Prop := affineCanonsUptoRow.holds Tryz.pinned (OpenSpec.upto affineCanonsSpec)

/-- 'rafterlaw05.AffinePrints', WHERE WHAT IT READS IS OF BULK AT MOST 1048576: true; the input reads as it did. -/
def affinePrintsUptoRow : OpenClaim := { program := "ytooefpkhacecnaagreatdoor", sum := "1370dcc8099d96dc0667977ce6015db8e7d7455b617341fb3ed0277f3523433a", func := "rafter/rafterlaw05.AffinePrints", spec := "affinePrints", inPlace := ["internal/abi.NoEscape"], unfollowed := true, recurses := true, named := ["unicode/utf8.first", "unicode/utf8.acceptRanges"], apart := false, laid := [("unicode/utf8.acceptRanges", laid_unicode_utf8_acceptRanges), ("unicode/utf8.first", laid_unicode_utf8_first)], narrowed := true }
def AffinePrintsUptoSaid : Prop := affinePrintsUptoRow.holds Tryz.pinned (OpenSpec.upto affinePrintsSpec)

/-- 'rafterlaw05.AffineBack', WHERE WHAT IT READS IS OF BULK AT MOST 1048576: true; the input reads as it did. -/
def affineBackUptoRow : OpenClaim := { program := "ytooefpkhacecnaagreatdoor", sum := "1370dcc8099d96dc0667977ce6015db8e7d7455b617341fb3ed0277f3523433a", func := "rafter/rafterlaw05.AffineBack", spec := "affineBack", inPlace := ["internal/abi.NoEscape"], unfollowed := true, recurses := true, named := ["unicode/utf8.first", "unicode/utf8.acceptRanges"], apart := false, laid := [("unicode/utf8.acceptRanges", laid_unicode_utf8_acceptRanges), ("unicode/utf8.first", laid_unicode_utf8_first)], narrowed := true }
def AffineBackUptoSaid : Prop := affineBackUptoRow.holds Tryz.pinned (OpenSpec.upto affineBackSpec)

/-- 'rafterlaw05.AffineTurns', WHERE WHAT IT READS IS OF BULK AT MOST 1048576: true; the input reads as it did. -/
def affineTurnsUptoRow : OpenClaim := { program := "ytooefpkhacecnaagreatdoor", sum := "1370dcc8099d96dc0667977ce6015db8e7d7455b617341fb3ed0277f3523433a", func := "rafter/rafterlaw05.AffineTurns", spec := "affineTurns", inPlace := ["internal/abi.NoEscape"], unfollowed := true, recurses := true, named := ["unicode/utf8.first", "unicode/utf8.acceptRanges"], apart := false, laid := [("unicode/utf8.acceptRanges", laid_unicode_utf8_acceptRanges), ("unicode/utf8.first", laid_unicode_utf8_first)], narrowed := true }
def AffineTurnsUptoSaid : Prop := affineTurnsUptoRow.holds Tryz.pinned (OpenSpec.upto affineTurnsSpec)

/-- 'rafterlaw05.AffineBad', WHERE WHAT IT READS IS OF BULK AT MOST 1048576: true; the input reads as it did. -/
def affineBadUptoRow : OpenClaim := { program := "ytooefpkhacecnaagreatdoor", sum := "1370dcc8099d96dc0667977ce6015db8e7d7455b617341fb3ed0277f3523433a", func := "rafter/rafterlaw05.AffineBad", spec := "affineBad", inPlace := ["internal/abi.NoEscape"], unfollowed := true, recurses := true, named := ["unicode/utf8.first", "unicode/utf8.acceptRanges"], apart := false, laid := [("unicode/utf8.acceptRanges", laid_unicode_utf8_acceptRanges), ("unicode/utf8.first", laid_unicode_utf8_first)], narrowed := true }
def AffineBadUptoSaid : Prop := affineBadUptoRow.holds Tryz.pinned (OpenSpec.upto affineBadSpec)

end Rows
end Go.Proofs.YtooefpkhacecnaaGreatDoor

/-
  DERIVED. GIVEN WITH THE SEED: THE CARDS: each row of YtmglhfbpgbjbkaaGreatDoorRows.lean that lists a variable, with what it lists TIED to the program's text (the seventh form; the later family's looks); each row that meets fmt, with fmt's text TOLD by the authors' own Lean function (tested against real Go, not proved from fmt's source: count such statements apart). THE CARD IS WHAT COUNTS. Prove the row's statement (the work); the ties are given (YtmglhfbpgbjbkaaGreatDoorTie.lean); close each card by the builder's one call (the guide's Derived/Test/ToyasCard.lean, 'card_holds'). Laid BY PROGRAM, IN A SANDBOX (cutbox-door.mjs). By AI agents, Wed Nov 11 2026. No macro, syntax, notation, axiom, sorry.
-/
import Derived.Test.YtmglhfbpgbjbkaaGreatDoorRows
import GoSem.ClaimSeven
namespace Go.Proofs.YtmglhfbpgbjbkaaGreatDoor
namespace Rows

/-- THE TIED CARD OF 'rafterlaw05.AffineTurns'. -/
def affineTurnsCard : Claim7 := { stood := { row := affineTurnsRow, standIns := [], harness := (true, "098a8d411f9430bf3040d5802c31d09241ca126ce0da9b4a0a43218ad09c5a99"), looks := false }, kinds := [], alts := [], laidByText := true, laidKinds := [.data, .pinned], laidTests := true, laidLooks := .later }
def AffineTurnsCardSaid : Prop := Claim7.holds Tryz.pinned (.plain (OpenSpec.ofChange affineTurnsSpec)) affineTurnsCard

/-- THE TIED CARD OF 'rafterlaw05.AffineBack'. -/
def affineBackCard : Claim7 := { stood := { row := affineBackRow, standIns := [], harness := (true, "098a8d411f9430bf3040d5802c31d09241ca126ce0da9b4a0a43218ad09c5a99"), looks := false }, kinds := [], alts := [], laidByText := true, laidKinds := [.data, .pinned], laidTests := true, laidLooks := .later }
def AffineBackCardSaid : Prop := Claim7.holds Tryz.pinned (.plain (OpenSpec.ofChange affineBackSpec)) affineBackCard

/-- THE TIED CARD OF 'rafterlaw05.AffineReads'. -/
def affineReadsCard : Claim7 := { stood := { row := affineReadsRow, standIns := [], harness := (true, "098a8d411f9430bf3040d5802c31d09241ca126ce0da9b4a0a43218ad09c5a99"), looks := false }, kinds := [], alts := [], laidByText := true, laidKinds := [.data, .pinned], laidTests := true, laidLooks := .later }
def AffineReadsCardSaid : Prop := Claim7.holds Tryz.pinned (.plain (OpenSpec.ofChange affineReadsSpec)) affineReadsCard

/-- THE SECOND FORM's CARD OF 'rafterlaw05.AffineTurns'. -/
def affineTurnsUptoCard : Claim7 := { stood := { row := affineTurnsUptoRow, standIns := [], harness := (true, "098a8d411f9430bf3040d5802c31d09241ca126ce0da9b4a0a43218ad09c5a99"), looks := false }, kinds := [], alts := [], laidByText := true, laidKinds := [.data, .pinned], laidTests := true, laidLooks := .later }
def AffineTurnsUptoCardSaid : Prop := Claim7.holds Tryz.pinned (.plain (OpenSpec.upto affineTurnsSpec)) affineTurnsUptoCard

/-- THE SECOND FORM's CARD OF 'rafterlaw05.AffineBack'. -/
def affineBackUptoCard : Claim7 := { stood := { row := affineBackUptoRow, standIns := [], harness := (true, "098a8d411f9430bf3040d5802c31d09241ca126ce0da9b4a0a43218ad09c5a99"), looks := false }, kinds := [], alts := [], laidByText := true, laidKinds := [.data, .pinned], laidTests := true, laidLooks := .later }
def AffineBackUptoCardSaid : Prop := Claim7.holds Tryz.pinned (.plain (OpenSpec.upto affineBackSpec)) affineBackUptoCard

/-- THE SECOND FORM's CARD OF 'rafterlaw05.AffineReads'. -/
def affineReadsUptoCard : Claim7 := { stood := { row := affineReadsUptoRow, standIns := [], harness := (true, "098a8d411f9430bf3040d5802c31d09241ca126ce0da9b4a0a43218ad09c5a99"), looks := false }, kinds := [], alts := [], laidByText := true, laidKinds := [.data, .pinned], laidTests := true, laidLooks := .later }
def AffineReadsUptoCardSaid : Prop := Claim7.holds Tryz.pinned (.plain (OpenSpec.upto affineReadsSpec)) affineReadsUptoCard
end Rows
end Go.Proofs.YtmglhfbpgbjbkaaGreatDoor

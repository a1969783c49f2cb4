/-
  DERIVED. GIVEN WITH THE SEED: THE CARDS: each row of YtaofpigilgapgabGreatDoorRows.lean that lists a variable, with what it lists TIED to the program's text (the seventh form; the later family's looks); each row that meets fmt, with fmt's text TOLD by the authors' own Lean function (tested against real Go, not proved from fmt's source: count such statements apart). THE CARD IS WHAT COUNTS. Prove the row's statement (the work); the ties are given (YtaofpigilgapgabGreatDoorTie.lean); close each card by the builder's one call (the guide's Derived/Test/ToyasCard.lean, 'card_holds'). Laid BY PROGRAM, IN A SANDBOX (cutbox-door.mjs). By AI agents, Wed Nov 11 2026. No macro, syntax, notation, axiom, sorry.
-/
import Derived.Test.YtaofpigilgapgabGreatDoorRows
import GoSem.ClaimSeven
namespace Go.Proofs.YtaofpigilgapgabGreatDoor
namespace Rows

/-- THE TIED CARD OF 'rafterlaw05.AffineBack'. -/
def affineBackCard : Claim7 := { stood := { row := affineBackRow, standIns := [], harness := (true, "014ce4656ebd13a66ac630e63e44097be24169ab9d861644a8f75a21dc4498d7"), looks := false }, kinds := [], alts := [], laidByText := true, laidKinds := [.data, .pinned], laidTests := true, laidLooks := .later }
def AffineBackCardSaid : Prop := Claim7.holds Tryz.pinned (.plain (OpenSpec.ofChange affineBackSpec)) affineBackCard

/-- THE TIED CARD OF 'rafterlaw05.AffineTurns'. -/
def affineTurnsCard : Claim7 := { stood := { row := affineTurnsRow, standIns := [], harness := (true, "014ce4656ebd13a66ac630e63e44097be24169ab9d861644a8f75a21dc4498d7"), looks := false }, kinds := [], alts := [], laidByText := true, laidKinds := [.data, .pinned], laidTests := true, laidLooks := .later }
def AffineTurnsCardSaid : Prop := Claim7.holds Tryz.pinned (.plain (OpenSpec.ofChange affineTurnsSpec)) affineTurnsCard

/-- THE TIED CARD OF 'rafterlaw05.AffineLines'. -/
def affineLinesCard : Claim7 := { stood := { row := affineLinesRow, standIns := [], harness := (true, "014ce4656ebd13a66ac630e63e44097be24169ab9d861644a8f75a21dc4498d7"), looks := false }, kinds := [], alts := [], laidByText := true, laidKinds := [.data, .pinned], laidTests := true, laidLooks := .later }
def AffineLinesCardSaid : Prop := Claim7.holds Tryz.pinned (.plain (OpenSpec.ofChange affineLinesSpec)) affineLinesCard

/-- THE TIED CARD OF 'rafterlaw05.AffineBad'. -/
def affineBadCard : Claim7 := { stood := { row := affineBadRow, standIns := [], harness := (true, "014ce4656ebd13a66ac630e63e44097be24169ab9d861644a8f75a21dc4498d7"), looks := false }, kinds := [], alts := [], laidByText := true, laidKinds := [.data, .pinned], laidTests := true, laidLooks := .later }
def AffineBadCardSaid : Prop := Claim7.holds Tryz.pinned (.plain (OpenSpec.ofChange affineBadSpec)) affineBadCard

/-- THE SECOND FORM's CARD OF 'rafterlaw05.AffineBack'. -/
def affineBackUptoCard : Claim7 := { stood := { row := affineBackUptoRow, standIns := [], harness := (true, "014ce4656ebd13a66ac630e63e44097be24169ab9d861644a8f75a21dc4498d7"), looks := false }, kinds := [], alts := [], laidByText := true, laidKinds := [.data, .pinned], laidTests := true, laidLooks := .later }
def AffineBackUptoCardSaid : Prop := Claim7.holds Tryz.pinned (.plain (OpenSpec.upto affineBackSpec)) affineBackUptoCard

/-- THE SECOND FORM's CARD OF 'rafterlaw05.AffineTurns'. -/
def affineTurnsUptoCard : Claim7 := { stood := { row := affineTurnsUptoRow, standIns := [], harness := (true, "014ce4656ebd13a66ac630e63e44097be24169ab9d861644a8f75a21dc4498d7"), looks := false }, kinds := [], alts := [], laidByText := true, laidKinds := [.data, .pinned], laidTests := true, laidLooks := .later }
def AffineTurnsUptoCardSaid : Prop := Claim7.holds Tryz.pinned (.plain (OpenSpec.upto affineTurnsSpec)) affineTurnsUptoCard

/-- THE SECOND FORM's CARD OF 'rafterlaw05.AffineLines'. -/
def affineLinesUptoCard : Claim7 := { stood := { row := affineLinesUptoRow, standIns := [], harness := (true, "014ce4656ebd13a66ac630e63e44097be24169ab9d861644a8f75a21dc4498d7"), looks := false }, kinds := [], alts := [], laidByText := true, laidKinds := [.data, .pinned], laidTests := true, laidLooks := .later }
def AffineLinesUptoCardSaid : Prop := Claim7.holds Tryz.pinned (.plain (OpenSpec.upto affineLinesSpec)) affineLinesUptoCard

/-- THE SECOND FORM's CARD OF 'rafterlaw05.AffineBad'. -/
def affineBadUptoCard : Claim7 := { stood := { row := affineBadUptoRow, standIns := [], harness := (true, "014ce4656ebd13a66ac630e63e44097be24169ab9d861644a8f75a21dc4498d7"), looks := false }, kinds := [], alts := [], laidByText := true, laidKinds := [.data, .pinned], laidTests := true, laidLooks := .later }
def AffineBadUptoCardSaid : Prop := Claim7.holds Tryz.pinned (.plain (OpenSpec.upto affineBadSpec)) affineBadUptoCard
end Rows
end Go.Proofs.YtaofpigilgapgabGreatDoor

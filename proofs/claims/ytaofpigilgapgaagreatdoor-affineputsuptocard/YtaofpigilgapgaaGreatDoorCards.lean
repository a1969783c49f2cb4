/-
  DERIVED. GIVEN WITH THE SEED: THE CARDS: each row of YtaofpigilgapgaaGreatDoorRows.lean that lists a variable, with what it lists TIED to the program's text (the seventh form; the later family's looks); each row that meets fmt, with fmt's text TOLD by the authors' own Lean function (tested against real Go, not proved from fmt's source: count such statements apart). THE CARD IS WHAT COUNTS. Prove the row's statement (the work); the ties are given (YtaofpigilgapgaaGreatDoorTie.lean); close each card by the builder's one call (the guide's Derived/Test/ToyasCard.lean, 'card_holds'). Laid BY PROGRAM, IN A SANDBOX (cutbox-door.mjs). By AI agents, Wed Nov 11 2026. No macro, syntax, notation, axiom, sorry.
-/
import Derived.Test.YtaofpigilgapgaaGreatDoorRows
import GoSem.ClaimSeven
namespace Go.Proofs.YtaofpigilgapgaaGreatDoor
namespace Rows

/-- THE TIED CARD OF 'rafterlaw05.AffineNames'. -/
def affineNamesCard : Claim7 := { stood := { row := affineNamesRow, standIns := [], harness := (true, "061a1e5915f2a7526befb0ead8033ff802b24e38c775c3a16c7ebf9e83a31830"), looks := false }, kinds := [], alts := [], laidByText := true, laidKinds := [.data, .pinned], laidTests := true, laidLooks := .later }
def AffineNamesCardSaid : Prop := Claim7.holds Tryz.pinned (.plain (OpenSpec.ofChange affineNamesSpec)) affineNamesCard

/-- THE TIED CARD OF 'rafterlaw05.AffineCanons'. -/
def affineCanonsCard : Claim7 := { stood := { row := affineCanonsRow, standIns := [], harness := (true, "061a1e5915f2a7526befb0ead8033ff802b24e38c775c3a16c7ebf9e83a31830"), looks := false }, kinds := [], alts := [], laidByText := true, laidKinds := [.data, .pinned], laidTests := true, laidLooks := .later }
def AffineCanonsCardSaid : Prop := Claim7.holds Tryz.pinned (.plain (OpenSpec.ofChange affineCanonsSpec)) affineCanonsCard

/-- THE TIED CARD OF 'rafterlaw05.AffineReads'. -/
def affineReadsCard : Claim7 := { stood := { row := affineReadsRow, standIns := [], harness := (true, "061a1e5915f2a7526befb0ead8033ff802b24e38c775c3a16c7ebf9e83a31830"), looks := false }, kinds := [], alts := [], laidByText := true, laidKinds := [.data, .pinned], laidTests := true, laidLooks := .later }
def AffineReadsCardSaid : Prop := Claim7.holds Tryz.pinned (.plain (OpenSpec.ofChange affineReadsSpec)) affineReadsCard

/-- THE TIED CARD OF 'rafterlaw05.AffinePrints'. -/
def affinePrintsCard : Claim7 := { stood := { row := affinePrintsRow, standIns := [], harness := (true, "061a1e5915f2a7526befb0ead8033ff802b24e38c775c3a16c7ebf9e83a31830"), looks := false }, kinds := [], alts := [], laidByText := true, laidKinds := [.data, .pinned], laidTests := true, laidLooks := .later }
def AffinePrintsCardSaid : Prop := Claim7.holds Tryz.pinned (.plain (OpenSpec.ofChange affinePrintsSpec)) affinePrintsCard

/-- THE TIED CARD OF 'rafterlaw05.AffineReckons'. -/
def affineReckonsCard : Claim7 := { stood := { row := affineReckonsRow, standIns := [], harness := (true, "061a1e5915f2a7526befb0ead8033ff802b24e38c775c3a16c7ebf9e83a31830"), looks := false }, kinds := [], alts := [], laidByText := true, laidKinds := [.data, .pinned], laidTests := true, laidLooks := .later }
def AffineReckonsCardSaid : Prop := Claim7.holds Tryz.pinned (.plain (OpenSpec.ofChange affineReckonsSpec)) affineReckonsCard

/-- THE TIED CARD OF 'rafterlaw05.AffinePuts'. -/
def affinePutsCard : Claim7 := { stood := { row := affinePutsRow, standIns := [], harness := (true, "061a1e5915f2a7526befb0ead8033ff802b24e38c775c3a16c7ebf9e83a31830"), looks := false }, kinds := [], alts := [], laidByText := true, laidKinds := [.data, .pinned], laidTests := true, laidLooks := .later }
def AffinePutsCardSaid : Prop := Claim7.holds Tryz.pinned (.plain (OpenSpec.ofChange affinePutsSpec)) affinePutsCard

/-- THE SECOND FORM's CARD OF 'rafterlaw05.AffineNames'. -/
def affineNamesUptoCard : Claim7 := { stood := { row := affineNamesUptoRow, standIns := [], harness := (true, "061a1e5915f2a7526befb0ead8033ff802b24e38c775c3a16c7ebf9e83a31830"), looks := false }, kinds := [], alts := [], laidByText := true, laidKinds := [.data, .pinned], laidTests := true, laidLooks := .later }
def AffineNamesUptoCardSaid : Prop := Claim7.holds Tryz.pinned (.plain (OpenSpec.upto affineNamesSpec)) affineNamesUptoCard

/-- THE SECOND FORM's CARD OF 'rafterlaw05.AffineCanons'. -/
def affineCanonsUptoCard : Claim7 := { stood := { row := affineCanonsUptoRow, standIns := [], harness := (true, "061a1e5915f2a7526befb0ead8033ff802b24e38c775c3a16c7ebf9e83a31830"), looks := false }, kinds := [], alts := [], laidByText := true, laidKinds := [.data, .pinned], laidTests := true, laidLooks := .later }
def AffineCanonsUptoCardSaid : Prop := Claim7.holds Tryz.pinned (.plain (OpenSpec.upto affineCanonsSpec)) affineCanonsUptoCard

/-- THE SECOND FORM's CARD OF 'rafterlaw05.AffineReads'. -/
def affineReadsUptoCard : Claim7 := { stood := { row := affineReadsUptoRow, standIns := [], harness := (true, "061a1e5915f2a7526befb0ead8033ff802b24e38c775c3a16c7ebf9e83a31830"), looks := false }, kinds := [], alts := [], laidByText := true, laidKinds := [.data, .pinned], laidTests := true, laidLooks := .later }
def AffineReadsUptoCardSaid : Prop := Claim7.holds Tryz.pinned (.plain (OpenSpec.upto affineReadsSpec)) affineReadsUptoCard

/-- THE SECOND FORM's CARD OF 'rafterlaw05.AffinePrints'. -/
def affinePrintsUptoCard : Claim7 := { stood := { row := affinePrintsUptoRow, standIns := [], harness := (true, "061a1e5915f2a7526befb0ead8033ff802b24e38c775c3a16c7ebf9e83a31830"), looks := false }, kinds := [], alts := [], laidByText := true, laidKinds := [.data, .pinned], laidTests := true, laidLooks := .later }
def AffinePrintsUptoCardSaid : Prop := Claim7.holds Tryz.pinned (.plain (OpenSpec.upto affinePrintsSpec)) affinePrintsUptoCard

/-- THE SECOND FORM's CARD OF 'rafterlaw05.AffineReckons'. -/
def affineReckonsUptoCard : Claim7 := { stood := { row := affineReckonsUptoRow, standIns := [], harness := (true, "061a1e5915f2a7526befb0ead8033ff802b24e38c775c3a16c7ebf9e83a31830"), looks := false }, kinds := [], alts := [], laidByText := true, laidKinds := [.data, .pinned], laidTests := true, laidLooks := .later }
def AffineReckonsUptoCardSaid : Prop := Claim7.holds Tryz.pinned (.plain (OpenSpec.upto affineReckonsSpec)) affineReckonsUptoCard

/-- THE SECOND FORM's CARD OF 'rafterlaw05.AffinePuts'. -/
def affinePutsUptoCard : Claim7 := { stood := { row := affinePutsUptoRow, standIns := [], harness := (true, "061a1e5915f2a7526befb0ead8033ff802b24e38c775c3a16c7ebf9e83a31830"), looks := false }, kinds := [], alts := [], laidByText := true, laidKinds := [.data, .pinned], laidTests := true, laidLooks := .later }
def AffinePutsUptoCardSaid : Prop := Claim7.holds Tryz.pinned (.plain (OpenSpec.upto affinePutsSpec)) affinePutsUptoCard
end Rows
end Go.Proofs.YtaofpigilgapgaaGreatDoor

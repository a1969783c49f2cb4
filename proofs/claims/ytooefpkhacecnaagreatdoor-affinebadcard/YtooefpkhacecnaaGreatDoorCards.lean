/-
  DERIVED. GIVEN WITH THE SEED: THE CARDS: each row of YtooefpkhacecnaaGreatDoorRows.lean that lists a variable, with what it lists TIED to the program's text (the seventh form; the later family's looks); each row that meets fmt, with fmt's text TOLD by the authors' own Lean function (tested against real Go, not proved from fmt's source: count such statements apart). THE CARD IS WHAT COUNTS. Prove the row's statement (the work); the ties are given (YtooefpkhacecnaaGreatDoorTie.lean); close each card by the builder's one call (the guide's Derived/Test/ToyasCard.lean, 'card_holds'). Laid BY PROGRAM, IN A SANDBOX (cutbox-door.mjs). By AI agents, Wed Nov 11 2026. No macro, syntax, notation, axiom, sorry.
-/
import Derived.Test.YtooefpkhacecnaaGreatDoorRows
import GoSem.ClaimSeven
namespace Go.Proofs.YtooefpkhacecnaaGreatDoor
namespace Rows

/-- THE TIED CARD OF 'rafterlaw05.AffineNames'. -/
def affineNamesCard : Claim7 := { stood := { row := affineNamesRow, standIns := [], harness := (true, "ff55318c9afb9c354efdf9cc7a4afb4ccd4715189ee9bff178a8f3ecea1b1653"), looks := false }, kinds := [], alts := [], laidByText := true, laidKinds := [.data, .pinned], laidTests := true, laidLooks := .later }
def AffineNamesCardSaid : Prop := Claim7.holds Tryz.pinned (.plain (OpenSpec.ofChange affineNamesSpec)) affineNamesCard

/-- THE TIED CARD OF 'rafterlaw05.AffineCanons'. -/
def affineCanonsCard : Claim7 := { stood := { row := affineCanonsRow, standIns := [], harness := (true, "ff55318c9afb9c354efdf9cc7a4afb4ccd4715189ee9bff178a8f3ecea1b1653"), looks := false }, kinds := [], alts := [], laidByText := true, laidKinds := [.data, .pinned], laidTests := true, laidLooks := .later }
def AffineCanonsCardSaid : Prop := Claim7.holds Tryz.pinned (.plain (OpenSpec.ofChange affineCanonsSpec)) affineCanonsCard

/-- THE TIED CARD OF 'rafterlaw05.AffinePrints'. -/
def affinePrintsCard : Claim7 := { stood := { row := affinePrintsRow, standIns := [], harness := (true, "ff55318c9afb9c354efdf9cc7a4afb4ccd4715189ee9bff178a8f3ecea1b1653"), looks := false }, kinds := [], alts := [], laidByText := true, laidKinds := [.data, .pinned], laidTests := true, laidLooks := .later }
def AffinePrintsCardSaid : Prop := Claim7.holds Tryz.pinned (.plain (OpenSpec.ofChange affinePrintsSpec)) affinePrintsCard

/-- THE TIED CARD OF 'rafterlaw05.AffineBack'. -/
def affineBackCard : Claim7 := { stood := { row := affineBackRow, standIns := [], harness := (true, "ff55318c9afb9c354efdf9cc7a4afb4ccd4715189ee9bff178a8f3ecea1b1653"), looks := false }, kinds := [], alts := [], laidByText := true, laidKinds := [.data, .pinned], laidTests := true, laidLooks := .later }
def AffineBackCardSaid : Prop := Claim7.holds Tryz.pinned (.plain (OpenSpec.ofChange affineBackSpec)) affineBackCard

/-- THE TIED CARD OF 'rafterlaw05.AffineTurns'. -/
def affineTurnsCard : Claim7 := { stood := { row := affineTurnsRow, standIns := [], harness := (true, "ff55318c9afb9c354efdf9cc7a4afb4ccd4715189ee9bff178a8f3ecea1b1653"), looks := false }, kinds := [], alts := [], laidByText := true, laidKinds := [.data, .pinned], laidTests := true, laidLooks := .later }
def AffineTurnsCardSaid : Prop := Claim7.holds Tryz.pinned (.plain (OpenSpec.ofChange affineTurnsSpec)) affineTurnsCard

/-- THE TIED CARD OF 'rafterlaw05.AffineBad'. -/
def affineBadCard : Claim7 := { stood := { row := affineBadRow, standIns := [], harness := (true, "ff55318c9afb9c354efdf9cc7a4afb4ccd4715189ee9bff178a8f3ecea1b1653"), looks := false }, kinds := [], alts := [], laidByText := true, laidKinds := [.data, .pinned], laidTests := true, laidLooks := .later }
def AffineBadCardSaid : Prop := Claim7.holds Tryz.pinned (.plain (OpenSpec.ofChange affineBadSpec)) affineBadCard

/-- THE SECOND FORM's CARD OF 'rafterlaw05.AffineNames'. -/
def affineNamesUptoCard : Claim7 := { stood := { row := affineNamesUptoRow, standIns := [], harness := (true, "ff55318c9afb9c354efdf9cc7a4afb4ccd4715189ee9bff178a8f3ecea1b1653"), looks := false }, kinds := [], alts := [], laidByText := true, laidKinds := [.data, .pinned], laidTests := true, laidLooks := .later }
def AffineNamesUptoCardSaid : Prop := Claim7.holds Tryz.pinned (.plain (OpenSpec.upto affineNamesSpec)) affineNamesUptoCard

/-- THE SECOND FORM's CARD OF 'rafterlaw05.AffineCanons'. -/
def affineCanonsUptoCard : Claim7 := { stood := { row := affineCanonsUptoRow, standIns := [], harness := (true, "ff55318c9afb9c354efdf9cc7a4afb4ccd4715189ee9bff178a8f3ecea1b1653"), looks := false }, kinds := [], alts := [], laidByText := true, laidKinds := [.data, .pinned], laidTests := true, laidLooks := .later }
def AffineCanonsUptoCardSaid : Prop := Claim7.holds Tryz.pinned (.plain (OpenSpec.upto affineCanonsSpec)) affineCanonsUptoCard

/-- THE SECOND FORM's CARD OF 'rafterlaw05.AffinePrints'. -/
def affinePrintsUptoCard : Claim7 := { stood := { row := affinePrintsUptoRow, standIns := [], harness := (true, "ff55318c9afb9c354efdf9cc7a4afb4ccd4715189ee9bff178a8f3ecea1b1653"), looks := false }, kinds := [], alts := [], laidByText := true, laidKinds := [.data, .pinned], laidTests := true, laidLooks := .later }
def AffinePrintsUptoCardSaid : Prop := Claim7.holds Tryz.pinned (.plain (OpenSpec.upto affinePrintsSpec)) affinePrintsUptoCard

/-- THE SECOND FORM's CARD OF 'rafterlaw05.AffineBack'. -/
def affineBackUptoCard : Claim7 := { stood := { row := affineBackUptoRow, standIns := [], harness := (true, "ff55318c9afb9c354efdf9cc7a4afb4ccd4715189ee9bff178a8f3ecea1b1653"), looks := false }, kinds := [], alts := [], laidByText := true, laidKinds := [.data, .pinned], laidTests := true, laidLooks := .later }
def AffineBackUptoCardSaid : Prop := Claim7.holds Tryz.pinned (.plain (OpenSpec.upto affineBackSpec)) affineBackUptoCard

/-- THE SECOND FORM's CARD OF 'rafterlaw05.AffineTurns'. -/
def affineTurnsUptoCard : Claim7 := { stood := { row := affineTurnsUptoRow, standIns := [], harness := (true, "ff55318c9afb9c354efdf9cc7a4afb4ccd4715189ee9bff178a8f3ecea1b1653"), looks := false }, kinds := [], alts := [], laidByText := true, laidKinds := [.data, .pinned], laidTests := true, laidLooks := .later }
def AffineTurnsUptoCardSaid : Prop := Claim7.holds Tryz.pinned (.plain (OpenSpec.upto affineTurnsSpec)) affineTurnsUptoCard

/-- THE SECOND FORM's CARD OF 'rafterlaw05.AffineBad'. -/
def affineBadUptoCard : Claim7 := { stood := { row := affineBadUptoRow, standIns := [], harness := (true, "ff55318c9afb9c354efdf9cc7a4afb4ccd4715189ee9bff178a8f3ecea1b1653"), looks := false }, kinds := [], alts := [], laidByText := true, laidKinds := [.data, .pinned], laidTests := true, laidLooks := .later }
def AffineBadUptoCardSaid : Prop := Claim7.holds Tryz.pinned (.plain (OpenSpec.upto affineBadSpec)) affineBadUptoCard
end Rows
end Go.Proofs.YtooefpkhacecnaaGreatDoor

/-
  DERIVED. GIVEN WITH THE SEED: THE CARDS: each row of YtdjgifcmhafppaaGreatDoorRows.lean that lists a variable, with what it lists TIED to the program's text (the seventh form; the later family's looks); each row that meets fmt, with fmt's text TOLD by the authors' own Lean function (tested against real Go, not proved from fmt's source: count such statements apart). THE CARD IS WHAT COUNTS. Prove the row's statement (the work); the ties are given (YtdjgifcmhafppaaGreatDoorTie.lean); close each card by the builder's one call (the guide's Derived/Test/ToyasCard.lean, 'card_holds'). Laid BY PROGRAM, IN A SANDBOX (cutbox-door.mjs). By AI agents, Wed Nov 11 2026. No macro, syntax, notation, axiom, sorry.
-/
import Derived.Test.YtdjgifcmhafppaaGreatDoorRows
import GoSem.ClaimSeven
namespace Go.Proofs.YtdjgifcmhafppaaGreatDoor
namespace Rows

/-- THE TIED CARD OF 'rafterlaw05.AffineBack'. -/
def affineBackCard : Claim7 := { stood := { row := affineBackRow, standIns := [], harness := (true, "bcc23edc49c3aa740ec5540d091f746f8cd761b3c56cffafb72bc801ca2f7e7c"), looks := false }, kinds := [], alts := [], laidByText := true, laidKinds := [.data, .pinned], laidTests := true, laidLooks := .later }
def AffineBackCardSaid : Prop := Claim7.holds Tryz.pinned (.plain (OpenSpec.ofChange affineBackSpec)) affineBackCard

/-- THE TIED CARD OF 'rafterlaw05.AffineTurns'. -/
def affineTurnsCard : Claim7 := { stood := { row := affineTurnsRow, standIns := [], harness := (true, "bcc23edc49c3aa740ec5540d091f746f8cd761b3c56cffafb72bc801ca2f7e7c"), looks := false }, kinds := [], alts := [], laidByText := true, laidKinds := [.data, .pinned], laidTests := true, laidLooks := .later }
def AffineTurnsCardSaid : Prop := Claim7.holds Tryz.pinned (.plain (OpenSpec.ofChange affineTurnsSpec)) affineTurnsCard

/-- THE SECOND FORM's CARD OF 'rafterlaw05.AffineBack'. -/
def affineBackUptoCard : Claim7 := { stood := { row := affineBackUptoRow, standIns := [], harness := (true, "bcc23edc49c3aa740ec5540d091f746f8cd761b3c56cffafb72bc801ca2f7e7c"), looks := false }, kinds := [], alts := [], laidByText := true, laidKinds := [.data, .pinned], laidTests := true, laidLooks := .later }
def AffineBackUptoCardSaid : Prop := Claim7.holds Tryz.pinned (.plain (OpenSpec.upto affineBackSpec)) affineBackUptoCard

/-- THE SECOND FORM's CARD OF 'rafterlaw05.AffineTurns'. -/
def affineTurnsUptoCard : Claim7 := { stood := { row := affineTurnsUptoRow, standIns := [], harness := (true, "bcc23edc49c3aa740ec5540d091f746f8cd761b3c56cffafb72bc801ca2f7e7c"), looks := false }, kinds := [], alts := [], laidByText := true, laidKinds := [.data, .pinned], laidTests := true, laidLooks := .later }
def AffineTurnsUptoCardSaid : Prop := Claim7.holds Tryz.pinned (.plain (OpenSpec.upto affineTurnsSpec)) affineTurnsUptoCard
end Rows
end Go.Proofs.YtdjgifcmhafppaaGreatDoor

/-
  DERIVED. GIVEN WITH THE SEED: THE CARDS: each row of YtnodfclgkalbfabDoorRows.lean that lists a variable, with what it lists TIED to the program's text (the seventh form; the later family's looks); each row that meets fmt, with fmt's text TOLD by the authors' own Lean function (tested against real Go, not proved from fmt's source: count such statements apart). THE CARD IS WHAT COUNTS. Prove the row's statement (the work); the ties are given (YtnodfclgkalbfabDoorTie.lean); close each card by the builder's one call (the guide's Derived/Test/ToyasCard.lean, 'card_holds'). Laid BY PROGRAM, IN A SANDBOX (cutbox-door.mjs). By AI agents, Wed Nov 11 2026. No macro, syntax, notation, axiom, sorry.
-/
import Derived.Test.YtnodfclgkalbfabDoorRows
import GoSem.ClaimSeven
namespace Go.Proofs.YtnodfclgkalbfabDoor
namespace Rows

/-- THE TIED CARD OF 'rafterlaw04.GlyphAgain'. -/
def glyphAgainCard : Claim7 := { stood := { row := glyphAgainRow, standIns := [], harness := (true, "129711de6add87599b2edcf8116a8d039a806cb0623006b262e3782332b17e07"), looks := false }, kinds := [], alts := [], laidByText := true, laidKinds := [.data, .pinned], laidTests := true, laidLooks := .later }
def GlyphAgainCardSaid : Prop := Claim7.holds Tryd.pinned (.plain (OpenSpec.ofChange glyphAgainSpec)) glyphAgainCard

/-- THE TIED CARD OF 'rafterlaw04.GlyphSigns'. -/
def glyphSignsCard : Claim7 := { stood := { row := glyphSignsRow, standIns := [], harness := (true, "129711de6add87599b2edcf8116a8d039a806cb0623006b262e3782332b17e07"), looks := false }, kinds := [], alts := [], laidByText := true, laidKinds := [.data, .pinned], laidTests := true, laidLooks := .later }
def GlyphSignsCardSaid : Prop := Claim7.holds Tryd.pinned (.plain (OpenSpec.ofChange glyphSignsSpec)) glyphSignsCard

/-- THE TIED CARD OF 'rafterlaw04.GlyphFirst'. -/
def glyphFirstCard : Claim7 := { stood := { row := glyphFirstRow, standIns := [], harness := (true, "129711de6add87599b2edcf8116a8d039a806cb0623006b262e3782332b17e07"), looks := false }, kinds := [], alts := [], laidByText := true, laidKinds := [.data, .pinned], laidTests := true, laidLooks := .later }
def GlyphFirstCardSaid : Prop := Claim7.holds Tryd.pinned (.plain (OpenSpec.ofChange glyphFirstSpec)) glyphFirstCard

/-- THE TIED CARD OF 'rafterlaw04.GlyphLimits'. -/
def glyphLimitsCard : Claim7 := { stood := { row := glyphLimitsRow, standIns := [], harness := (true, "129711de6add87599b2edcf8116a8d039a806cb0623006b262e3782332b17e07"), looks := false }, kinds := [], alts := [], laidByText := true, laidKinds := [.data, .pinned], laidTests := true, laidLooks := .later }
def GlyphLimitsCardSaid : Prop := Claim7.holds Tryd.pinned (.plain (OpenSpec.ofChange glyphLimitsSpec)) glyphLimitsCard

/-- THE SECOND FORM's CARD OF 'rafterlaw04.GlyphAgain'. -/
def glyphAgainUptoCard : Claim7 := { stood := { row := glyphAgainUptoRow, standIns := [], harness := (true, "129711de6add87599b2edcf8116a8d039a806cb0623006b262e3782332b17e07"), looks := false }, kinds := [], alts := [], laidByText := true, laidKinds := [.data, .pinned], laidTests := true, laidLooks := .later }
def GlyphAgainUptoCardSaid : Prop := Claim7.holds Tryd.pinned (.plain (OpenSpec.upto glyphAgainSpec)) glyphAgainUptoCard

/-- THE SECOND FORM's CARD OF 'rafterlaw04.GlyphSigns'. -/
def glyphSignsUptoCard : Claim7 := { stood := { row := glyphSignsUptoRow, standIns := [], harness := (true, "129711de6add87599b2edcf8116a8d039a806cb0623006b262e3782332b17e07"), looks := false }, kinds := [], alts := [], laidByText := true, laidKinds := [.data, .pinned], laidTests := true, laidLooks := .later }
def GlyphSignsUptoCardSaid : Prop := Claim7.holds Tryd.pinned (.plain (OpenSpec.upto glyphSignsSpec)) glyphSignsUptoCard

/-- THE SECOND FORM's CARD OF 'rafterlaw04.GlyphFirst'. -/
def glyphFirstUptoCard : Claim7 := { stood := { row := glyphFirstUptoRow, standIns := [], harness := (true, "129711de6add87599b2edcf8116a8d039a806cb0623006b262e3782332b17e07"), looks := false }, kinds := [], alts := [], laidByText := true, laidKinds := [.data, .pinned], laidTests := true, laidLooks := .later }
def GlyphFirstUptoCardSaid : Prop := Claim7.holds Tryd.pinned (.plain (OpenSpec.upto glyphFirstSpec)) glyphFirstUptoCard

/-- THE SECOND FORM's CARD OF 'rafterlaw04.GlyphLimits'. -/
def glyphLimitsUptoCard : Claim7 := { stood := { row := glyphLimitsUptoRow, standIns := [], harness := (true, "129711de6add87599b2edcf8116a8d039a806cb0623006b262e3782332b17e07"), looks := false }, kinds := [], alts := [], laidByText := true, laidKinds := [.data, .pinned], laidTests := true, laidLooks := .later }
def GlyphLimitsUptoCardSaid : Prop := Claim7.holds Tryd.pinned (.plain (OpenSpec.upto glyphLimitsSpec)) glyphLimitsUptoCard
end Rows
end Go.Proofs.YtnodfclgkalbfabDoor

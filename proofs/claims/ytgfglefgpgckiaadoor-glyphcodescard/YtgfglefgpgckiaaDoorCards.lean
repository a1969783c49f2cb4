/-
  DERIVED. GIVEN WITH THE SEED: THE CARDS: each row of YtgfglefgpgckiaaDoorRows.lean that lists a variable, with what it lists TIED to the program's text (the seventh form; the later family's looks); each row that meets fmt, with fmt's text TOLD by the authors' own Lean function (tested against real Go, not proved from fmt's source: count such statements apart). THE CARD IS WHAT COUNTS. Prove the row's statement (the work); the ties are given (YtgfglefgpgckiaaDoorTie.lean); close each card by the builder's one call (the guide's Derived/Test/ToyasCard.lean, 'card_holds'). Laid BY PROGRAM, IN A SANDBOX (cutbox-door.mjs). By AI agents, Wed Nov 11 2026. No macro, syntax, notation, axiom, sorry.
-/
import Derived.Test.YtgfglefgpgckiaaDoorRows
import GoSem.ClaimSeven
namespace Go.Proofs.YtgfglefgpgckiaaDoor
namespace Rows

/-- THE TIED CARD OF 'rafterlaw04.GlyphScans'. -/
def glyphScansCard : Claim7 := { stood := { row := glyphScansRow, standIns := [], harness := (true, "cada9dd5d19f20981c98a6c2b84d70965cd008451b0468868a504b7c4834867d"), looks := false }, kinds := [], alts := [], laidByText := true, laidKinds := [.data, .pinned], laidTests := true, laidLooks := .later }
def GlyphScansCardSaid : Prop := Claim7.holds Tryd.pinned (.plain (OpenSpec.ofChange glyphScansSpec)) glyphScansCard

/-- THE TIED CARD OF 'rafterlaw04.GlyphNames'. -/
def glyphNamesCard : Claim7 := { stood := { row := glyphNamesRow, standIns := [], harness := (true, "cada9dd5d19f20981c98a6c2b84d70965cd008451b0468868a504b7c4834867d"), looks := false }, kinds := [], alts := [], laidByText := true, laidKinds := [.data, .pinned], laidTests := true, laidLooks := .later }
def GlyphNamesCardSaid : Prop := Claim7.holds Tryd.pinned (.plain (OpenSpec.ofChange glyphNamesSpec)) glyphNamesCard

/-- THE TIED CARD OF 'rafterlaw04.GlyphCodes'. -/
def glyphCodesCard : Claim7 := { stood := { row := glyphCodesRow, standIns := [], harness := (true, "cada9dd5d19f20981c98a6c2b84d70965cd008451b0468868a504b7c4834867d"), looks := false }, kinds := [], alts := [], laidByText := true, laidKinds := [.data, .pinned], laidTests := true, laidLooks := .later }
def GlyphCodesCardSaid : Prop := Claim7.holds Tryd.pinned (.plain (OpenSpec.ofChange glyphCodesSpec)) glyphCodesCard

/-- THE TIED CARD OF 'rafterlaw04.GlyphAgain'. -/
def glyphAgainCard : Claim7 := { stood := { row := glyphAgainRow, standIns := [], harness := (true, "cada9dd5d19f20981c98a6c2b84d70965cd008451b0468868a504b7c4834867d"), looks := false }, kinds := [], alts := [], laidByText := true, laidKinds := [.data, .pinned], laidTests := true, laidLooks := .later }
def GlyphAgainCardSaid : Prop := Claim7.holds Tryd.pinned (.plain (OpenSpec.ofChange glyphAgainSpec)) glyphAgainCard

/-- THE TIED CARD OF 'rafterlaw04.GlyphSigns'. -/
def glyphSignsCard : Claim7 := { stood := { row := glyphSignsRow, standIns := [], harness := (true, "cada9dd5d19f20981c98a6c2b84d70965cd008451b0468868a504b7c4834867d"), looks := false }, kinds := [], alts := [], laidByText := true, laidKinds := [.data, .pinned], laidTests := true, laidLooks := .later }
def GlyphSignsCardSaid : Prop := Claim7.holds Tryd.pinned (.plain (OpenSpec.ofChange glyphSignsSpec)) glyphSignsCard

/-- THE TIED CARD OF 'rafterlaw04.GlyphLimits'. -/
def glyphLimitsCard : Claim7 := { stood := { row := glyphLimitsRow, standIns := [], harness := (true, "cada9dd5d19f20981c98a6c2b84d70965cd008451b0468868a504b7c4834867d"), looks := false }, kinds := [], alts := [], laidByText := true, laidKinds := [.data, .pinned], laidTests := true, laidLooks := .later }
def GlyphLimitsCardSaid : Prop := Claim7.holds Tryd.pinned (.plain (OpenSpec.ofChange glyphLimitsSpec)) glyphLimitsCard

/-- THE SECOND FORM's CARD OF 'rafterlaw04.GlyphScans'. -/
def glyphScansUptoCard : Claim7 := { stood := { row := glyphScansUptoRow, standIns := [], harness := (true, "cada9dd5d19f20981c98a6c2b84d70965cd008451b0468868a504b7c4834867d"), looks := false }, kinds := [], alts := [], laidByText := true, laidKinds := [.data, .pinned], laidTests := true, laidLooks := .later }
def GlyphScansUptoCardSaid : Prop := Claim7.holds Tryd.pinned (.plain (OpenSpec.upto glyphScansSpec)) glyphScansUptoCard

/-- THE SECOND FORM's CARD OF 'rafterlaw04.GlyphNames'. -/
def glyphNamesUptoCard : Claim7 := { stood := { row := glyphNamesUptoRow, standIns := [], harness := (true, "cada9dd5d19f20981c98a6c2b84d70965cd008451b0468868a504b7c4834867d"), looks := false }, kinds := [], alts := [], laidByText := true, laidKinds := [.data, .pinned], laidTests := true, laidLooks := .later }
def GlyphNamesUptoCardSaid : Prop := Claim7.holds Tryd.pinned (.plain (OpenSpec.upto glyphNamesSpec)) glyphNamesUptoCard

/-- THE SECOND FORM's CARD OF 'rafterlaw04.GlyphCodes'. -/
def glyphCodesUptoCard : Claim7 := { stood := { row := glyphCodesUptoRow, standIns := [], harness := (true, "cada9dd5d19f20981c98a6c2b84d70965cd008451b0468868a504b7c4834867d"), looks := false }, kinds := [], alts := [], laidByText := true, laidKinds := [.data, .pinned], laidTests := true, laidLooks := .later }
def GlyphCodesUptoCardSaid : Prop := Claim7.holds Tryd.pinned (.plain (OpenSpec.upto glyphCodesSpec)) glyphCodesUptoCard

/-- THE SECOND FORM's CARD OF 'rafterlaw04.GlyphAgain'. -/
def glyphAgainUptoCard : Claim7 := { stood := { row := glyphAgainUptoRow, standIns := [], harness := (true, "cada9dd5d19f20981c98a6c2b84d70965cd008451b0468868a504b7c4834867d"), looks := false }, kinds := [], alts := [], laidByText := true, laidKinds := [.data, .pinned], laidTests := true, laidLooks := .later }
def GlyphAgainUptoCardSaid : Prop := Claim7.holds Tryd.pinned (.plain (OpenSpec.upto glyphAgainSpec)) glyphAgainUptoCard

/-- THE SECOND FORM's CARD OF 'rafterlaw04.GlyphSigns'. -/
def glyphSignsUptoCard : Claim7 := { stood := { row := glyphSignsUptoRow, standIns := [], harness := (true, "cada9dd5d19f20981c98a6c2b84d70965cd008451b0468868a504b7c4834867d"), looks := false }, kinds := [], alts := [], laidByText := true, laidKinds := [.data, .pinned], laidTests := true, laidLooks := .later }
def GlyphSignsUptoCardSaid : Prop := Claim7.holds Tryd.pinned (.plain (OpenSpec.upto glyphSignsSpec)) glyphSignsUptoCard

/-- THE SECOND FORM's CARD OF 'rafterlaw04.GlyphLimits'. -/
def glyphLimitsUptoCard : Claim7 := { stood := { row := glyphLimitsUptoRow, standIns := [], harness := (true, "cada9dd5d19f20981c98a6c2b84d70965cd008451b0468868a504b7c4834867d"), looks := false }, kinds := [], alts := [], laidByText := true, laidKinds := [.data, .pinned], laidTests := true, laidLooks := .later }
def GlyphLimitsUptoCardSaid : Prop := Claim7.holds Tryd.pinned (.plain (OpenSpec.upto glyphLimitsSpec)) glyphLimitsUptoCard
end Rows
end Go.Proofs.YtgfglefgpgckiaaDoor

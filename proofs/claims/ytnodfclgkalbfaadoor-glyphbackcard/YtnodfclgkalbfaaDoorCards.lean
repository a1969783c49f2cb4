/-
  DERIVED. GIVEN WITH THE SEED: THE CARDS: each row of YtnodfclgkalbfaaDoorRows.lean that lists a variable, with what it lists TIED to the program's text (the seventh form; the later family's looks); each row that meets fmt, with fmt's text TOLD by the authors' own Lean function (tested against real Go, not proved from fmt's source: count such statements apart). THE CARD IS WHAT COUNTS. Prove the row's statement (the work); the ties are given (YtnodfclgkalbfaaDoorTie.lean); close each card by the builder's one call (the guide's Derived/Test/ToyasCard.lean, 'card_holds'). Laid BY PROGRAM, IN A SANDBOX (cutbox-door.mjs). By AI agents, Wed Nov 11 2026. No macro, syntax, notation, axiom, sorry.
-/
import Derived.Test.YtnodfclgkalbfaaDoorRows
import GoSem.ClaimSeven
namespace Go.Proofs.YtnodfclgkalbfaaDoor
namespace Rows

/-- THE TIED CARD OF 'rafterlaw04.GlyphClasses'. -/
def glyphClassesCard : Claim7 := { stood := { row := glyphClassesRow, standIns := [], harness := (true, "540e0af3810ddff0d6b357cd585ced5078a64f68a744a8cb49edc179d8a9749a"), looks := false }, kinds := [], alts := [], laidByText := true, laidKinds := [.data, .pinned], laidTests := true, laidLooks := .later }
def GlyphClassesCardSaid : Prop := Claim7.holds Tryd.pinned (.plain (OpenSpec.ofChange glyphClassesSpec)) glyphClassesCard

/-- THE TIED CARD OF 'rafterlaw04.GlyphReads'. -/
def glyphReadsCard : Claim7 := { stood := { row := glyphReadsRow, standIns := [], harness := (true, "540e0af3810ddff0d6b357cd585ced5078a64f68a744a8cb49edc179d8a9749a"), looks := false }, kinds := [], alts := [], laidByText := true, laidKinds := [.data, .pinned], laidTests := true, laidLooks := .later }
def GlyphReadsCardSaid : Prop := Claim7.holds Tryd.pinned (.plain (OpenSpec.ofChange glyphReadsSpec)) glyphReadsCard

/-- THE TIED CARD OF 'rafterlaw04.GlyphScans'. -/
def glyphScansCard : Claim7 := { stood := { row := glyphScansRow, standIns := [], harness := (true, "540e0af3810ddff0d6b357cd585ced5078a64f68a744a8cb49edc179d8a9749a"), looks := false }, kinds := [], alts := [], laidByText := true, laidKinds := [.data, .pinned], laidTests := true, laidLooks := .later }
def GlyphScansCardSaid : Prop := Claim7.holds Tryd.pinned (.plain (OpenSpec.ofChange glyphScansSpec)) glyphScansCard

/-- THE TIED CARD OF 'rafterlaw04.GlyphNames'. -/
def glyphNamesCard : Claim7 := { stood := { row := glyphNamesRow, standIns := [], harness := (true, "540e0af3810ddff0d6b357cd585ced5078a64f68a744a8cb49edc179d8a9749a"), looks := false }, kinds := [], alts := [], laidByText := true, laidKinds := [.data, .pinned], laidTests := true, laidLooks := .later }
def GlyphNamesCardSaid : Prop := Claim7.holds Tryd.pinned (.plain (OpenSpec.ofChange glyphNamesSpec)) glyphNamesCard

/-- THE TIED CARD OF 'rafterlaw04.GlyphBack'. -/
def glyphBackCard : Claim7 := { stood := { row := glyphBackRow, standIns := [], harness := (true, "540e0af3810ddff0d6b357cd585ced5078a64f68a744a8cb49edc179d8a9749a"), looks := false }, kinds := [], alts := [], laidByText := true, laidKinds := [.data, .pinned], laidTests := true, laidLooks := .later }
def GlyphBackCardSaid : Prop := Claim7.holds Tryd.pinned (.plain (OpenSpec.ofChange glyphBackSpec)) glyphBackCard

/-- THE TIED CARD OF 'rafterlaw04.GlyphCodes'. -/
def glyphCodesCard : Claim7 := { stood := { row := glyphCodesRow, standIns := [], harness := (true, "540e0af3810ddff0d6b357cd585ced5078a64f68a744a8cb49edc179d8a9749a"), looks := false }, kinds := [], alts := [], laidByText := true, laidKinds := [.data, .pinned], laidTests := true, laidLooks := .later }
def GlyphCodesCardSaid : Prop := Claim7.holds Tryd.pinned (.plain (OpenSpec.ofChange glyphCodesSpec)) glyphCodesCard

/-- THE SECOND FORM's CARD OF 'rafterlaw04.GlyphClasses'. -/
def glyphClassesUptoCard : Claim7 := { stood := { row := glyphClassesUptoRow, standIns := [], harness := (true, "540e0af3810ddff0d6b357cd585ced5078a64f68a744a8cb49edc179d8a9749a"), looks := false }, kinds := [], alts := [], laidByText := true, laidKinds := [.data, .pinned], laidTests := true, laidLooks := .later }
def GlyphClassesUptoCardSaid : Prop := Claim7.holds Tryd.pinned (.plain (OpenSpec.upto glyphClassesSpec)) glyphClassesUptoCard

/-- THE SECOND FORM's CARD OF 'rafterlaw04.GlyphReads'. -/
def glyphReadsUptoCard : Claim7 := { stood := { row := glyphReadsUptoRow, standIns := [], harness := (true, "540e0af3810ddff0d6b357cd585ced5078a64f68a744a8cb49edc179d8a9749a"), looks := false }, kinds := [], alts := [], laidByText := true, laidKinds := [.data, .pinned], laidTests := true, laidLooks := .later }
def GlyphReadsUptoCardSaid : Prop := Claim7.holds Tryd.pinned (.plain (OpenSpec.upto glyphReadsSpec)) glyphReadsUptoCard

/-- THE SECOND FORM's CARD OF 'rafterlaw04.GlyphScans'. -/
def glyphScansUptoCard : Claim7 := { stood := { row := glyphScansUptoRow, standIns := [], harness := (true, "540e0af3810ddff0d6b357cd585ced5078a64f68a744a8cb49edc179d8a9749a"), looks := false }, kinds := [], alts := [], laidByText := true, laidKinds := [.data, .pinned], laidTests := true, laidLooks := .later }
def GlyphScansUptoCardSaid : Prop := Claim7.holds Tryd.pinned (.plain (OpenSpec.upto glyphScansSpec)) glyphScansUptoCard

/-- THE SECOND FORM's CARD OF 'rafterlaw04.GlyphNames'. -/
def glyphNamesUptoCard : Claim7 := { stood := { row := glyphNamesUptoRow, standIns := [], harness := (true, "540e0af3810ddff0d6b357cd585ced5078a64f68a744a8cb49edc179d8a9749a"), looks := false }, kinds := [], alts := [], laidByText := true, laidKinds := [.data, .pinned], laidTests := true, laidLooks := .later }
def GlyphNamesUptoCardSaid : Prop := Claim7.holds Tryd.pinned (.plain (OpenSpec.upto glyphNamesSpec)) glyphNamesUptoCard

/-- THE SECOND FORM's CARD OF 'rafterlaw04.GlyphBack'. -/
def glyphBackUptoCard : Claim7 := { stood := { row := glyphBackUptoRow, standIns := [], harness := (true, "540e0af3810ddff0d6b357cd585ced5078a64f68a744a8cb49edc179d8a9749a"), looks := false }, kinds := [], alts := [], laidByText := true, laidKinds := [.data, .pinned], laidTests := true, laidLooks := .later }
def GlyphBackUptoCardSaid : Prop := Claim7.holds Tryd.pinned (.plain (OpenSpec.upto glyphBackSpec)) glyphBackUptoCard

/-- THE SECOND FORM's CARD OF 'rafterlaw04.GlyphCodes'. -/
def glyphCodesUptoCard : Claim7 := { stood := { row := glyphCodesUptoRow, standIns := [], harness := (true, "540e0af3810ddff0d6b357cd585ced5078a64f68a744a8cb49edc179d8a9749a"), looks := false }, kinds := [], alts := [], laidByText := true, laidKinds := [.data, .pinned], laidTests := true, laidLooks := .later }
def GlyphCodesUptoCardSaid : Prop := Claim7.holds Tryd.pinned (.plain (OpenSpec.upto glyphCodesSpec)) glyphCodesUptoCard
end Rows
end Go.Proofs.YtnodfclgkalbfaaDoor

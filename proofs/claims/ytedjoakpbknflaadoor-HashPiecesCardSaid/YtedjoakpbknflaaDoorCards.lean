/-
  DERIVED. GIVEN WITH THE SEED: THE CARDS: each row of YtedjoakpbknflaaDoorRows.lean that lists a variable, with what it lists TIED to the program's text (the seventh form; the later family's looks); each row that meets fmt, with fmt's text TOLD by the authors' own Lean function (tested against real Go, not proved from fmt's source: count such statements apart). THE CARD IS WHAT COUNTS. Prove the row's statement (the work); the ties are given (YtedjoakpbknflaaDoorTie.lean); close each card by the builder's one call (the guide's Derived/Test/ToyasCard.lean, 'card_holds'). Laid BY PROGRAM, IN A SANDBOX (cutbox-door.mjs). By AI agents, Wed Nov 11 2026. No macro, syntax, notation, axiom, sorry.
-/
import Derived.Test.YtedjoakpbknflaaDoorRows
import GoSem.ClaimSeven
namespace Go.Proofs.YtedjoakpbknflaaDoor
namespace Rows

/-- THE TIED CARD OF 'churnlaw01.HashExamples'. -/
def hashExamplesCard : Claim7 := { stood := { row := hashExamplesRow, standIns := [], harness := (true, "a506e23008ea9212d55db62dd3815cd2832bea4e5665f9cf49a2dd675e7d6fb0"), looks := false }, kinds := [], alts := [], laidByText := true, laidKinds := [.data, .data], laidTests := true, laidLooks := .later }
def HashExamplesCardSaid : Prop := Claim7.holds Tryd.pinned (.plain (OpenSpec.ofChange hashExamplesSpec)) hashExamplesCard

/-- THE TIED CARD OF 'churnlaw01.HashSums'. -/
def hashSumsCard : Claim7 := { stood := { row := hashSumsRow, standIns := [], harness := (true, "a506e23008ea9212d55db62dd3815cd2832bea4e5665f9cf49a2dd675e7d6fb0"), looks := false }, kinds := [], alts := [], laidByText := true, laidKinds := [.data, .data], laidTests := true, laidLooks := .later }
def HashSumsCardSaid : Prop := Claim7.holds Tryd.pinned (.plain (OpenSpec.ofChange hashSumsSpec)) hashSumsCard

/-- THE TIED CARD OF 'churnlaw01.HashScripts'. -/
def hashScriptsCard : Claim7 := { stood := { row := hashScriptsRow, standIns := [], harness := (true, "a506e23008ea9212d55db62dd3815cd2832bea4e5665f9cf49a2dd675e7d6fb0"), looks := false }, kinds := [], alts := [], laidByText := true, laidKinds := [.data, .data], laidTests := true, laidLooks := .later }
def HashScriptsCardSaid : Prop := Claim7.holds Tryd.pinned (.plain (OpenSpec.ofChange hashScriptsSpec)) hashScriptsCard

/-- THE TIED CARD OF 'churnlaw01.HashPieces'. -/
def hashPiecesCard : Claim7 := { stood := { row := hashPiecesRow, standIns := [], harness := (true, "a506e23008ea9212d55db62dd3815cd2832bea4e5665f9cf49a2dd675e7d6fb0"), looks := false }, kinds := [], alts := [], laidByText := true, laidKinds := [.data, .data], laidTests := true, laidLooks := .later }
def HashPiecesCardSaid : Prop := Claim7.holds Tryd.pinned (.plain (OpenSpec.ofChange hashPiecesSpec)) hashPiecesCard

/-- THE TIED CARD OF 'churnlaw02.MacTags'. -/
def macTagsCard : Claim7 := { stood := { row := macTagsRow, standIns := [], harness := (true, "a506e23008ea9212d55db62dd3815cd2832bea4e5665f9cf49a2dd675e7d6fb0"), looks := false }, kinds := [], alts := [], laidByText := true, laidKinds := [.data, .data], laidTests := true, laidLooks := .later }
def MacTagsCardSaid : Prop := Claim7.holds Tryd.pinned (.plain (OpenSpec.ofChange macTagsSpec)) macTagsCard

/-- THE TIED CARD OF 'churnlaw02.MacExpands'. -/
def macExpandsCard : Claim7 := { stood := { row := macExpandsRow, standIns := [], harness := (true, "a506e23008ea9212d55db62dd3815cd2832bea4e5665f9cf49a2dd675e7d6fb0"), looks := false }, kinds := [], alts := [], laidByText := true, laidKinds := [.data, .data], laidTests := true, laidLooks := .later }
def MacExpandsCardSaid : Prop := Claim7.holds Tryd.pinned (.plain (OpenSpec.ofChange macExpandsSpec)) macExpandsCard

/-- THE SECOND FORM's CARD OF 'churnlaw01.HashExamples'. -/
def hashExamplesUptoCard : Claim7 := { stood := { row := hashExamplesUptoRow, standIns := [], harness := (true, "a506e23008ea9212d55db62dd3815cd2832bea4e5665f9cf49a2dd675e7d6fb0"), looks := false }, kinds := [], alts := [], laidByText := true, laidKinds := [.data, .data], laidTests := true, laidLooks := .later }
def HashExamplesUptoCardSaid : Prop := Claim7.holds Tryd.pinned (.plain (OpenSpec.upto hashExamplesSpec)) hashExamplesUptoCard

/-- THE SECOND FORM's CARD OF 'churnlaw01.HashSums'. -/
def hashSumsUptoCard : Claim7 := { stood := { row := hashSumsUptoRow, standIns := [], harness := (true, "a506e23008ea9212d55db62dd3815cd2832bea4e5665f9cf49a2dd675e7d6fb0"), looks := false }, kinds := [], alts := [], laidByText := true, laidKinds := [.data, .data], laidTests := true, laidLooks := .later }
def HashSumsUptoCardSaid : Prop := Claim7.holds Tryd.pinned (.plain (OpenSpec.upto hashSumsSpec)) hashSumsUptoCard

/-- THE SECOND FORM's CARD OF 'churnlaw01.HashScripts'. -/
def hashScriptsUptoCard : Claim7 := { stood := { row := hashScriptsUptoRow, standIns := [], harness := (true, "a506e23008ea9212d55db62dd3815cd2832bea4e5665f9cf49a2dd675e7d6fb0"), looks := false }, kinds := [], alts := [], laidByText := true, laidKinds := [.data, .data], laidTests := true, laidLooks := .later }
def HashScriptsUptoCardSaid : Prop := Claim7.holds Tryd.pinned (.plain (OpenSpec.upto hashScriptsSpec)) hashScriptsUptoCard

/-- THE SECOND FORM's CARD OF 'churnlaw01.HashPieces'. -/
def hashPiecesUptoCard : Claim7 := { stood := { row := hashPiecesUptoRow, standIns := [], harness := (true, "a506e23008ea9212d55db62dd3815cd2832bea4e5665f9cf49a2dd675e7d6fb0"), looks := false }, kinds := [], alts := [], laidByText := true, laidKinds := [.data, .data], laidTests := true, laidLooks := .later }
def HashPiecesUptoCardSaid : Prop := Claim7.holds Tryd.pinned (.plain (OpenSpec.upto hashPiecesSpec)) hashPiecesUptoCard

/-- THE SECOND FORM's CARD OF 'churnlaw02.MacTags'. -/
def macTagsUptoCard : Claim7 := { stood := { row := macTagsUptoRow, standIns := [], harness := (true, "a506e23008ea9212d55db62dd3815cd2832bea4e5665f9cf49a2dd675e7d6fb0"), looks := false }, kinds := [], alts := [], laidByText := true, laidKinds := [.data, .data], laidTests := true, laidLooks := .later }
def MacTagsUptoCardSaid : Prop := Claim7.holds Tryd.pinned (.plain (OpenSpec.upto macTagsSpec)) macTagsUptoCard

/-- THE SECOND FORM's CARD OF 'churnlaw02.MacExpands'. -/
def macExpandsUptoCard : Claim7 := { stood := { row := macExpandsUptoRow, standIns := [], harness := (true, "a506e23008ea9212d55db62dd3815cd2832bea4e5665f9cf49a2dd675e7d6fb0"), looks := false }, kinds := [], alts := [], laidByText := true, laidKinds := [.data, .data], laidTests := true, laidLooks := .later }
def MacExpandsUptoCardSaid : Prop := Claim7.holds Tryd.pinned (.plain (OpenSpec.upto macExpandsSpec)) macExpandsUptoCard
end Rows
end Go.Proofs.YtedjoakpbknflaaDoor

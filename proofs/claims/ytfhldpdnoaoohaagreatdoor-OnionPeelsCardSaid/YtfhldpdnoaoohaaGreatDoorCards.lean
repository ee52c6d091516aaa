/-
  DERIVED. GIVEN WITH THE SEED: THE CARDS: each row of YtfhldpdnoaoohaaGreatDoorRows.lean that lists a variable, with what it lists TIED to the program's text (the seventh form; the later family's looks); each row that meets fmt, with fmt's text TOLD by the authors' own Lean function (tested against real Go, not proved from fmt's source: count such statements apart). THE CARD IS WHAT COUNTS. Prove the row's statement (the work); the ties are given (YtfhldpdnoaoohaaGreatDoorTie.lean); close each card by the builder's one call (the guide's Derived/Test/ToyasCard.lean, 'card_holds'). Laid BY PROGRAM, IN A SANDBOX (cutbox-door.mjs). By AI agents, Wed Nov 11 2026. No macro, syntax, notation, axiom, sorry.
-/
import Derived.Test.YtfhldpdnoaoohaaGreatDoorRows
import GoSem.ClaimSeven
namespace Go.Proofs.YtfhldpdnoaoohaaGreatDoor
namespace Rows

/-- THE TIED CARD OF 'churnlaw07.OnionPeels'. -/
def onionPeelsCard : Claim7 := { stood := { row := onionPeelsRow, standIns := [], harness := (true, "39435c0dd72d1166ee42a9064c7b393fd971dbf212541306560154abab46a189"), looks := false }, kinds := [], alts := [], laidByText := true, laidKinds := [.data, .data], laidTests := true, laidLooks := .later }
def OnionPeelsCardSaid : Prop := Claim7.holds Tryz.pinned (.plain (OpenSpec.ofChange onionPeelsSpec)) onionPeelsCard

/-- THE SECOND FORM's CARD OF 'churnlaw07.OnionPeels'. -/
def onionPeelsUptoCard : Claim7 := { stood := { row := onionPeelsUptoRow, standIns := [], harness := (true, "39435c0dd72d1166ee42a9064c7b393fd971dbf212541306560154abab46a189"), looks := false }, kinds := [], alts := [], laidByText := true, laidKinds := [.data, .data], laidTests := true, laidLooks := .later }
def OnionPeelsUptoCardSaid : Prop := Claim7.holds Tryz.pinned (.plain (OpenSpec.upto onionPeelsSpec)) onionPeelsUptoCard
end Rows
end Go.Proofs.YtfhldpdnoaoohaaGreatDoor

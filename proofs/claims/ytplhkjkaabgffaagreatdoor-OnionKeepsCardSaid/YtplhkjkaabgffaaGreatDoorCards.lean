/-
  DERIVED. GIVEN WITH THE SEED: THE CARDS: each row of YtplhkjkaabgffaaGreatDoorRows.lean that lists a variable, with what it lists TIED to the program's text (the seventh form; the later family's looks); each row that meets fmt, with fmt's text TOLD by the authors' own Lean function (tested against real Go, not proved from fmt's source: count such statements apart). THE CARD IS WHAT COUNTS. Prove the row's statement (the work); the ties are given (YtplhkjkaabgffaaGreatDoorTie.lean); close each card by the builder's one call (the guide's Derived/Test/ToyasCard.lean, 'card_holds'). Laid BY PROGRAM, IN A SANDBOX (cutbox-door.mjs). By AI agents, Wed Nov 11 2026. No macro, syntax, notation, axiom, sorry.
-/
import Derived.Test.YtplhkjkaabgffaaGreatDoorRows
import GoSem.ClaimSeven
namespace Go.Proofs.YtplhkjkaabgffaaGreatDoor
namespace Rows

/-- THE TIED CARD OF 'churnlaw07.OnionKeeps'. -/
def onionKeepsCard : Claim7 := { stood := { row := onionKeepsRow, standIns := [], harness := (true, "170fe040b1702bbbddd85b46e4f2dd808d5a11bab4c1f56eee7b40d4361a4ad0"), looks := false }, kinds := [], alts := [], laidByText := true, laidKinds := [.data, .data], laidTests := true, laidLooks := .later }
def OnionKeepsCardSaid : Prop := Claim7.holds Tryz.pinned (.plain (OpenSpec.ofChange onionKeepsSpec)) onionKeepsCard

/-- THE SECOND FORM's CARD OF 'churnlaw07.OnionKeeps'. -/
def onionKeepsUptoCard : Claim7 := { stood := { row := onionKeepsUptoRow, standIns := [], harness := (true, "170fe040b1702bbbddd85b46e4f2dd808d5a11bab4c1f56eee7b40d4361a4ad0"), looks := false }, kinds := [], alts := [], laidByText := true, laidKinds := [.data, .data], laidTests := true, laidLooks := .later }
def OnionKeepsUptoCardSaid : Prop := Claim7.holds Tryz.pinned (.plain (OpenSpec.upto onionKeepsSpec)) onionKeepsUptoCard
end Rows
end Go.Proofs.YtplhkjkaabgffaaGreatDoor

/-
  DERIVED. GIVEN WITH THE SEED: THE CARDS: each row of YteekoabgbjbabaaGreatDoorRows.lean that lists a variable, with what it lists TIED to the program's text (the seventh form; the later family's looks); each row that meets fmt, with fmt's text TOLD by the authors' own Lean function (tested against real Go, not proved from fmt's source: count such statements apart). THE CARD IS WHAT COUNTS. Prove the row's statement (the work); the ties are given (YteekoabgbjbabaaGreatDoorTie.lean); close each card by the builder's one call (the guide's Derived/Test/ToyasCard.lean, 'card_holds'). Laid BY PROGRAM, IN A SANDBOX (cutbox-door.mjs). By AI agents, Wed Nov 11 2026. No macro, syntax, notation, axiom, sorry.
-/
import Derived.Test.YteekoabgbjbabaaGreatDoorRows
import GoSem.ClaimSeven
namespace Go.Proofs.YteekoabgbjbabaaGreatDoor
namespace Rows

/-- THE TIED CARD OF 'churnlaw27.ReplyKeeps'. -/
def replyKeepsCard : Claim7 := { stood := { row := replyKeepsRow, standIns := [], harness := (true, "8a253c042068768611e8e29372e19712612e55fed4164da472acf007a4db2728"), looks := false }, kinds := [], alts := [], laidByText := true, laidKinds := [.data, .data], laidTests := true, laidLooks := .later }
def ReplyKeepsCardSaid : Prop := Claim7.holds Tryz.pinned (.plain (OpenSpec.ofChange replyKeepsSpec)) replyKeepsCard

/-- THE SECOND FORM's CARD OF 'churnlaw27.ReplyKeeps'. -/
def replyKeepsUptoCard : Claim7 := { stood := { row := replyKeepsUptoRow, standIns := [], harness := (true, "8a253c042068768611e8e29372e19712612e55fed4164da472acf007a4db2728"), looks := false }, kinds := [], alts := [], laidByText := true, laidKinds := [.data, .data], laidTests := true, laidLooks := .later }
def ReplyKeepsUptoCardSaid : Prop := Claim7.holds Tryz.pinned (.plain (OpenSpec.upto replyKeepsSpec)) replyKeepsUptoCard
end Rows
end Go.Proofs.YteekoabgbjbabaaGreatDoor

/-
  DERIVED. GIVEN WITH THE SEED: THE CARDS: each row of YtaiiomoajjhliaaDoorRows.lean that lists a variable, with what it lists TIED to the program's text (the seventh form; the later family's looks); each row that meets fmt, with fmt's text TOLD by the authors' own Lean function (tested against real Go, not proved from fmt's source: count such statements apart). THE CARD IS WHAT COUNTS. Prove the row's statement (the work); the ties are given (YtaiiomoajjhliaaDoorTie.lean); close each card by the builder's one call (the guide's Derived/Test/ToyasCard.lean, 'card_holds'). Laid BY PROGRAM, IN A SANDBOX (cutbox-door.mjs). By AI agents, Wed Nov 11 2026. No macro, syntax, notation, axiom, sorry.
-/
import Derived.Test.YtaiiomoajjhliaaDoorRows
import GoSem.ClaimSeven
namespace Go.Proofs.YtaiiomoajjhliaaDoor
namespace Rows

/-- THE TIED CARD OF 'churnlaw27.ReplyBack'. -/
def replyBackCard : Claim7 := { stood := { row := replyBackRow, standIns := [], harness := (true, "947a306fd45f3c90e5b75edb98572c945244467e8e0a26e4eb53a17b4edf28da"), looks := false }, kinds := [], alts := [], laidByText := true, laidKinds := [.data, .data], laidTests := true, laidLooks := .later }
def ReplyBackCardSaid : Prop := Claim7.holds Tryd.pinned (.plain (OpenSpec.ofChange replyBackSpec)) replyBackCard

/-- THE TIED CARD OF 'churnlaw27.ReplyHops'. -/
def replyHopsCard : Claim7 := { stood := { row := replyHopsRow, standIns := [], harness := (true, "947a306fd45f3c90e5b75edb98572c945244467e8e0a26e4eb53a17b4edf28da"), looks := false }, kinds := [], alts := [], laidByText := true, laidKinds := [.data, .data], laidTests := true, laidLooks := .later }
def ReplyHopsCardSaid : Prop := Claim7.holds Tryd.pinned (.plain (OpenSpec.ofChange replyHopsSpec)) replyHopsCard

/-- THE SECOND FORM's CARD OF 'churnlaw27.ReplyBack'. -/
def replyBackUptoCard : Claim7 := { stood := { row := replyBackUptoRow, standIns := [], harness := (true, "947a306fd45f3c90e5b75edb98572c945244467e8e0a26e4eb53a17b4edf28da"), looks := false }, kinds := [], alts := [], laidByText := true, laidKinds := [.data, .data], laidTests := true, laidLooks := .later }
def ReplyBackUptoCardSaid : Prop := Claim7.holds Tryd.pinned (.plain (OpenSpec.upto replyBackSpec)) replyBackUptoCard

/-- THE SECOND FORM's CARD OF 'churnlaw27.ReplyHops'. -/
def replyHopsUptoCard : Claim7 := { stood := { row := replyHopsUptoRow, standIns := [], harness := (true, "947a306fd45f3c90e5b75edb98572c945244467e8e0a26e4eb53a17b4edf28da"), looks := false }, kinds := [], alts := [], laidByText := true, laidKinds := [.data, .data], laidTests := true, laidLooks := .later }
def ReplyHopsUptoCardSaid : Prop := Claim7.holds Tryd.pinned (.plain (OpenSpec.upto replyHopsSpec)) replyHopsUptoCard
end Rows
end Go.Proofs.YtaiiomoajjhliaaDoor

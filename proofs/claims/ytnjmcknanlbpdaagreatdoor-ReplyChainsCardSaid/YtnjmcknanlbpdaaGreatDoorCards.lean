/-
  DERIVED. GIVEN WITH THE SEED: THE CARDS: each row of YtnjmcknanlbpdaaGreatDoorRows.lean that lists a variable, with what it lists TIED to the program's text (the seventh form; the later family's looks); each row that meets fmt, with fmt's text TOLD by the authors' own Lean function (tested against real Go, not proved from fmt's source: count such statements apart). THE CARD IS WHAT COUNTS. Prove the row's statement (the work); the ties are given (YtnjmcknanlbpdaaGreatDoorTie.lean); close each card by the builder's one call (the guide's Derived/Test/ToyasCard.lean, 'card_holds'). Laid BY PROGRAM, IN A SANDBOX (cutbox-door.mjs). By AI agents, Wed Nov 11 2026. No macro, syntax, notation, axiom, sorry.
-/
import Derived.Test.YtnjmcknanlbpdaaGreatDoorRows
import GoSem.ClaimSeven
namespace Go.Proofs.YtnjmcknanlbpdaaGreatDoor
namespace Rows

/-- THE TIED CARD OF 'churnlaw27.ReplyWraps'. -/
def replyWrapsCard : Claim7 := { stood := { row := replyWrapsRow, standIns := [], harness := (true, "ffe5f177000580750bcadf383bdb4d4dc7f50f26eec1a184e011439675a316c1"), looks := false }, kinds := [], alts := [], laidByText := true, laidKinds := [.data, .data], laidTests := true, laidLooks := .later }
def ReplyWrapsCardSaid : Prop := Claim7.holds Tryz.pinned (.plain (OpenSpec.ofChange replyWrapsSpec)) replyWrapsCard

/-- THE TIED CARD OF 'churnlaw27.ReplyChains'. -/
def replyChainsCard : Claim7 := { stood := { row := replyChainsRow, standIns := [], harness := (true, "ffe5f177000580750bcadf383bdb4d4dc7f50f26eec1a184e011439675a316c1"), looks := false }, kinds := [], alts := [], laidByText := true, laidKinds := [.data, .data], laidTests := true, laidLooks := .later }
def ReplyChainsCardSaid : Prop := Claim7.holds Tryz.pinned (.plain (OpenSpec.ofChange replyChainsSpec)) replyChainsCard

/-- THE TIED CARD OF 'churnlaw27.ReplyOpens'. -/
def replyOpensCard : Claim7 := { stood := { row := replyOpensRow, standIns := [], harness := (true, "ffe5f177000580750bcadf383bdb4d4dc7f50f26eec1a184e011439675a316c1"), looks := false }, kinds := [], alts := [], laidByText := true, laidKinds := [.data, .data], laidTests := true, laidLooks := .later }
def ReplyOpensCardSaid : Prop := Claim7.holds Tryz.pinned (.plain (OpenSpec.ofChange replyOpensSpec)) replyOpensCard

/-- THE SECOND FORM's CARD OF 'churnlaw27.ReplyWraps'. -/
def replyWrapsUptoCard : Claim7 := { stood := { row := replyWrapsUptoRow, standIns := [], harness := (true, "ffe5f177000580750bcadf383bdb4d4dc7f50f26eec1a184e011439675a316c1"), looks := false }, kinds := [], alts := [], laidByText := true, laidKinds := [.data, .data], laidTests := true, laidLooks := .later }
def ReplyWrapsUptoCardSaid : Prop := Claim7.holds Tryz.pinned (.plain (OpenSpec.upto replyWrapsSpec)) replyWrapsUptoCard

/-- THE SECOND FORM's CARD OF 'churnlaw27.ReplyChains'. -/
def replyChainsUptoCard : Claim7 := { stood := { row := replyChainsUptoRow, standIns := [], harness := (true, "ffe5f177000580750bcadf383bdb4d4dc7f50f26eec1a184e011439675a316c1"), looks := false }, kinds := [], alts := [], laidByText := true, laidKinds := [.data, .data], laidTests := true, laidLooks := .later }
def ReplyChainsUptoCardSaid : Prop := Claim7.holds Tryz.pinned (.plain (OpenSpec.upto replyChainsSpec)) replyChainsUptoCard

/-- THE SECOND FORM's CARD OF 'churnlaw27.ReplyOpens'. -/
def replyOpensUptoCard : Claim7 := { stood := { row := replyOpensUptoRow, standIns := [], harness := (true, "ffe5f177000580750bcadf383bdb4d4dc7f50f26eec1a184e011439675a316c1"), looks := false }, kinds := [], alts := [], laidByText := true, laidKinds := [.data, .data], laidTests := true, laidLooks := .later }
def ReplyOpensUptoCardSaid : Prop := Claim7.holds Tryz.pinned (.plain (OpenSpec.upto replyOpensSpec)) replyOpensUptoCard
end Rows
end Go.Proofs.YtnjmcknanlbpdaaGreatDoor

/-
  DERIVED. GIVEN WITH THE SEED: THE CARDS: each row of YthmlfglllhmimaaGreatDoorRows.lean that lists a variable, with what it lists TIED to the program's text (the seventh form; the later family's looks); each row that meets fmt, with fmt's text TOLD by the authors' own Lean function (tested against real Go, not proved from fmt's source: count such statements apart). THE CARD IS WHAT COUNTS. Prove the row's statement (the work); the ties are given (YthmlfglllhmimaaGreatDoorTie.lean); close each card by the builder's one call (the guide's Derived/Test/ToyasCard.lean, 'card_holds'). Laid BY PROGRAM, IN A SANDBOX (cutbox-door.mjs). By AI agents, Wed Nov 11 2026. No macro, syntax, notation, axiom, sorry.
-/
import Derived.Test.YthmlfglllhmimaaGreatDoorRows
import GoSem.ClaimSeven
namespace Go.Proofs.YthmlfglllhmimaaGreatDoor
namespace Rows

/-- THE TIED CARD OF 'churnlaw25.CascadeEntries'. -/
def cascadeEntriesCard : Claim7 := { stood := { row := cascadeEntriesRow, standIns := [], harness := (true, "de611eea5bacbab4711044751170c403426daf2aa21bfc3f7c0dc372a417b580"), looks := false }, kinds := [], alts := [], goes := true, laidByText := true, laidKinds := [.data, .data, .data], laidTests := true, laidLooks := .later }
def CascadeEntriesCardSaid : Prop := Claim7.holds Tryz.pinned (.plain (OpenSpec.ofChange cascadeEntriesSpec)) cascadeEntriesCard

/-- THE SECOND FORM's CARD OF 'churnlaw25.CascadeEntries'. -/
def cascadeEntriesUptoCard : Claim7 := { stood := { row := cascadeEntriesUptoRow, standIns := [], harness := (true, "de611eea5bacbab4711044751170c403426daf2aa21bfc3f7c0dc372a417b580"), looks := false }, kinds := [], alts := [], goes := true, laidByText := true, laidKinds := [.data, .data, .data], laidTests := true, laidLooks := .later }
def CascadeEntriesUptoCardSaid : Prop := Claim7.holds Tryz.pinned (.plain (OpenSpec.upto cascadeEntriesSpec)) cascadeEntriesUptoCard
end Rows
end Go.Proofs.YthmlfglllhmimaaGreatDoor

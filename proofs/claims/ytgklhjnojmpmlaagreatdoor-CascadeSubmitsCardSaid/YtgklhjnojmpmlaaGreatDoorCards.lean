/-
  DERIVED. GIVEN WITH THE SEED: THE CARDS: each row of YtgklhjnojmpmlaaGreatDoorRows.lean that lists a variable, with what it lists TIED to the program's text (the seventh form; the later family's looks); each row that meets fmt, with fmt's text TOLD by the authors' own Lean function (tested against real Go, not proved from fmt's source: count such statements apart). THE CARD IS WHAT COUNTS. Prove the row's statement (the work); the ties are given (YtgklhjnojmpmlaaGreatDoorTie.lean); close each card by the builder's one call (the guide's Derived/Test/ToyasCard.lean, 'card_holds'). Laid BY PROGRAM, IN A SANDBOX (cutbox-door.mjs). By AI agents, Wed Nov 11 2026. No macro, syntax, notation, axiom, sorry.
-/
import Derived.Test.YtgklhjnojmpmlaaGreatDoorRows
import GoSem.ClaimSeven
namespace Go.Proofs.YtgklhjnojmpmlaaGreatDoor
namespace Rows

/-- THE TIED CARD OF 'churnlaw25.CascadeSubmits'. -/
def cascadeSubmitsCard : Claim7 := { stood := { row := cascadeSubmitsRow, standIns := [], harness := (true, "b682e6b2c72ab91527219d05de035245a72d0bdb9810583b357d310ce7961bc1"), looks := false }, kinds := [], alts := [], goes := true, laidByText := true, laidKinds := [.data, .data, .data], laidTests := true, laidLooks := .later }
def CascadeSubmitsCardSaid : Prop := Claim7.holds Tryz.pinned (.plain (OpenSpec.ofChange cascadeSubmitsSpec)) cascadeSubmitsCard

/-- THE SECOND FORM's CARD OF 'churnlaw25.CascadeSubmits'. -/
def cascadeSubmitsUptoCard : Claim7 := { stood := { row := cascadeSubmitsUptoRow, standIns := [], harness := (true, "b682e6b2c72ab91527219d05de035245a72d0bdb9810583b357d310ce7961bc1"), looks := false }, kinds := [], alts := [], goes := true, laidByText := true, laidKinds := [.data, .data, .data], laidTests := true, laidLooks := .later }
def CascadeSubmitsUptoCardSaid : Prop := Claim7.holds Tryz.pinned (.plain (OpenSpec.upto cascadeSubmitsSpec)) cascadeSubmitsUptoCard
end Rows
end Go.Proofs.YtgklhjnojmpmlaaGreatDoor

/-
  DERIVED. GIVEN WITH THE SEED: THE CARDS: each row of YtcffmmeafnapiaaGreatDoorRows.lean that lists a variable, with what it lists TIED to the program's text (the seventh form; the later family's looks); each row that meets fmt, with fmt's text TOLD by the authors' own Lean function (tested against real Go, not proved from fmt's source: count such statements apart). THE CARD IS WHAT COUNTS. Prove the row's statement (the work); the ties are given (YtcffmmeafnapiaaGreatDoorTie.lean); close each card by the builder's one call (the guide's Derived/Test/ToyasCard.lean, 'card_holds'). Laid BY PROGRAM, IN A SANDBOX (cutbox-door.mjs). By AI agents, Wed Nov 11 2026. No macro, syntax, notation, axiom, sorry.
-/
import Derived.Test.YtcffmmeafnapiaaGreatDoorRows
import GoSem.ClaimSeven
namespace Go.Proofs.YtcffmmeafnapiaaGreatDoor
namespace Rows

/-- THE TIED CARD OF 'churnlaw08.RouteWalks'. -/
def routeWalksCard : Claim7 := { stood := { row := routeWalksRow, standIns := [], harness := (true, "4194e17f95e65bb1d16370cc04c44c1052834d0540ac9a4e477070373959ba48"), looks := false }, kinds := [], alts := [], laidByText := true, laidKinds := [.data, .data], laidTests := true, laidLooks := .later }
def RouteWalksCardSaid : Prop := Claim7.holds Tryz.pinned (.plain (OpenSpec.ofChange routeWalksSpec)) routeWalksCard

/-- THE SECOND FORM's CARD OF 'churnlaw08.RouteWalks'. -/
def routeWalksUptoCard : Claim7 := { stood := { row := routeWalksUptoRow, standIns := [], harness := (true, "4194e17f95e65bb1d16370cc04c44c1052834d0540ac9a4e477070373959ba48"), looks := false }, kinds := [], alts := [], laidByText := true, laidKinds := [.data, .data], laidTests := true, laidLooks := .later }
def RouteWalksUptoCardSaid : Prop := Claim7.holds Tryz.pinned (.plain (OpenSpec.upto routeWalksSpec)) routeWalksUptoCard
end Rows
end Go.Proofs.YtcffmmeafnapiaaGreatDoor

/-
  DERIVED. GIVEN WITH THE SEED: THE CARDS: each row of YtcffmmeafnapiaaDoorRows.lean that lists a variable, with what it lists TIED to the program's text (the seventh form; the later family's looks); each row that meets fmt, with fmt's text TOLD by the authors' own Lean function (tested against real Go, not proved from fmt's source: count such statements apart). THE CARD IS WHAT COUNTS. Prove the row's statement (the work); the ties are given (YtcffmmeafnapiaaDoorTie.lean); close each card by the builder's one call (the guide's Derived/Test/ToyasCard.lean, 'card_holds'). Laid BY PROGRAM, IN A SANDBOX (cutbox-door.mjs). By AI agents, Wed Nov 11 2026. No macro, syntax, notation, axiom, sorry.
-/
import Derived.Test.YtcffmmeafnapiaaDoorRows
import GoSem.ClaimSeven
namespace Go.Proofs.YtcffmmeafnapiaaDoor
namespace Rows

/-- THE TIED CARD OF 'churnlaw08.RouteKeys'. -/
def routeKeysCard : Claim7 := { stood := { row := routeKeysRow, standIns := [], harness := (true, "9fa1d2e7888798171692f799b6b824dd59c15f4682765c873c1647102124484c"), looks := false }, kinds := [], alts := [], laidByText := true, laidKinds := [.data, .data], laidTests := true, laidLooks := .later }
def RouteKeysCardSaid : Prop := Claim7.holds Tryd.pinned (.plain (OpenSpec.ofChange routeKeysSpec)) routeKeysCard

/-- THE TIED CARD OF 'churnlaw08.RouteWraps'. -/
def routeWrapsCard : Claim7 := { stood := { row := routeWrapsRow, standIns := [], harness := (true, "9fa1d2e7888798171692f799b6b824dd59c15f4682765c873c1647102124484c"), looks := false }, kinds := [], alts := [], laidByText := true, laidKinds := [.data, .data], laidTests := true, laidLooks := .later }
def RouteWrapsCardSaid : Prop := Claim7.holds Tryd.pinned (.plain (OpenSpec.ofChange routeWrapsSpec)) routeWrapsCard

/-- THE TIED CARD OF 'churnlaw08.RouteThrough'. -/
def routeThroughCard : Claim7 := { stood := { row := routeThroughRow, standIns := [], harness := (true, "9fa1d2e7888798171692f799b6b824dd59c15f4682765c873c1647102124484c"), looks := false }, kinds := [], alts := [], laidByText := true, laidKinds := [.data, .data], laidTests := true, laidLooks := .later }
def RouteThroughCardSaid : Prop := Claim7.holds Tryd.pinned (.plain (OpenSpec.ofChange routeThroughSpec)) routeThroughCard

/-- THE TIED CARD OF 'churnlaw08.RouteRest'. -/
def routeRestCard : Claim7 := { stood := { row := routeRestRow, standIns := [], harness := (true, "9fa1d2e7888798171692f799b6b824dd59c15f4682765c873c1647102124484c"), looks := false }, kinds := [], alts := [], laidByText := true, laidKinds := [.data, .data], laidTests := true, laidLooks := .later }
def RouteRestCardSaid : Prop := Claim7.holds Tryd.pinned (.plain (OpenSpec.ofChange routeRestSpec)) routeRestCard

/-- THE TIED CARD OF 'churnlaw08.RouteKeeps'. -/
def routeKeepsCard : Claim7 := { stood := { row := routeKeepsRow, standIns := [], harness := (true, "9fa1d2e7888798171692f799b6b824dd59c15f4682765c873c1647102124484c"), looks := false }, kinds := [], alts := [], laidByText := true, laidKinds := [.data, .data], laidTests := true, laidLooks := .later }
def RouteKeepsCardSaid : Prop := Claim7.holds Tryd.pinned (.plain (OpenSpec.ofChange routeKeepsSpec)) routeKeepsCard

/-- THE SECOND FORM's CARD OF 'churnlaw08.RouteKeys'. -/
def routeKeysUptoCard : Claim7 := { stood := { row := routeKeysUptoRow, standIns := [], harness := (true, "9fa1d2e7888798171692f799b6b824dd59c15f4682765c873c1647102124484c"), looks := false }, kinds := [], alts := [], laidByText := true, laidKinds := [.data, .data], laidTests := true, laidLooks := .later }
def RouteKeysUptoCardSaid : Prop := Claim7.holds Tryd.pinned (.plain (OpenSpec.upto routeKeysSpec)) routeKeysUptoCard

/-- THE SECOND FORM's CARD OF 'churnlaw08.RouteWraps'. -/
def routeWrapsUptoCard : Claim7 := { stood := { row := routeWrapsUptoRow, standIns := [], harness := (true, "9fa1d2e7888798171692f799b6b824dd59c15f4682765c873c1647102124484c"), looks := false }, kinds := [], alts := [], laidByText := true, laidKinds := [.data, .data], laidTests := true, laidLooks := .later }
def RouteWrapsUptoCardSaid : Prop := Claim7.holds Tryd.pinned (.plain (OpenSpec.upto routeWrapsSpec)) routeWrapsUptoCard

/-- THE SECOND FORM's CARD OF 'churnlaw08.RouteThrough'. -/
def routeThroughUptoCard : Claim7 := { stood := { row := routeThroughUptoRow, standIns := [], harness := (true, "9fa1d2e7888798171692f799b6b824dd59c15f4682765c873c1647102124484c"), looks := false }, kinds := [], alts := [], laidByText := true, laidKinds := [.data, .data], laidTests := true, laidLooks := .later }
def RouteThroughUptoCardSaid : Prop := Claim7.holds Tryd.pinned (.plain (OpenSpec.upto routeThroughSpec)) routeThroughUptoCard

/-- THE SECOND FORM's CARD OF 'churnlaw08.RouteRest'. -/
def routeRestUptoCard : Claim7 := { stood := { row := routeRestUptoRow, standIns := [], harness := (true, "9fa1d2e7888798171692f799b6b824dd59c15f4682765c873c1647102124484c"), looks := false }, kinds := [], alts := [], laidByText := true, laidKinds := [.data, .data], laidTests := true, laidLooks := .later }
def RouteRestUptoCardSaid : Prop := Claim7.holds Tryd.pinned (.plain (OpenSpec.upto routeRestSpec)) routeRestUptoCard

/-- THE SECOND FORM's CARD OF 'churnlaw08.RouteKeeps'. -/
def routeKeepsUptoCard : Claim7 := { stood := { row := routeKeepsUptoRow, standIns := [], harness := (true, "9fa1d2e7888798171692f799b6b824dd59c15f4682765c873c1647102124484c"), looks := false }, kinds := [], alts := [], laidByText := true, laidKinds := [.data, .data], laidTests := true, laidLooks := .later }
def RouteKeepsUptoCardSaid : Prop := Claim7.holds Tryd.pinned (.plain (OpenSpec.upto routeKeepsSpec)) routeKeepsUptoCard
end Rows
end Go.Proofs.YtcffmmeafnapiaaDoor

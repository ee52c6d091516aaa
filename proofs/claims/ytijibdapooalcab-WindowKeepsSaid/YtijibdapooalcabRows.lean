/-
  No cell of these rows narrows 'for every input' (looked for: loops, veiled, ifaces, maps, wideKeys, modest, calm, conditions, laid).
  DERIVED. THE GIVEN ROWS OF THIS SEAT. 2 by the template 'for every input the law returns true; each argument reads behind the call as it read before'; 0 by the template 'total and deterministic' (their statements: YtijibdapooalcabTotals.lean).
  GIVEN WITH THE SEED: the statements are not yours to turn. If you find one false, say at which input.
  Laid BY PROGRAM, IN A SANDBOX (cutbox-rows.mjs): the forced cells as the released guide's own fill.sh prints them over the translation 3e9872e7e20e0081… (all of the seat's roots in one cut). By AI agents, Wed Nov 11 2026. No macro, syntax, notation, axiom, sorry.
-/
import Derived.Test.YtijibdapooalcabChecked
import GoSem.Claim
import GoSem.ClaimJoined
import GoSem.ClaimMapViews
import Derived.JoinedTies
import Derived.KernelRfl
namespace Go.Proofs.Ytijibdapooalcab
/- THE CELL 'sum', in the pinned program and in every row, IS THE sha256 OF THE DUMP (.gsa) THAT YtijibdapooalcabProg.lean LOADS. Nothing in Lean hashes anything: it is a label: what it is worth is what the hold of that sum in a sandbox is worth. -/
noncomputable def Try.pinned : Pinned := { name := "ytijibdapooalcab", sum := "3e9872e7e20e0081ad4ce58ba11d29d2b5121dea5cc61db1dfbb65e7fdc8452f", checked := Try.checked }
namespace Rows
def none {H : Type} : Left H := { results := [], args := [] }

/-- 'churnlaw16.WindowPieces': WHATEVER THE INPUT: true; the input reads as it did. -/
def windowPiecesSpec : ChangeSpec := { name := "windowPieces", fn := fun _ => fun
  | [d] => { results := [.lit (.bool true)], args := [d] }
  | _ => none }
def windowPiecesRow : OpenClaim := { program := "ytijibdapooalcab", sum := "3e9872e7e20e0081ad4ce58ba11d29d2b5121dea5cc61db1dfbb65e7fdc8452f", func := "churn/churnlaw16.WindowPieces", spec := "windowPieces", inPlace := ["internal/bytealg.Compare", "slices.overlaps[churn/api.Epoch]"], unfollowed := true, recurses := true, plainKeys := false, apart := false }
def WindowPiecesSaid : Prop := windowPiecesRow.holds Try.pinned (OpenSpec.ofChange windowPiecesSpec)

/-- ITS FALSE NEIGHBOUR: 'it returns false'. Refute it at one input. -/
def windowPiecesWrong : ChangeSpec := { name := "windowPieces", fn := fun _ => fun
  | [d] => { results := [.lit (.bool false)], args := [d] }
  | _ => none }
def WindowPiecesWrongFalsely : Prop := windowPiecesRow.holds Try.pinned (OpenSpec.ofChange windowPiecesWrong)

/-- 'churnlaw16.WindowKeeps': WHATEVER THE INPUT: true; the input reads as it did. -/
def windowKeepsSpec : ChangeSpec := { name := "windowKeeps", fn := fun _ => fun
  | [d] => { results := [.lit (.bool true)], args := [d] }
  | _ => none }
def windowKeepsRow : OpenClaim := { program := "ytijibdapooalcab", sum := "3e9872e7e20e0081ad4ce58ba11d29d2b5121dea5cc61db1dfbb65e7fdc8452f", func := "churn/churnlaw16.WindowKeeps", spec := "windowKeeps", inPlace := ["internal/bytealg.Compare", "slices.overlaps[churn/api.Epoch]"], unfollowed := true, recurses := true, plainKeys := false, apart := false }
def WindowKeepsSaid : Prop := windowKeepsRow.holds Try.pinned (OpenSpec.ofChange windowKeepsSpec)

/-- ITS FALSE NEIGHBOUR: 'it returns false'. Refute it at one input. -/
def windowKeepsWrong : ChangeSpec := { name := "windowKeeps", fn := fun _ => fun
  | [d] => { results := [.lit (.bool false)], args := [d] }
  | _ => none }
def WindowKeepsWrongFalsely : Prop := windowKeepsRow.holds Try.pinned (OpenSpec.ofChange windowKeepsWrong)

/- THE SECOND FORM. 'bulk': how many values and letters a reading holds, each counted each time it is reached (what is shared counts as often as it is met; a slice's spare places count too). A statement '..UptoSaid' is the law's where the arguments, and the package variables that the reading takes, are together of bulk at most 1048576: NARROWER than '..Said'. Prove '..Said' where nothing that the law and all that it calls make is longer than what came in: it says more and counts as full. Else prove '..UptoSaid'. A law counts once. -/
mutual
def uptoBulk {H : Type} : DataW H → Nat
  | .lit (.string bytes) => bytes.length + 1
  | .lit _ => 1
  | .nil => 1
  | .ptr d => uptoBulk d + 1
  | .slice elems spare => uptoBulkAll elems + uptoBulkAll spare + 1
  | .agg parts => uptoBulkAll parts + 1
  | .iface _ d => uptoBulk d + 1
  | .map entries => uptoBulkEntries entries + 1
  | .held _ => 1
def uptoBulkAll {H : Type} : List (DataW H) → Nat
  | [] => 0
  | d :: r => uptoBulk d + uptoBulkAll r
def uptoBulkEntries {H : Type} : List (Lit × DataW H) → Nat
  | [] => 0
  | x :: r => uptoBulkEntry x + uptoBulkEntries r
def uptoBulkEntry {H : Type} : Lit × DataW H → Nat
  | (.string bytes, d) => bytes.length + uptoBulk d + 1
  | (_, d) => uptoBulk d + 1
 end
def uptoSmall : (H : Type) → List (DataW H) → Bool := fun _ ds => decide (uptoBulkAll ds ≤ 1048576)
def OpenSpec.upto (s : _root_.Go.ChangeSpec) : _root_.Go.OpenSpec := { _root_.Go.OpenSpec.ofChange s with cond := some uptoSmall }

/-- 'churnlaw16.WindowPieces', WHERE WHAT IT READS IS OF BULK AT MOST 1048576: true; the input reads as it did. -/
def windowPiecesUptoRow : OpenClaim := { program := "ytijibdapooalcab", sum := "3e9872e7e20e0081ad4ce58ba11d29d2b5121dea5cc61db1dfbb65e7fdc8452f", func := "churn/churnlaw16.WindowPieces", spec := "windowPieces", inPlace := ["internal/bytealg.Compare", "slices.overlaps[churn/api.Epoch]"], unfollowed := true, recurses := true, plainKeys := false, apart := false, narrowed := true }
def WindowPiecesUptoSaid : Prop := windowPiecesUptoRow.holds Try.pinned (OpenSpec.upto windowPiecesSpec)

/-- 'churnlaw16.WindowKeeps', WHERE WHAT IT READS IS OF BULK AT MOST 1048576: true; the input reads as it did. -/
def windowKeepsUptoRow : OpenClaim := { program := "ytijibdapooalcab", sum := "3e9872e7e20e0081ad4ce58ba11d29d2b5121dea5cc61db1dfbb65e7fdc8452f", func := "churn/churnlaw16.WindowKeeps", spec := "windowKeeps", inPlace := ["internal/bytealg.Compare", "slices.overlaps[churn/api.Epoch]"], unfollowed := true, recurses := true, plainKeys := false, apart := false, narrowed := true }
def WindowKeepsUptoSaid : Prop := windowKeepsUptoRow.holds Try.pinned (OpenSpec.upto windowKeepsSpec)

end Rows
end Go.Proofs.Ytijibdapooalcab

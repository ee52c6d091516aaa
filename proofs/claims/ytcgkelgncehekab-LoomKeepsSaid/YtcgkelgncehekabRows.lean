/-
  No cell of these rows narrows 'for every input' (looked for: loops, veiled, ifaces, maps, wideKeys, modest, calm, conditions, laid).
  DERIVED. THE GIVEN ROWS OF THIS SEAT. 2 by the template 'for every input the law returns true; each argument reads behind the call as it read before'; 0 by the template 'total and deterministic' (their statements: YtcgkelgncehekabTotals.lean).
  GIVEN WITH THE SEED: the statements are not yours to turn. If you find one false, say at which input.
  Laid BY PROGRAM, IN A SANDBOX (cutbox-rows.mjs): the forced cells as the released guide's own fill.sh prints them over the translation 35bde5abd501182f… (all of the seat's roots in one cut). By AI agents, Wed Nov 11 2026. No macro, syntax, notation, axiom, sorry.
-/
import Derived.Test.YtcgkelgncehekabChecked
import GoSem.Claim
import GoSem.ClaimJoined
import GoSem.ClaimMapViews
import Derived.JoinedTies
import Derived.KernelRfl
namespace Go.Proofs.Ytcgkelgncehekab
/- THE CELL 'sum', in the pinned program and in every row, IS THE sha256 OF THE DUMP (.gsa) THAT YtcgkelgncehekabProg.lean LOADS. Nothing in Lean hashes anything: it is a label: what it is worth is what the hold of that sum in a sandbox is worth. -/
noncomputable def Try.pinned : Pinned := { name := "ytcgkelgncehekab", sum := "35bde5abd501182f16a5cf08e05959e6742887cef076c6d859ba9028f12bdb07", checked := Try.checked }
namespace Rows
def none {H : Type} : Left H := { results := [], args := [] }

/-- 'churnlaw19.LoomScripts': WHATEVER THE INPUT: true; the input reads as it did. -/
def loomScriptsSpec : ChangeSpec := { name := "loomScripts", fn := fun _ => fun
  | [d1, d2, d3] => { results := [.lit (.bool true)], args := [d1, d2, d3] }
  | _ => none }
def loomScriptsRow : OpenClaim := { program := "ytcgkelgncehekab", sum := "35bde5abd501182f16a5cf08e05959e6742887cef076c6d859ba9028f12bdb07", func := "churn/churnlaw19.LoomScripts", spec := "loomScripts", unfollowed := true, recurses := true, apart := false }
def LoomScriptsSaid : Prop := loomScriptsRow.holds Try.pinned (OpenSpec.ofChange loomScriptsSpec)

/-- ITS FALSE NEIGHBOUR: 'it returns false'. Refute it at one input. -/
def loomScriptsWrong : ChangeSpec := { name := "loomScripts", fn := fun _ => fun
  | [d1, d2, d3] => { results := [.lit (.bool false)], args := [d1, d2, d3] }
  | _ => none }
def LoomScriptsWrongFalsely : Prop := loomScriptsRow.holds Try.pinned (OpenSpec.ofChange loomScriptsWrong)

/-- 'churnlaw19.LoomKeeps': WHATEVER THE INPUT: true; the input reads as it did. -/
def loomKeepsSpec : ChangeSpec := { name := "loomKeeps", fn := fun _ => fun
  | [d1, d2] => { results := [.lit (.bool true)], args := [d1, d2] }
  | _ => none }
def loomKeepsRow : OpenClaim := { program := "ytcgkelgncehekab", sum := "35bde5abd501182f16a5cf08e05959e6742887cef076c6d859ba9028f12bdb07", func := "churn/churnlaw19.LoomKeeps", spec := "loomKeeps", unfollowed := true, recurses := true, apart := false }
def LoomKeepsSaid : Prop := loomKeepsRow.holds Try.pinned (OpenSpec.ofChange loomKeepsSpec)

/-- ITS FALSE NEIGHBOUR: 'it returns false'. Refute it at one input. -/
def loomKeepsWrong : ChangeSpec := { name := "loomKeeps", fn := fun _ => fun
  | [d1, d2] => { results := [.lit (.bool false)], args := [d1, d2] }
  | _ => none }
def LoomKeepsWrongFalsely : Prop := loomKeepsRow.holds Try.pinned (OpenSpec.ofChange loomKeepsWrong)

/- THE SECOND FORM. 'bulk': how many values and letters a reading holds, each counted each time it is reached (what is shared counts as often as it is met; a slice's spare places count too). A statement '..UptoSaid' is the law's where the arguments, and the package variables that the reading takes, are together of bulk at most 1048576: NARROWER than '..Said'. Prove '..Said' where nothing that the law and all that it calls make is longer than what came in: it says more and counts as full. Else prove '..UptoSaid'. A law counts once. -/
mutual
def uptoBulk {H : Type} : DataW H → Nat
  | .lit (.string bytes) => bytes.length + 1
  | .lit _ => 1
  | .nil => 1
  | .ptr d => uptoBulk d + 1
  | .slice elems spare => uptoBulkAll elems + uptoBulkAll spare + 1
  | .agg parts => uptoBulkAll parts + 1
  | .iface _ d => uptoBulk d + 1
  | .map entries => uptoBulkEntries entries + 1
  | .held _ => 1
def uptoBulkAll {H : Type} : List (DataW H) → Nat
  | [] => 0
  | d :: r => uptoBulk d + uptoBulkAll r
def uptoBulkEntries {H : Type} : List (Lit × DataW H) → Nat
  | [] => 0
  | x :: r => uptoBulkEntry x + uptoBulkEntries r
def uptoBulkEntry {H : Type} : Lit × DataW H → Nat
  | (.string bytes, d) => bytes.length + uptoBulk d + 1
  | (_, d) => uptoBulk d + 1
 end
def uptoSmall : (H : Type) → List (DataW H) → Bool := fun _ ds => decide (uptoBulkAll ds ≤ 1048576)
def OpenSpec.upto (s : _root_.Go.ChangeSpec) : _root_.Go.OpenSpec := { _root_.Go.OpenSpec.ofChange s with cond := some uptoSmall }

/-- 'churnlaw19.LoomScripts', WHERE WHAT IT READS IS OF BULK AT MOST 1048576: true; the input reads as it did. -/
def loomScriptsUptoRow : OpenClaim := { program := "ytcgkelgncehekab", sum := "35bde5abd501182f16a5cf08e05959e6742887cef076c6d859ba9028f12bdb07", func := "churn/churnlaw19.LoomScripts", spec := "loomScripts", unfollowed := true, recurses := true, apart := false, narrowed := true }
def LoomScriptsUptoSaid : Prop := loomScriptsUptoRow.holds Try.pinned (OpenSpec.upto loomScriptsSpec)

/-- 'churnlaw19.LoomKeeps', WHERE WHAT IT READS IS OF BULK AT MOST 1048576: true; the input reads as it did. -/
def loomKeepsUptoRow : OpenClaim := { program := "ytcgkelgncehekab", sum := "35bde5abd501182f16a5cf08e05959e6742887cef076c6d859ba9028f12bdb07", func := "churn/churnlaw19.LoomKeeps", spec := "loomKeeps", unfollowed := true, recurses := true, apart := false, narrowed := true }
def LoomKeepsUptoSaid : Prop := loomKeepsUptoRow.holds Try.pinned (OpenSpec.upto loomKeepsSpec)

end Rows
end Go.Proofs.Ytcgkelgncehekab

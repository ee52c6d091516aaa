/-
  NARROWER THAN 'FOR EVERY INPUT', by the rows' own cells (each row's printed sentence says how): FramePacks: laid · FrameReads: laid · FrameFeeds: laid · FrameBack: laid · FramePieces: laid · FrameTurned: laid.
  DERIVED. THE GIVEN ROWS OF THIS SEAT. 6 by the template 'for every input the law returns true; each argument reads behind the call as it read before'; 0 by the template 'total and deterministic' (their statements: YtaoncjgllcndmaaDoorTotals.lean).
  GIVEN WITH THE SEED: the statements are not yours to turn. If you find one false, say at which input.
  Laid BY PROGRAM, IN A SANDBOX (cutbox-rows.mjs): the forced cells as the released guide's own fill.sh prints them over the translation 093f7141adfa7900… (all of the seat's roots in one cut). By AI agents, Wed Nov 11 2026. No macro, syntax, notation, axiom, sorry.
-/
import Derived.Test.YtaoncjgllcndmaaDoorChecked
import GoSem.Claim
import GoSem.ClaimJoined
import GoSem.ClaimMapViews
import Derived.JoinedTies
import Derived.KernelRfl
namespace Go.Proofs.YtaoncjgllcndmaaDoor
/- THE CELL 'sum', in the pinned program and in every row, IS THE sha256 OF THE DUMP (.gsa) THAT YtaoncjgllcndmaaDoorProg.lean LOADS. Nothing in Lean hashes anything: it is a label: what it is worth is what the hold of that sum in a sandbox is worth. -/
noncomputable def Tryd.pinned : Pinned := { name := "ytaoncjgllcndmaadoor", sum := "093f7141adfa7900f992176809dcb9f8a9dd55559596c296719567df80fb8500", checked := Tryd.checked }
namespace Rows
def none {H : Type} : Left H := { results := [], args := [] }

/- WHAT THE LISTED PACKAGE-LEVEL VARIABLES READ AS WHEN THE CALL BEGINS. Each datum BY PROGRAM (the guide's laid-datum.mjs) off the statement by which the dump's own 'gosem.cut.vars' lays the variable. In a bare row this is a premise. The card (YtaoncjgllcndmaaDoorCards.lean) ties it to the program's text. -/
def laid_churn_frame_rules {H : Type} : DataW H := .agg [.agg [.lit (.int .i64 4), .lit (.int .u64 1128813134), .lit (.int .u64 1128813134), .lit (.int .i64 60)], .agg [.lit (.int .i64 1), .lit (.int .u64 1), .lit (.int .u64 1), .lit (.int .i64 61)], .agg [.lit (.int .i64 1), .lit (.int .u64 0), .lit (.int .u64 8), .lit (.int .i64 62)], .agg [.lit (.int .i64 2), .lit (.int .u64 0), .lit (.int .u64 256), .lit (.int .i64 63)], .agg [.lit (.int .i64 8), .lit (.int .u64 0), .lit (.int .u64 4611686018427387903), .lit (.int .i64 62)], .agg [.lit (.int .i64 8), .lit (.int .u64 0), .lit (.int .u64 4611686018427387904), .lit (.int .i64 62)], .agg [.lit (.int .i64 2), .lit (.int .u64 320), .lit (.int .u64 320), .lit (.int .i64 64)], .agg [.lit (.int .i64 320), .lit (.int .u64 0), .lit (.int .u64 0), .lit (.int .i64 0)], .agg [.lit (.int .i64 4), .lit (.int .u64 0), .lit (.int .u64 0), .lit (.int .i64 65)], .agg [.lit (.int .i64 1), .lit (.int .u64 1), .lit (.int .u64 0), .lit (.int .i64 66)]]

/-- 'churnlaw06.FramePacks': WHATEVER THE INPUT: true; the input reads as it did. -/
def framePacksSpec : ChangeSpec := { name := "framePacks", fn := fun _ => fun
  | [d] => { results := [.lit (.bool true)], args := [d] }
  | _ => none }
def framePacksRow : OpenClaim := { program := "ytaoncjgllcndmaadoor", sum := "093f7141adfa7900f992176809dcb9f8a9dd55559596c296719567df80fb8500", func := "churn/churnlaw06.FramePacks", spec := "framePacks", unfollowed := true, recurses := true, named := ["churn/frame.rules"], apart := false, laid := [("churn/frame.rules", laid_churn_frame_rules)] }
def FramePacksSaid : Prop := framePacksRow.holds Tryd.pinned (OpenSpec.ofChange framePacksSpec)

/-- ITS FALSE NEIGHBOUR: 'it returns false'. Refute it at one input. -/
def framePacksWrong : ChangeSpec := { name := "framePacks", fn := fun _ => fun
  | [d] => { results := [.lit (.bool false)], args := [d] }
  | _ => none }
def FramePacksWrongFalsely : Prop := framePacksRow.holds Tryd.pinned (OpenSpec.ofChange framePacksWrong)

/-- 'churnlaw06.FrameReads': WHATEVER THE INPUT: true; the input reads as it did. -/
def frameReadsSpec : ChangeSpec := { name := "frameReads", fn := fun _ => fun
  | [d] => { results := [.lit (.bool true)], args := [d] }
  | _ => none }
def frameReadsRow : OpenClaim := { program := "ytaoncjgllcndmaadoor", sum := "093f7141adfa7900f992176809dcb9f8a9dd55559596c296719567df80fb8500", func := "churn/churnlaw06.FrameReads", spec := "frameReads", unfollowed := true, recurses := true, named := ["churn/frame.rules"], apart := false, laid := [("churn/frame.rules", laid_churn_frame_rules)] }
def FrameReadsSaid : Prop := frameReadsRow.holds Tryd.pinned (OpenSpec.ofChange frameReadsSpec)

/-- ITS FALSE NEIGHBOUR: 'it returns false'. Refute it at one input. -/
def frameReadsWrong : ChangeSpec := { name := "frameReads", fn := fun _ => fun
  | [d] => { results := [.lit (.bool false)], args := [d] }
  | _ => none }
def FrameReadsWrongFalsely : Prop := frameReadsRow.holds Tryd.pinned (OpenSpec.ofChange frameReadsWrong)

/-- 'churnlaw06.FrameFeeds': WHATEVER THE INPUT: true; the input reads as it did. -/
def frameFeedsSpec : ChangeSpec := { name := "frameFeeds", fn := fun _ => fun
  | [d] => { results := [.lit (.bool true)], args := [d] }
  | _ => none }
def frameFeedsRow : OpenClaim := { program := "ytaoncjgllcndmaadoor", sum := "093f7141adfa7900f992176809dcb9f8a9dd55559596c296719567df80fb8500", func := "churn/churnlaw06.FrameFeeds", spec := "frameFeeds", unfollowed := true, recurses := true, named := ["churn/frame.rules"], apart := false, laid := [("churn/frame.rules", laid_churn_frame_rules)] }
def FrameFeedsSaid : Prop := frameFeedsRow.holds Tryd.pinned (OpenSpec.ofChange frameFeedsSpec)

/-- ITS FALSE NEIGHBOUR: 'it returns false'. Refute it at one input. -/
def frameFeedsWrong : ChangeSpec := { name := "frameFeeds", fn := fun _ => fun
  | [d] => { results := [.lit (.bool false)], args := [d] }
  | _ => none }
def FrameFeedsWrongFalsely : Prop := frameFeedsRow.holds Tryd.pinned (OpenSpec.ofChange frameFeedsWrong)

/-- 'churnlaw06.FrameBack': WHATEVER THE INPUT: true; the input reads as it did. -/
def frameBackSpec : ChangeSpec := { name := "frameBack", fn := fun _ => fun
  | [d1, d2] => { results := [.lit (.bool true)], args := [d1, d2] }
  | _ => none }
def frameBackRow : OpenClaim := { program := "ytaoncjgllcndmaadoor", sum := "093f7141adfa7900f992176809dcb9f8a9dd55559596c296719567df80fb8500", func := "churn/churnlaw06.FrameBack", spec := "frameBack", unfollowed := true, recurses := true, named := ["churn/frame.rules"], apart := false, laid := [("churn/frame.rules", laid_churn_frame_rules)] }
def FrameBackSaid : Prop := frameBackRow.holds Tryd.pinned (OpenSpec.ofChange frameBackSpec)

/-- ITS FALSE NEIGHBOUR: 'it returns false'. Refute it at one input. -/
def frameBackWrong : ChangeSpec := { name := "frameBack", fn := fun _ => fun
  | [d1, d2] => { results := [.lit (.bool false)], args := [d1, d2] }
  | _ => none }
def FrameBackWrongFalsely : Prop := frameBackRow.holds Tryd.pinned (OpenSpec.ofChange frameBackWrong)

/-- 'churnlaw06.FramePieces': WHATEVER THE INPUT: true; the input reads as it did. -/
def framePiecesSpec : ChangeSpec := { name := "framePieces", fn := fun _ => fun
  | [d1, d2] => { results := [.lit (.bool true)], args := [d1, d2] }
  | _ => none }
def framePiecesRow : OpenClaim := { program := "ytaoncjgllcndmaadoor", sum := "093f7141adfa7900f992176809dcb9f8a9dd55559596c296719567df80fb8500", func := "churn/churnlaw06.FramePieces", spec := "framePieces", unfollowed := true, recurses := true, named := ["churn/frame.rules"], apart := false, laid := [("churn/frame.rules", laid_churn_frame_rules)] }
def FramePiecesSaid : Prop := framePiecesRow.holds Tryd.pinned (OpenSpec.ofChange framePiecesSpec)

/-- ITS FALSE NEIGHBOUR: 'it returns false'. Refute it at one input. -/
def framePiecesWrong : ChangeSpec := { name := "framePieces", fn := fun _ => fun
  | [d1, d2] => { results := [.lit (.bool false)], args := [d1, d2] }
  | _ => none }
def FramePiecesWrongFalsely : Prop := framePiecesRow.holds Tryd.pinned (OpenSpec.ofChange framePiecesWrong)

/-- 'churnlaw06.FrameTurned': WHATEVER THE INPUT: true; the input reads as it did. -/
def frameTurnedSpec : ChangeSpec := { name := "frameTurned", fn := fun _ => fun
  | [d1, d2, d3] => { results := [.lit (.bool true)], args := [d1, d2, d3] }
  | _ => none }
def frameTurnedRow : OpenClaim := { program := "ytaoncjgllcndmaadoor", sum := "093f7141adfa7900f992176809dcb9f8a9dd55559596c296719567df80fb8500", func := "churn/churnlaw06.FrameTurned", spec := "frameTurned", unfollowed := true, recurses := true, named := ["churn/frame.rules"], apart := false, laid := [("churn/frame.rules", laid_churn_frame_rules)] }
def FrameTurnedSaid : Prop := frameTurnedRow.holds Tryd.pinned (OpenSpec.ofChange frameTurnedSpec)

/-- ITS FALSE NEIGHBOUR: 'it returns false'. Refute it at one input. -/
def frameTurnedWrong : ChangeSpec := { name := "frameTurned", fn := fun _ => fun
  | [d1, d2, d3] => { results := [.lit (.bool false)], args := [d1, d2, d3] }
  | _ => none }
def FrameTurnedWrongFalsely : Prop := frameTurnedRow.holds Tryd.pinned (OpenSpec.ofChange frameTurnedWrong)

/- THE SECOND FORM. 'bulk': how many values and letters a reading holds, each counted each time it is reached (what is shared counts as often as it is met; a slice's spare places count too). A statement '..UptoSaid' is the law's where the arguments, and the package variables that the reading takes, are together of bulk at most 1048576: NARROWER than '..Said'. Prove '..Said' where nothing that the law and all that it calls make is longer than what came in: it says more and counts as full. Else prove '..UptoSaid'. A law counts once. -/
mutual
def uptoBulk {H : Type} : DataW H → Nat
  | .lit (.string bytes) => bytes.length + 1
  | .lit _ => 1
  | .nil => 1
  | .ptr d => uptoBulk d + 1
  | .slice elems spare => uptoBulkAll elems + uptoBulkAll spare + 1
  | .agg parts => uptoBulkAll parts + 1
  | .iface _ d => uptoBulk d + 1
  | .map entries => uptoBulkEntries entries + 1
  | .held _ => 1
def uptoBulkAll {H : Type} : List (DataW H) → Nat
  | [] => 0
  | d :: r => uptoBulk d + uptoBulkAll r
def uptoBulkEntries {H : Type} : List (Lit × DataW H) → Nat
  | [] => 0
  | x :: r => uptoBulkEntry x + uptoBulkEntries r
def uptoBulkEntry {H : Type} : Lit × DataW H → Nat
  | (.string bytes, d) => bytes.length + uptoBulk d + 1
  | (_, d) => uptoBulk d + 1
 end
def uptoSmall : (H : Type) → List (DataW H) → Bool := fun _ ds => decide (uptoBulkAll ds ≤ 1048576)
def OpenSpec.upto (s : _root_.Go.ChangeSpec) : _root_.Go.OpenSpec := { _root_.Go.OpenSpec.ofChange s with cond := some uptoSmall }

/-- 'churnlaw06.FramePacks', WHERE WHAT IT READS IS OF BULK AT MOST 1048576: true; the input reads as it did. -/
def framePacksUptoRow : OpenClaim := { program := "ytaoncjgllcndmaadoor", sum := "093f7141adfa7900f992176809dcb9f8a9dd55559596c296719567df80fb8500", func := "churn/churnlaw06.FramePacks", spec := "framePacks", unfollowed := true, recurses := true, named := ["churn/frame.rules"], apart := false, laid := [("churn/frame.rules", laid_churn_frame_rules)], narrowed := true }
def FramePacksUptoSaid : Prop := framePacksUptoRow.holds Tryd.pinned (OpenSpec.upto framePacksSpec)

/-- 'churnlaw06.FrameReads', WHERE WHAT IT READS IS OF BULK AT MOST 1048576: true; the input reads as it did. -/
def frameReadsUptoRow : OpenClaim := { program := "ytaoncjgllcndmaadoor", sum := "093f7141adfa7900f992176809dcb9f8a9dd55559596c296719567df80fb8500", func := "churn/churnlaw06.FrameReads", spec := "frameReads", unfollowed := true, recurses := true, named := ["churn/frame.rules"], apart := false, laid := [("churn/frame.rules", laid_churn_frame_rules)], narrowed := true }
def FrameReadsUptoSaid : Prop := frameReadsUptoRow.holds Tryd.pinned (OpenSpec.upto frameReadsSpec)

/-- 'churnlaw06.FrameFeeds', WHERE WHAT IT READS IS OF BULK AT MOST 1048576: true; the input reads as it did. -/
def frameFeedsUptoRow : OpenClaim := { program := "ytaoncjgllcndmaadoor", sum := "093f7141adfa7900f992176809dcb9f8a9dd55559596c296719567df80fb8500", func := "churn/churnlaw06.FrameFeeds", spec := "frameFeeds", unfollowed := true, recurses := true, named := ["churn/frame.rules"], apart := false, laid := [("churn/frame.rules", laid_churn_frame_rules)], narrowed := true }
def FrameFeedsUptoSaid : Prop := frameFeedsUptoRow.holds Tryd.pinned (OpenSpec.upto frameFeedsSpec)

/-- 'churnlaw06.FrameBack', WHERE WHAT IT READS IS OF BULK AT MOST 1048576: true; the input reads as it did. -/
def frameBackUptoRow : OpenClaim := { program := "ytaoncjgllcndmaadoor", sum := "093f7141adfa7900f992176809dcb9f8a9dd55559596c296719567df80fb8500", func := "churn/churnlaw06.FrameBack", spec := "frameBack", unfollowed := true, recurses := true, named := ["churn/frame.rules"], apart := false, laid := [("churn/frame.rules", laid_churn_frame_rules)], narrowed := true }
def FrameBackUptoSaid : Prop := frameBackUptoRow.holds Tryd.pinned (OpenSpec.upto frameBackSpec)

/-- 'churnlaw06.FramePieces', WHERE WHAT IT READS IS OF BULK AT MOST 1048576: true; the input reads as it did. -/
def framePiecesUptoRow : OpenClaim := { program := "ytaoncjgllcndmaadoor", sum := "093f7141adfa7900f992176809dcb9f8a9dd55559596c296719567df80fb8500", func := "churn/churnlaw06.FramePieces", spec := "framePieces", unfollowed := true, recurses := true, named := ["churn/frame.rules"], apart := false, laid := [("churn/frame.rules", laid_churn_frame_rules)], narrowed := true }
def FramePiecesUptoSaid : Prop := framePiecesUptoRow.holds Tryd.pinned (OpenSpec.upto framePiecesSpec)

/-- 'churnlaw06.FrameTurned', WHERE WHAT IT READS IS OF BULK AT MOST 1048576: true; the input reads as it did. -/
def frameTurnedUptoRow : OpenClaim := { program := "ytaoncjgllcndmaadoor", sum := "093f7141adfa7900f992176809dcb9f8a9dd55559596c296719567df80fb8500", func := "churn/churnlaw06.FrameTurned", spec := "frameTurned", unfollowed := true, recurses := true, named := ["churn/frame.rules"], apart := false, laid := [("churn/frame.rules", laid_churn_frame_rules)], narrowed := true }
def FrameTurnedUptoSaid : Prop := frameTurnedUptoRow.holds Tryd.pinned (OpenSpec.upto frameTurnedSpec)

end Rows
end Go.Proofs.YtaoncjgllcndmaaDoor

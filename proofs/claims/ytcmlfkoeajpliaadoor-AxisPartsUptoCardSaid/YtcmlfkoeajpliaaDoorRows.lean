/-
  NARROWER THAN 'FOR EVERY INPUT', by the rows' own cells (each row's printed sentence says how): NodeBuilds: loops, laid · NodeBack: loops, laid · NodeNests: loops, laid · NodeFull: loops, laid · AxisWalks: loops, laid · AxisSteps: loops, laid · AxisSets: laid · AxisParts: loops, laid · AxisBack: loops, laid.
  DERIVED. THE GIVEN ROWS OF THIS SEAT. 9 by the template 'for every input the law returns true; each argument reads behind the call as it read before'; 0 by the template 'total and deterministic' (their statements: YtcmlfkoeajpliaaDoorTotals.lean).
  GIVEN WITH THE SEED: the statements are not yours to turn. If you find one false, say at which input.
  Laid BY PROGRAM, IN A SANDBOX (cutbox-rows.mjs): the forced cells as the released guide's own fill.sh prints them over the translation 4b19ad7fc291e632… (all of the seat's roots in one cut). By AI agents, Wed Nov 11 2026. No macro, syntax, notation, axiom, sorry.
-/
import Derived.Test.YtcmlfkoeajpliaaDoorChecked
import GoSem.PinnedTables
import GoSem.Claim
import GoSem.ClaimJoined
import GoSem.ClaimMapViews
import Derived.JoinedTies
import Derived.KernelRfl
namespace Go.Proofs.YtcmlfkoeajpliaaDoor
/- THE CELL 'sum', in the pinned program and in every row, IS THE sha256 OF THE DUMP (.gsa) THAT YtcmlfkoeajpliaaDoorProg.lean LOADS. Nothing in Lean hashes anything: it is a label: what it is worth is what the hold of that sum in a sandbox is worth. -/
noncomputable def Tryd.pinned : Pinned := { name := "ytcmlfkoeajpliaadoor", sum := "4b19ad7fc291e63256fc7a395b6d673d9c966ac6f69fc9813a1005259b3d74b5", checked := Tryd.checked }
namespace Rows
def none {H : Type} : Left H := { results := [], args := [] }

/- WHAT THE LISTED PACKAGE-LEVEL VARIABLES READ AS WHEN THE CALL BEGINS. Each datum BY PROGRAM (the guide's laid-datum.mjs) off the statement by which the dump's own 'gosem.cut.vars' lays the variable. In a bare row this is a premise. The card (YtcmlfkoeajpliaaDoorCards.lean) ties it to the program's text. -/
def laid_unicode_utf8_acceptRanges {H : Type} : DataW H := .agg [.agg [.lit (.int .u8 128), .lit (.int .u8 191)], .agg [.lit (.int .u8 160), .lit (.int .u8 191)], .agg [.lit (.int .u8 128), .lit (.int .u8 159)], .agg [.lit (.int .u8 144), .lit (.int .u8 191)], .agg [.lit (.int .u8 128), .lit (.int .u8 143)], .agg [.lit (.int .u8 0), .lit (.int .u8 0)], .agg [.lit (.int .u8 0), .lit (.int .u8 0)], .agg [.lit (.int .u8 0), .lit (.int .u8 0)], .agg [.lit (.int .u8 0), .lit (.int .u8 0)], .agg [.lit (.int .u8 0), .lit (.int .u8 0)], .agg [.lit (.int .u8 0), .lit (.int .u8 0)], .agg [.lit (.int .u8 0), .lit (.int .u8 0)], .agg [.lit (.int .u8 0), .lit (.int .u8 0)], .agg [.lit (.int .u8 0), .lit (.int .u8 0)], .agg [.lit (.int .u8 0), .lit (.int .u8 0)], .agg [.lit (.int .u8 0), .lit (.int .u8 0)]]
/-- One of Go's own tables, pinned by name: the form's constant. -/
def laid_unicode_utf8_first : DataW Unit := Go.Pinned.utf8First

/-- 'espalierlaw05.NodeBuilds': WHATEVER THE INPUT: true; the input reads as it did. -/
def nodeBuildsSpec : ChangeSpec := { name := "nodeBuilds", fn := fun _ => fun
  | [d1, d2] => { results := [.lit (.bool true)], args := [d1, d2] }
  | _ => none }
def nodeBuildsRow : OpenClaim := { program := "ytcmlfkoeajpliaadoor", sum := "4b19ad7fc291e63256fc7a395b6d673d9c966ac6f69fc9813a1005259b3d74b5", func := "espalier/espalierlaw05.NodeBuilds", spec := "nodeBuilds", inPlace := ["internal/abi.NoEscape"], unfollowed := true, recurses := true, named := ["unicode/utf8.first", "unicode/utf8.acceptRanges"], loops := true, apart := false, laid := [("unicode/utf8.acceptRanges", laid_unicode_utf8_acceptRanges), ("unicode/utf8.first", laid_unicode_utf8_first)] }
def NodeBuildsSaid : Prop := nodeBuildsRow.holds Tryd.pinned (OpenSpec.ofChange nodeBuildsSpec)

/-- ITS FALSE NEIGHBOUR: 'it returns false'. Refute it at one input. -/
def nodeBuildsWrong : ChangeSpec := { name := "nodeBuilds", fn := fun _ => fun
  | [d1, d2] => { results := [.lit (.bool false)], args := [d1, d2] }
  | _ => none }
def NodeBuildsWrongFalsely : Prop := nodeBuildsRow.holds Tryd.pinned (OpenSpec.ofChange nodeBuildsWrong)

/-- 'espalierlaw05.NodeBack': WHATEVER THE INPUT: true; the input reads as it did. -/
def nodeBackSpec : ChangeSpec := { name := "nodeBack", fn := fun _ => fun
  | [d1, d2] => { results := [.lit (.bool true)], args := [d1, d2] }
  | _ => none }
def nodeBackRow : OpenClaim := { program := "ytcmlfkoeajpliaadoor", sum := "4b19ad7fc291e63256fc7a395b6d673d9c966ac6f69fc9813a1005259b3d74b5", func := "espalier/espalierlaw05.NodeBack", spec := "nodeBack", inPlace := ["internal/abi.NoEscape"], unfollowed := true, recurses := true, named := ["unicode/utf8.first", "unicode/utf8.acceptRanges"], loops := true, apart := false, laid := [("unicode/utf8.acceptRanges", laid_unicode_utf8_acceptRanges), ("unicode/utf8.first", laid_unicode_utf8_first)] }
def NodeBackSaid : Prop := nodeBackRow.holds Tryd.pinned (OpenSpec.ofChange nodeBackSpec)

/-- ITS FALSE NEIGHBOUR: 'it returns false'. Refute it at one input. -/
def nodeBackWrong : ChangeSpec := { name := "nodeBack", fn := fun _ => fun
  | [d1, d2] => { results := [.lit (.bool false)], args := [d1, d2] }
  | _ => none }
def NodeBackWrongFalsely : Prop := nodeBackRow.holds Tryd.pinned (OpenSpec.ofChange nodeBackWrong)

/-- 'espalierlaw05.NodeNests': WHATEVER THE INPUT: true; the input reads as it did. -/
def nodeNestsSpec : ChangeSpec := { name := "nodeNests", fn := fun _ => fun
  | [d] => { results := [.lit (.bool true)], args := [d] }
  | _ => none }
def nodeNestsRow : OpenClaim := { program := "ytcmlfkoeajpliaadoor", sum := "4b19ad7fc291e63256fc7a395b6d673d9c966ac6f69fc9813a1005259b3d74b5", func := "espalier/espalierlaw05.NodeNests", spec := "nodeNests", inPlace := ["internal/abi.NoEscape"], unfollowed := true, recurses := true, named := ["unicode/utf8.first", "unicode/utf8.acceptRanges"], loops := true, apart := false, laid := [("unicode/utf8.acceptRanges", laid_unicode_utf8_acceptRanges), ("unicode/utf8.first", laid_unicode_utf8_first)] }
def NodeNestsSaid : Prop := nodeNestsRow.holds Tryd.pinned (OpenSpec.ofChange nodeNestsSpec)

/-- ITS FALSE NEIGHBOUR: 'it returns false'. Refute it at one input. -/
def nodeNestsWrong : ChangeSpec := { name := "nodeNests", fn := fun _ => fun
  | [d] => { results := [.lit (.bool false)], args := [d] }
  | _ => none }
def NodeNestsWrongFalsely : Prop := nodeNestsRow.holds Tryd.pinned (OpenSpec.ofChange nodeNestsWrong)

/-- 'espalierlaw05.NodeFull': WHATEVER THE INPUT: true; the input reads as it did. -/
def nodeFullSpec : ChangeSpec := { name := "nodeFull", fn := fun _ => fun
  | [d1, d2] => { results := [.lit (.bool true)], args := [d1, d2] }
  | _ => none }
def nodeFullRow : OpenClaim := { program := "ytcmlfkoeajpliaadoor", sum := "4b19ad7fc291e63256fc7a395b6d673d9c966ac6f69fc9813a1005259b3d74b5", func := "espalier/espalierlaw05.NodeFull", spec := "nodeFull", inPlace := ["internal/abi.NoEscape"], unfollowed := true, recurses := true, named := ["unicode/utf8.first", "unicode/utf8.acceptRanges"], loops := true, apart := false, laid := [("unicode/utf8.acceptRanges", laid_unicode_utf8_acceptRanges), ("unicode/utf8.first", laid_unicode_utf8_first)] }
def NodeFullSaid : Prop := nodeFullRow.holds Tryd.pinned (OpenSpec.ofChange nodeFullSpec)

/-- ITS FALSE NEIGHBOUR: 'it returns false'. Refute it at one input. -/
def nodeFullWrong : ChangeSpec := { name := "nodeFull", fn := fun _ => fun
  | [d1, d2] => { results := [.lit (.bool false)], args := [d1, d2] }
  | _ => none }
def NodeFullWrongFalsely : Prop := nodeFullRow.holds Tryd.pinned (OpenSpec.ofChange nodeFullWrong)

/-- 'espalierlaw06.AxisWalks': WHATEVER THE INPUT: true; the input reads as it did. -/
def axisWalksSpec : ChangeSpec := { name := "axisWalks", fn := fun _ => fun
  | [d1, d2] => { results := [.lit (.bool true)], args := [d1, d2] }
  | _ => none }
def axisWalksRow : OpenClaim := { program := "ytcmlfkoeajpliaadoor", sum := "4b19ad7fc291e63256fc7a395b6d673d9c966ac6f69fc9813a1005259b3d74b5", func := "espalier/espalierlaw06.AxisWalks", spec := "axisWalks", unfollowed := true, recurses := true, named := ["unicode/utf8.first", "unicode/utf8.acceptRanges"], loops := true, apart := false, laid := [("unicode/utf8.acceptRanges", laid_unicode_utf8_acceptRanges), ("unicode/utf8.first", laid_unicode_utf8_first)] }
def AxisWalksSaid : Prop := axisWalksRow.holds Tryd.pinned (OpenSpec.ofChange axisWalksSpec)

/-- ITS FALSE NEIGHBOUR: 'it returns false'. Refute it at one input. -/
def axisWalksWrong : ChangeSpec := { name := "axisWalks", fn := fun _ => fun
  | [d1, d2] => { results := [.lit (.bool false)], args := [d1, d2] }
  | _ => none }
def AxisWalksWrongFalsely : Prop := axisWalksRow.holds Tryd.pinned (OpenSpec.ofChange axisWalksWrong)

/-- 'espalierlaw06.AxisSteps': WHATEVER THE INPUT: true; the input reads as it did. -/
def axisStepsSpec : ChangeSpec := { name := "axisSteps", fn := fun _ => fun
  | [d1, d2] => { results := [.lit (.bool true)], args := [d1, d2] }
  | _ => none }
def axisStepsRow : OpenClaim := { program := "ytcmlfkoeajpliaadoor", sum := "4b19ad7fc291e63256fc7a395b6d673d9c966ac6f69fc9813a1005259b3d74b5", func := "espalier/espalierlaw06.AxisSteps", spec := "axisSteps", unfollowed := true, recurses := true, named := ["unicode/utf8.first", "unicode/utf8.acceptRanges"], loops := true, apart := false, laid := [("unicode/utf8.acceptRanges", laid_unicode_utf8_acceptRanges), ("unicode/utf8.first", laid_unicode_utf8_first)] }
def AxisStepsSaid : Prop := axisStepsRow.holds Tryd.pinned (OpenSpec.ofChange axisStepsSpec)

/-- ITS FALSE NEIGHBOUR: 'it returns false'. Refute it at one input. -/
def axisStepsWrong : ChangeSpec := { name := "axisSteps", fn := fun _ => fun
  | [d1, d2] => { results := [.lit (.bool false)], args := [d1, d2] }
  | _ => none }
def AxisStepsWrongFalsely : Prop := axisStepsRow.holds Tryd.pinned (OpenSpec.ofChange axisStepsWrong)

/-- 'espalierlaw06.AxisSets': WHATEVER THE INPUT: true; the input reads as it did. -/
def axisSetsSpec : ChangeSpec := { name := "axisSets", fn := fun _ => fun
  | [d1, d2] => { results := [.lit (.bool true)], args := [d1, d2] }
  | _ => none }
def axisSetsRow : OpenClaim := { program := "ytcmlfkoeajpliaadoor", sum := "4b19ad7fc291e63256fc7a395b6d673d9c966ac6f69fc9813a1005259b3d74b5", func := "espalier/espalierlaw06.AxisSets", spec := "axisSets", unfollowed := true, recurses := true, named := ["unicode/utf8.first", "unicode/utf8.acceptRanges"], apart := false, laid := [("unicode/utf8.acceptRanges", laid_unicode_utf8_acceptRanges), ("unicode/utf8.first", laid_unicode_utf8_first)] }
def AxisSetsSaid : Prop := axisSetsRow.holds Tryd.pinned (OpenSpec.ofChange axisSetsSpec)

/-- ITS FALSE NEIGHBOUR: 'it returns false'. Refute it at one input. -/
def axisSetsWrong : ChangeSpec := { name := "axisSets", fn := fun _ => fun
  | [d1, d2] => { results := [.lit (.bool false)], args := [d1, d2] }
  | _ => none }
def AxisSetsWrongFalsely : Prop := axisSetsRow.holds Tryd.pinned (OpenSpec.ofChange axisSetsWrong)

/-- 'espalierlaw06.AxisParts': WHATEVER THE INPUT: true; the input reads as it did. -/
def axisPartsSpec : ChangeSpec := { name := "axisParts", fn := fun _ => fun
  | [d] => { results := [.lit (.bool true)], args := [d] }
  | _ => none }
def axisPartsRow : OpenClaim := { program := "ytcmlfkoeajpliaadoor", sum := "4b19ad7fc291e63256fc7a395b6d673d9c966ac6f69fc9813a1005259b3d74b5", func := "espalier/espalierlaw06.AxisParts", spec := "axisParts", unfollowed := true, recurses := true, named := ["unicode/utf8.first", "unicode/utf8.acceptRanges"], loops := true, apart := false, laid := [("unicode/utf8.acceptRanges", laid_unicode_utf8_acceptRanges), ("unicode/utf8.first", laid_unicode_utf8_first)] }
def AxisPartsSaid : Prop := axisPartsRow.holds Tryd.pinned (OpenSpec.ofChange axisPartsSpec)

/-- ITS FALSE NEIGHBOUR: 'it returns false'. Refute it at one input. -/
def axisPartsWrong : ChangeSpec := { name := "axisParts", fn := fun _ => fun
  | [d] => { results := [.lit (.bool false)], args := [d] }
  | _ => none }
def AxisPartsWrongFalsely : Prop := axisPartsRow.holds Tryd.pinned (OpenSpec.ofChange axisPartsWrong)

/-- 'espalierlaw06.AxisBack': WHATEVER THE INPUT: true; the input reads as it did. -/
def axisBackSpec : ChangeSpec := { name := "axisBack", fn := fun _ => fun
  | [d] => { results := [.lit (.bool true)], args := [d] }
  | _ => none }
def axisBackRow : OpenClaim := { program := "ytcmlfkoeajpliaadoor", sum := "4b19ad7fc291e63256fc7a395b6d673d9c966ac6f69fc9813a1005259b3d74b5", func := "espalier/espalierlaw06.AxisBack", spec := "axisBack", unfollowed := true, recurses := true, named := ["unicode/utf8.first", "unicode/utf8.acceptRanges"], loops := true, apart := false, laid := [("unicode/utf8.acceptRanges", laid_unicode_utf8_acceptRanges), ("unicode/utf8.first", laid_unicode_utf8_first)] }
def AxisBackSaid : Prop := axisBackRow.holds Tryd.pinned (OpenSpec.ofChange axisBackSpec)

/-- ITS FALSE NEIGHBOUR: 'it returns false'. Refute it at one input. -/
def axisBackWrong : ChangeSpec := { name := "axisBack", fn := fun _ => fun
  | [d] => { results := [.lit (.bool false)], args := [d] }
  | _ => none }
def AxisBackWrongFalsely : Prop := axisBackRow.holds Tryd.pinned (OpenSpec.ofChange axisBackWrong)

/- THE SECOND FORM. 'bulk': how many values and letters a reading holds, each counted each time it is reached (what is shared counts as often as it is met; a slice's spare places count too). A statement '..UptoSaid' is the law's where the arguments, and the package variables that the reading takes, are together of bulk at most 1048576: NARROWER than '..Said'. Prove '..Said' where nothing that the law and all that it calls make is longer than what came in: it says more and counts as full. Else prove '..UptoSaid'. A law counts once. -/
mutual
def uptoBulk {H : Type} : DataW H → Nat
  | .lit (.string bytes) => bytes.length + 1
  | .lit _ => 1
  | .nil => 1
  | .ptr d => uptoBulk d + 1
  | .slice elems spare => uptoBulkAll elems + uptoBulkAll spare + 1
  | .agg parts => uptoBulkAll parts + 1
  | .iface _ d => uptoBulk d + 1
  | .map entries => uptoBulkEntries entries + 1
  | .held _ => 1
def uptoBulkAll {H : Type} : List (DataW H) → Nat
  | [] => 0
  | d :: r => uptoBulk d + uptoBulkAll r
def uptoBulkEntries {H : Type} : List (Lit × DataW H) → Nat
  | [] => 0
  | x :: r => uptoBulkEntry x + uptoBulkEntries r
def uptoBulkEntry {H : Type} : Lit × DataW H → Nat
  | (.string bytes, d) => bytes.length + uptoBulk d + 1
  | (_, d) => uptoBulk d + 1
 end
def uptoSmall : (H : Type) → List (DataW H) → Bool := fun _ ds => decide (uptoBulkAll ds ≤ 1048576)
def OpenSpec.upto (s : _root_.Go.ChangeSpec) : _root_.Go.OpenSpec := { _root_.Go.OpenSpec.ofChange s with cond := some uptoSmall }

/-- 'espalierlaw05.NodeBuilds', WHERE WHAT IT READS IS OF BULK AT MOST 1048576: true; the input reads as it did. -/
def nodeBuildsUptoRow : OpenClaim := { program := "ytcmlfkoeajpliaadoor", sum := "4b19ad7fc291e63256fc7a395b6d673d9c966ac6f69fc9813a1005259b3d74b5", func := "espalier/espalierlaw05.NodeBuilds", spec := "nodeBuilds", inPlace := ["internal/abi.NoEscape"], unfollowed := true, recurses := true, named := ["unicode/utf8.first", "unicode/utf8.acceptRanges"], loops := true, apart := false, laid := [("unicode/utf8.acceptRanges", laid_unicode_utf8_acceptRanges), ("unicode/utf8.first", laid_unicode_utf8_first)], narrowed := true }
def NodeBuildsUptoSaid : Prop := nodeBuildsUptoRow.holds Tryd.pinned (OpenSpec.upto nodeBuildsSpec)

/-- 'espalierlaw05.NodeBack', WHERE WHAT IT READS IS OF BULK AT MOST 1048576: true; the input reads as it did. -/
def nodeBackUptoRow : OpenClaim := { program := "ytcmlfkoeajpliaadoor", sum := "4b19ad7fc291e63256fc7a395b6d673d9c966ac6f69fc9813a1005259b3d74b5", func := "espalier/espalierlaw05.NodeBack", spec := "nodeBack", inPlace := ["internal/abi.NoEscape"], unfollowed := true, recurses := true, named := ["unicode/utf8.first", "unicode/utf8.acceptRanges"], loops := true, apart := false, laid := [("unicode/utf8.acceptRanges", laid_unicode_utf8_acceptRanges), ("unicode/utf8.first", laid_unicode_utf8_first)], narrowed := true }
def NodeBackUptoSaid : Prop := nodeBackUptoRow.holds Tryd.pinned (OpenSpec.upto nodeBackSpec)

/-- 'espalierlaw05.NodeNests', WHERE WHAT IT READS IS OF BULK AT MOST 1048576: true; the input reads as it did. -/
def nodeNestsUptoRow : OpenClaim := { program := "ytcmlfkoeajpliaadoor", sum := "4b19ad7fc291e63256fc7a395b6d673d9c966ac6f69fc9813a1005259b3d74b5", func := "espalier/espalierlaw05.NodeNests", spec := "nodeNests", inPlace := ["internal/abi.NoEscape"], unfollowed := true, recurses := true, named := ["unicode/utf8.first", "unicode/utf8.acceptRanges"], loops := true, apart := false, laid := [("unicode/utf8.acceptRanges", laid_unicode_utf8_acceptRanges), ("unicode/utf8.first", laid_unicode_utf8_first)], narrowed := true }
def NodeNestsUptoSaid : Prop := nodeNestsUptoRow.holds Tryd.pinned (OpenSpec.upto nodeNestsSpec)

/-- 'espalierlaw05.NodeFull', WHERE WHAT IT READS IS OF BULK AT MOST 1048576: true; the input reads as it did. -/
def nodeFullUptoRow : OpenClaim := { program := "ytcmlfkoeajpliaadoor", sum := "4b19ad7fc291e63256fc7a395b6d673d9c966ac6f69fc9813a1005259b3d74b5", func := "espalier/espalierlaw05.NodeFull", spec := "nodeFull", inPlace := ["internal/abi.NoEscape"], unfollowed := true, recurses := true, named := ["unicode/utf8.first", "unicode/utf8.acceptRanges"], loops := true, apart := false, laid := [("unicode/utf8.acceptRanges", laid_unicode_utf8_acceptRanges), ("unicode/utf8.first", laid_unicode_utf8_first)], narrowed := true }
def NodeFullUptoSaid : Prop := nodeFullUptoRow.holds Tryd.pinned (OpenSpec.upto nodeFullSpec)

/-- 'espalierlaw06.AxisWalks', WHERE WHAT IT READS IS OF BULK AT MOST 1048576: true; the input reads as it did. -/
def axisWalksUptoRow : OpenClaim := { program := "ytcmlfkoeajpliaadoor", sum := "4b19ad7fc291e63256fc7a395b6d673d9c966ac6f69fc9813a1005259b3d74b5", func := "espalier/espalierlaw06.AxisWalks", spec := "axisWalks", unfollowed := true, recurses := true, named := ["unicode/utf8.first", "unicode/utf8.acceptRanges"], loops := true, apart := false, laid := [("unicode/utf8.acceptRanges", laid_unicode_utf8_acceptRanges), ("unicode/utf8.first", laid_unicode_utf8_first)], narrowed := true }
def AxisWalksUptoSaid : Prop := axisWalksUptoRow.holds Tryd.pinned (OpenSpec.upto axisWalksSpec)

/-- 'espalierlaw06.AxisSteps', WHERE WHAT IT READS IS OF BULK AT MOST 1048576: true; the input reads as it did. -/
def axisStepsUptoRow : OpenClaim := { program := "ytcmlfkoeajpliaadoor", sum := "4b19ad7fc291e63256fc7a395b6d673d9c966ac6f69fc9813a1005259b3d74b5", func := "espalier/espalierlaw06.AxisSteps", spec := "axisSteps", unfollowed := true, recurses := true, named := ["unicode/utf8.first", "unicode/utf8.acceptRanges"], loops := true, apart := false, laid := [("unicode/utf8.acceptRanges", laid_unicode_utf8_acceptRanges), ("unicode/utf8.first", laid_unicode_utf8_first)], narrowed := true }
def AxisStepsUptoSaid : Prop := axisStepsUptoRow.holds Tryd.pinned (OpenSpec.upto axisStepsSpec)

/-- 'espalierlaw06.AxisSets', WHERE WHAT IT READS IS OF BULK AT MOST 1048576: true; the input reads as it did. -/
def axisSetsUptoRow : OpenClaim := { program := "ytcmlfkoeajpliaadoor", sum := "4b19ad7fc291e63256fc7a395b6d673d9c966ac6f69fc9813a1005259b3d74b5", func := "espalier/espalierlaw06.AxisSets", spec := "axisSets", unfollowed := true, recurses := true, named := ["unicode/utf8.first", "unicode/utf8.acceptRanges"], apart := false, laid := [("unicode/utf8.acceptRanges", laid_unicode_utf8_acceptRanges), ("unicode/utf8.first", laid_unicode_utf8_first)], narrowed := true }
def AxisSetsUptoSaid : Prop := axisSetsUptoRow.holds Tryd.pinned (OpenSpec.upto axisSetsSpec)

/-- 'espalierlaw06.AxisParts', WHERE WHAT IT READS IS OF BULK AT MOST 1048576: true; the input reads as it did. -/
def axisPartsUptoRow : OpenClaim := { program := "ytcmlfkoeajpliaadoor", sum := "4b19ad7fc291e63256fc7a395b6d673d9c966ac6f69fc9813a1005259b3d74b5", func := "espalier/espalierlaw06.AxisParts", spec := "axisParts", unfollowed := true, recurses := true, named := ["unicode/utf8.first", "unicode/utf8.acceptRanges"], loops := true, apart := false, laid := [("unicode/utf8.acceptRanges", laid_unicode_utf8_acceptRanges), ("unicode/utf8.first", laid_unicode_utf8_first)], narrowed := true }
def AxisPartsUptoSaid : Prop := axisPartsUptoRow.holds Tryd.pinned (OpenSpec.upto axisPartsSpec)

/-- 'espalierlaw06.AxisBack', WHERE WHAT IT READS IS OF BULK AT MOST 1048576: true; the input reads as it did. -/
def axisBackUptoRow : OpenClaim := { program := "ytcmlfkoeajpliaadoor", sum := "4b19ad7fc291e63256fc7a395b6d673d9c966ac6f69fc9813a1005259b3d74b5", func := "espalier/espalierlaw06.AxisBack", spec := "axisBack", unfollowed := true, recurses := true, named := ["unicode/utf8.first", "unicode/utf8.acceptRanges"], loops := true, apart := false, laid := [("unicode/utf8.acceptRanges", laid_unicode_utf8_acceptRanges), ("unicode/utf8.first", laid_unicode_utf8_first)], narrowed := true }
def AxisBackUptoSaid : Prop := axisBackUptoRow.holds Tryd.pinned (OpenSpec.upto axisBackSpec)

end Rows
end Go.Proofs.YtcmlfkoeajpliaaDoor

/-
  NARROWER THAN 'FOR EVERY INPUT', by the rows' own cells (each row's printed sentence says how): CharTexts: laid · CharSubs: laid · CharOrders: laid · CharBack: laid · CharNames: laid.
  DERIVED. THE GIVEN ROWS OF THIS SEAT. 5 by the template 'for every input the law returns true; each argument reads behind the call as it read before'; 0 by the template 'total and deterministic' (their statements: YtklkodifbdpihaaDoorTotals.lean).
  GIVEN WITH THE SEED: the statements are not yours to turn. If you find one false, say at which input.
  Laid BY PROGRAM, IN A SANDBOX (cutbox-rows.mjs): the forced cells as the released guide's own fill.sh prints them over the translation 10c7fcc788596328… (all of the seat's roots in one cut). By AI agents, Wed Nov 11 2026. No macro, syntax, notation, axiom, sorry.
-/
import Derived.Test.YtklkodifbdpihaaDoorChecked
import GoSem.PinnedTables
import GoSem.Claim
import GoSem.ClaimJoined
import GoSem.ClaimMapViews
import Derived.JoinedTies
import Derived.KernelRfl
namespace Go.Proofs.YtklkodifbdpihaaDoor
/- THE CELL 'sum', in the pinned program and in every row, IS THE sha256 OF THE DUMP (.gsa) THAT YtklkodifbdpihaaDoorProg.lean LOADS. Nothing in Lean hashes anything: it is a label: what it is worth is what the hold of that sum in a sandbox is worth. -/
noncomputable def Tryd.pinned : Pinned := { name := "ytklkodifbdpihaadoor", sum := "10c7fcc7885963281828effd3e90086f4ec30960fae764529a487c23c9db497f", checked := Tryd.checked }
namespace Rows
def none {H : Type} : Left H := { results := [], args := [] }

/- WHAT THE LISTED PACKAGE-LEVEL VARIABLES READ AS WHEN THE CALL BEGINS. Each datum BY PROGRAM (the guide's laid-datum.mjs) off the statement by which the dump's own 'gosem.cut.vars' lays the variable. In a bare row this is a premise. The card (YtklkodifbdpihaaDoorCards.lean) ties it to the program's text. -/
def laid_unicode_utf8_acceptRanges {H : Type} : DataW H := .agg [.agg [.lit (.int .u8 128), .lit (.int .u8 191)], .agg [.lit (.int .u8 160), .lit (.int .u8 191)], .agg [.lit (.int .u8 128), .lit (.int .u8 159)], .agg [.lit (.int .u8 144), .lit (.int .u8 191)], .agg [.lit (.int .u8 128), .lit (.int .u8 143)], .agg [.lit (.int .u8 0), .lit (.int .u8 0)], .agg [.lit (.int .u8 0), .lit (.int .u8 0)], .agg [.lit (.int .u8 0), .lit (.int .u8 0)], .agg [.lit (.int .u8 0), .lit (.int .u8 0)], .agg [.lit (.int .u8 0), .lit (.int .u8 0)], .agg [.lit (.int .u8 0), .lit (.int .u8 0)], .agg [.lit (.int .u8 0), .lit (.int .u8 0)], .agg [.lit (.int .u8 0), .lit (.int .u8 0)], .agg [.lit (.int .u8 0), .lit (.int .u8 0)], .agg [.lit (.int .u8 0), .lit (.int .u8 0)], .agg [.lit (.int .u8 0), .lit (.int .u8 0)]]
/-- One of Go's own tables, pinned by name: the form's constant. -/
def laid_unicode_utf8_first : DataW Unit := Go.Pinned.utf8First

/-- 'espalierlaw01.CharTexts': WHATEVER THE INPUT: true; the input reads as it did. -/
def charTextsSpec : ChangeSpec := { name := "charTexts", fn := fun _ => fun
  | [d] => { results := [.lit (.bool true)], args := [d] }
  | _ => none }
def charTextsRow : OpenClaim := { program := "ytklkodifbdpihaadoor", sum := "10c7fcc7885963281828effd3e90086f4ec30960fae764529a487c23c9db497f", func := "espalier/espalierlaw01.CharTexts", spec := "charTexts", inPlace := ["internal/abi.NoEscape", "internal/bytealg.MakeNoZero"], unfollowed := true, recurses := true, named := ["unicode/utf8.first", "unicode/utf8.acceptRanges"], apart := false, laid := [("unicode/utf8.acceptRanges", laid_unicode_utf8_acceptRanges), ("unicode/utf8.first", laid_unicode_utf8_first)] }
def CharTextsSaid : Prop := charTextsRow.holds Tryd.pinned (OpenSpec.ofChange charTextsSpec)

/-- ITS FALSE NEIGHBOUR: 'it returns false'. Refute it at one input. -/
def charTextsWrong : ChangeSpec := { name := "charTexts", fn := fun _ => fun
  | [d] => { results := [.lit (.bool false)], args := [d] }
  | _ => none }
def CharTextsWrongFalsely : Prop := charTextsRow.holds Tryd.pinned (OpenSpec.ofChange charTextsWrong)

/-- 'espalierlaw01.CharSubs': WHATEVER THE INPUT: true; the input reads as it did. -/
def charSubsSpec : ChangeSpec := { name := "charSubs", fn := fun _ => fun
  | [d1, d2, d3] => { results := [.lit (.bool true)], args := [d1, d2, d3] }
  | _ => none }
def charSubsRow : OpenClaim := { program := "ytklkodifbdpihaadoor", sum := "10c7fcc7885963281828effd3e90086f4ec30960fae764529a487c23c9db497f", func := "espalier/espalierlaw01.CharSubs", spec := "charSubs", inPlace := ["internal/abi.NoEscape", "internal/bytealg.MakeNoZero"], unfollowed := true, recurses := true, named := ["unicode/utf8.first", "unicode/utf8.acceptRanges"], apart := false, laid := [("unicode/utf8.acceptRanges", laid_unicode_utf8_acceptRanges), ("unicode/utf8.first", laid_unicode_utf8_first)] }
def CharSubsSaid : Prop := charSubsRow.holds Tryd.pinned (OpenSpec.ofChange charSubsSpec)

/-- ITS FALSE NEIGHBOUR: 'it returns false'. Refute it at one input. -/
def charSubsWrong : ChangeSpec := { name := "charSubs", fn := fun _ => fun
  | [d1, d2, d3] => { results := [.lit (.bool false)], args := [d1, d2, d3] }
  | _ => none }
def CharSubsWrongFalsely : Prop := charSubsRow.holds Tryd.pinned (OpenSpec.ofChange charSubsWrong)

/-- 'espalierlaw01.CharOrders': WHATEVER THE INPUT: true; the input reads as it did. -/
def charOrdersSpec : ChangeSpec := { name := "charOrders", fn := fun _ => fun
  | [d1, d2, d3] => { results := [.lit (.bool true)], args := [d1, d2, d3] }
  | _ => none }
def charOrdersRow : OpenClaim := { program := "ytklkodifbdpihaadoor", sum := "10c7fcc7885963281828effd3e90086f4ec30960fae764529a487c23c9db497f", func := "espalier/espalierlaw01.CharOrders", spec := "charOrders", inPlace := ["internal/abi.NoEscape", "internal/bytealg.MakeNoZero", "internal/bytealg.abigen_runtime_cmpstring"], unfollowed := true, recurses := true, named := ["unicode/utf8.first", "unicode/utf8.acceptRanges"], apart := false, laid := [("unicode/utf8.acceptRanges", laid_unicode_utf8_acceptRanges), ("unicode/utf8.first", laid_unicode_utf8_first)] }
def CharOrdersSaid : Prop := charOrdersRow.holds Tryd.pinned (OpenSpec.ofChange charOrdersSpec)

/-- ITS FALSE NEIGHBOUR: 'it returns false'. Refute it at one input. -/
def charOrdersWrong : ChangeSpec := { name := "charOrders", fn := fun _ => fun
  | [d1, d2, d3] => { results := [.lit (.bool false)], args := [d1, d2, d3] }
  | _ => none }
def CharOrdersWrongFalsely : Prop := charOrdersRow.holds Tryd.pinned (OpenSpec.ofChange charOrdersWrong)

/-- 'espalierlaw01.CharBack': WHATEVER THE INPUT: true; the input reads as it did. -/
def charBackSpec : ChangeSpec := { name := "charBack", fn := fun _ => fun
  | [d1, d2] => { results := [.lit (.bool true)], args := [d1, d2] }
  | _ => none }
def charBackRow : OpenClaim := { program := "ytklkodifbdpihaadoor", sum := "10c7fcc7885963281828effd3e90086f4ec30960fae764529a487c23c9db497f", func := "espalier/espalierlaw01.CharBack", spec := "charBack", inPlace := ["internal/abi.NoEscape", "internal/bytealg.MakeNoZero"], unfollowed := true, recurses := true, named := ["unicode/utf8.first", "unicode/utf8.acceptRanges"], apart := false, laid := [("unicode/utf8.acceptRanges", laid_unicode_utf8_acceptRanges), ("unicode/utf8.first", laid_unicode_utf8_first)] }
def CharBackSaid : Prop := charBackRow.holds Tryd.pinned (OpenSpec.ofChange charBackSpec)

/-- ITS FALSE NEIGHBOUR: 'it returns false'. Refute it at one input. -/
def charBackWrong : ChangeSpec := { name := "charBack", fn := fun _ => fun
  | [d1, d2] => { results := [.lit (.bool false)], args := [d1, d2] }
  | _ => none }
def CharBackWrongFalsely : Prop := charBackRow.holds Tryd.pinned (OpenSpec.ofChange charBackWrong)

/-- 'espalierlaw01.CharNames': WHATEVER THE INPUT: true; the input reads as it did. -/
def charNamesSpec : ChangeSpec := { name := "charNames", fn := fun _ => fun
  | [d] => { results := [.lit (.bool true)], args := [d] }
  | _ => none }
def charNamesRow : OpenClaim := { program := "ytklkodifbdpihaadoor", sum := "10c7fcc7885963281828effd3e90086f4ec30960fae764529a487c23c9db497f", func := "espalier/espalierlaw01.CharNames", spec := "charNames", inPlace := ["internal/abi.NoEscape", "internal/bytealg.MakeNoZero"], unfollowed := true, recurses := true, named := ["unicode/utf8.first", "unicode/utf8.acceptRanges"], apart := false, laid := [("unicode/utf8.acceptRanges", laid_unicode_utf8_acceptRanges), ("unicode/utf8.first", laid_unicode_utf8_first)] }
def CharNamesSaid : Prop := charNamesRow.holds Tryd.pinned (OpenSpec.ofChange charNamesSpec)

/-- ITS FALSE NEIGHBOUR: 'it returns false'. Refute it at one input. -/
def charNamesWrong : ChangeSpec := { name := "charNames", fn := fun _ => fun
  | [d] => { results := [.lit (.bool false)], args := [d] }
  | _ => none }
def CharNamesWrongFalsely : Prop := charNamesRow.holds Tryd.pinned (OpenSpec.ofChange charNamesWrong)

/- THE SECOND FORM. 'bulk': how many values and letters a reading holds, each counted each time it is reached (what is shared counts as often as it is met; a slice's spare places count too). A statement '..UptoSaid' is the law's where the arguments, and the package variables that the reading takes, are together of bulk at most 1048576: NARROWER than '..Said'. Prove '..Said' where nothing that the law and all that it calls make is longer than what came in: it says more and counts as full. Else prove '..UptoSaid'. A law counts once. -/
mutual
def uptoBulk {H : Type} : DataW H → Nat
  | .lit (.string bytes) => bytes.length + 1
  | .lit _ => 1
  | .nil => 1
  | .ptr d => uptoBulk d + 1
  | .slice elems spare => uptoBulkAll elems + uptoBulkAll spare + 1
  | .agg parts => uptoBulkAll parts + 1
  | .iface _ d => uptoBulk d + 1
  | .map entries => uptoBulkEntries entries + 1
  | .held _ => 1
def uptoBulkAll {H : Type} : List (DataW H) → Nat
  | [] => 0
  | d :: r => uptoBulk d + uptoBulkAll r
def uptoBulkEntries {H : Type} : List (Lit × DataW H) → Nat
  | [] => 0
  | x :: r => uptoBulkEntry x + uptoBulkEntries r
def uptoBulkEntry {H : Type} : Lit × DataW H → Nat
  | (.string bytes, d) => bytes.length + uptoBulk d + 1
  | (_, d) => uptoBulk d + 1
 end
def uptoSmall : (H : Type) → List (DataW H) → Bool := fun _ ds => decide (uptoBulkAll ds ≤ 1048576)
def OpenSpec.upto (s : _root_.Go.ChangeSpec) : _root_.Go.OpenSpec := { _root_.Go.OpenSpec.ofChange s with cond := some uptoSmall }

/-- 'espalierlaw01.CharTexts', WHERE WHAT IT READS IS OF BULK AT MOST 1048576: true; the input reads as it did. -/
def charTextsUptoRow : OpenClaim := { program := "ytklkodifbdpihaadoor", sum := "10c7fcc7885963281828effd3e90086f4ec30960fae764529a487c23c9db497f", func := "espalier/espalierlaw01.CharTexts", spec := "charTexts", inPlace := ["internal/abi.NoEscape", "internal/bytealg.MakeNoZero"], unfollowed := true, recurses := true, named := ["unicode/utf8.first", "unicode/utf8.acceptRanges"], apart := false, laid := [("unicode/utf8.acceptRanges", laid_unicode_utf8_acceptRanges), ("unicode/utf8.first", laid_unicode_utf8_first)], narrowed := true }
def CharTextsUptoSaid : Prop := charTextsUptoRow.holds Tryd.pinned (OpenSpec.upto charTextsSpec)

/-- 'espalierlaw01.CharSubs', WHERE WHAT IT READS IS OF BULK AT MOST 1048576: true; the input reads as it did. -/
def charSubsUptoRow : OpenClaim := { program := "ytklkodifbdpihaadoor", sum := "10c7fcc7885963281828effd3e90086f4ec30960fae764529a487c23c9db497f", func := "espalier/espalierlaw01.CharSubs", spec := "charSubs", inPlace := ["internal/abi.NoEscape", "internal/bytealg.MakeNoZero"], unfollowed := true, recurses := true, named := ["unicode/utf8.first", "unicode/utf8.acceptRanges"], apart := false, laid := [("unicode/utf8.acceptRanges", laid_unicode_utf8_acceptRanges), ("unicode/utf8.first", laid_unicode_utf8_first)], narrowed := true }
def CharSubsUptoSaid : Prop := charSubsUptoRow.holds Tryd.pinned (OpenSpec.upto charSubsSpec)

/-- 'espalierlaw01.CharOrders', WHERE WHAT IT READS IS OF BULK AT MOST 1048576: true; the input reads as it did. -/
def charOrdersUptoRow : OpenClaim := { program := "ytklkodifbdpihaadoor", sum := "10c7fcc7885963281828effd3e90086f4ec30960fae764529a487c23c9db497f", func := "espalier/espalierlaw01.CharOrders", spec := "charOrders", inPlace := ["internal/abi.NoEscape", "internal/bytealg.MakeNoZero", "internal/bytealg.abigen_runtime_cmpstring"], unfollowed := true, recurses := true, named := ["unicode/utf8.first", "unicode/utf8.acceptRanges"], apart := false, laid := [("unicode/utf8.acceptRanges", laid_unicode_utf8_acceptRanges), ("unicode/utf8.first", laid_unicode_utf8_first)], narrowed := true }
def CharOrdersUptoSaid : Prop := charOrdersUptoRow.holds Tryd.pinned (OpenSpec.upto charOrdersSpec)

/-- 'espalierlaw01.CharBack', WHERE WHAT IT READS IS OF BULK AT MOST 1048576: true; the input reads as it did. -/
def charBackUptoRow : OpenClaim := { program := "ytklkodifbdpihaadoor", sum := "10c7fcc7885963281828effd3e90086f4ec30960fae764529a487c23c9db497f", func := "espalier/espalierlaw01.CharBack", spec := "charBack", inPlace := ["internal/abi.NoEscape", "internal/bytealg.MakeNoZero"], unfollowed := true, recurses := true, named := ["unicode/utf8.first", "unicode/utf8.acceptRanges"], apart := false, laid := [("unicode/utf8.acceptRanges", laid_unicode_utf8_acceptRanges), ("unicode/utf8.first", laid_unicode_utf8_first)], narrowed := true }
def CharBackUptoSaid : Prop := charBackUptoRow.holds Tryd.pinned (OpenSpec.upto charBackSpec)

/-- 'espalierlaw01.CharNames', WHERE WHAT IT READS IS OF BULK AT MOST 1048576: true; the input reads as it did. -/
def charNamesUptoRow : OpenClaim := { program := "ytklkodifbdpihaadoor", sum := "10c7fcc7885963281828effd3e90086f4ec30960fae764529a487c23c9db497f", func := "espalier/espalierlaw01.CharNames", spec := "charNames", inPlace := ["internal/abi.NoEscape", "internal/bytealg.MakeNoZero"], unfollowed := true, recurses := true, named := ["unicode/utf8.first", "unicode/utf8.acceptRanges"], apart := false, laid := [("unicode/utf8.acceptRanges", laid_unicode_utf8_acceptRanges), ("unicode/utf8.first", laid_unicode_utf8_first)], narrowed := true }
def CharNamesUptoSaid : Prop := charNamesUptoRow.holds Tryd.pinned (OpenSpec.upto charNamesSpec)

end Rows
end Go.Proofs.YtklkodifbdpihaaDoor

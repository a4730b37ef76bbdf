/-
  NARROWER THAN 'FOR EVERY INPUT', by the rows' own cells (each row's printed sentence says how): TypesMatch: loops, laid · TypesMix: laid · TypesHold: loops, laid · TypesEven: laid · TypesKinds: loops, laid.
  DERIVED. THE GIVEN ROWS OF THIS SEAT. 5 by the template 'for every input the law returns true; each argument reads behind the call as it read before'; 0 by the template 'total and deterministic' (their statements: YtjpopmgnhgancaaDoorTotals.lean).
  GIVEN WITH THE SEED: the statements are not yours to turn. If you find one false, say at which input.
  Laid BY PROGRAM, IN A SANDBOX (cutbox-rows.mjs): the forced cells as the released guide's own fill.sh prints them over the translation 84baf8b067d107a5… (all of the seat's roots in one cut). By AI agents, Wed Nov 11 2026. No macro, syntax, notation, axiom, sorry.
-/
import Derived.Test.YtjpopmgnhgancaaDoorChecked
import GoSem.PinnedTables
import GoSem.Claim
import GoSem.ClaimJoined
import GoSem.ClaimMapViews
import Derived.JoinedTies
import Derived.KernelRfl
namespace Go.Proofs.YtjpopmgnhgancaaDoor
/- THE CELL 'sum', in the pinned program and in every row, IS THE sha256 OF THE DUMP (.gsa) THAT YtjpopmgnhgancaaDoorProg.lean LOADS. Nothing in Lean hashes anything: it is a label: what it is worth is what the hold of that sum in a sandbox is worth. -/
noncomputable def Tryd.pinned : Pinned := { name := "ytjpopmgnhgancaadoor", sum := "84baf8b067d107a5702373fdbe8e36cebd00d0ecf3c973d23c9b5729b826cbaa", checked := Tryd.checked }
namespace Rows
def none {H : Type} : Left H := { results := [], args := [] }

/- WHAT THE LISTED PACKAGE-LEVEL VARIABLES READ AS WHEN THE CALL BEGINS. Each datum BY PROGRAM (the guide's laid-datum.mjs) off the statement by which the dump's own 'gosem.cut.vars' lays the variable. In a bare row this is a premise. The card (YtjpopmgnhgancaaDoorCards.lean) ties it to the program's text. -/
def laid_unicode_utf8_acceptRanges {H : Type} : DataW H := .agg [.agg [.lit (.int .u8 128), .lit (.int .u8 191)], .agg [.lit (.int .u8 160), .lit (.int .u8 191)], .agg [.lit (.int .u8 128), .lit (.int .u8 159)], .agg [.lit (.int .u8 144), .lit (.int .u8 191)], .agg [.lit (.int .u8 128), .lit (.int .u8 143)], .agg [.lit (.int .u8 0), .lit (.int .u8 0)], .agg [.lit (.int .u8 0), .lit (.int .u8 0)], .agg [.lit (.int .u8 0), .lit (.int .u8 0)], .agg [.lit (.int .u8 0), .lit (.int .u8 0)], .agg [.lit (.int .u8 0), .lit (.int .u8 0)], .agg [.lit (.int .u8 0), .lit (.int .u8 0)], .agg [.lit (.int .u8 0), .lit (.int .u8 0)], .agg [.lit (.int .u8 0), .lit (.int .u8 0)], .agg [.lit (.int .u8 0), .lit (.int .u8 0)], .agg [.lit (.int .u8 0), .lit (.int .u8 0)], .agg [.lit (.int .u8 0), .lit (.int .u8 0)]]
def laid_espalier_types_unseen {H : Type} : DataW H := .agg [.lit (.int .i64 2), .lit (.int .i64 0)]
def laid_espalier_types_leastOfAtom {H : Type} : DataW H := .agg [.lit (.int .i64 0), .lit (.int .i64 1), .lit (.int .i64 2), .lit (.int .i64 3), .lit (.int .i64 4), .lit (.int .i64 5)]
def laid_espalier_types_leastOfNode {H : Type} : DataW H := .agg [.lit (.int .i64 13), .lit (.int .i64 7), .lit (.int .i64 8), .lit (.int .i64 9), .lit (.int .i64 10), .lit (.int .i64 11)]
def laid_espalier_types_leastAbove {H : Type} : DataW H := .agg [.lit (.int .i64 0), .lit (.int .i64 2), .lit (.int .i64 6), .lit (.int .i64 6), .lit (.int .i64 6), .lit (.int .i64 6), .lit (.int .i64 13), .lit (.int .i64 12), .lit (.int .i64 12), .lit (.int .i64 12), .lit (.int .i64 12), .lit (.int .i64 12), .lit (.int .i64 13), .lit (.int .i64 0)]
/-- One of Go's own tables, pinned by name: the form's constant. -/
def laid_unicode_utf8_first : DataW Unit := Go.Pinned.utf8First

/-- 'espalierlaw14.TypesMatch': WHATEVER THE INPUT: true; the input reads as it did. -/
def typesMatchSpec : ChangeSpec := { name := "typesMatch", fn := fun _ => fun
  | [d1, d2, d3] => { results := [.lit (.bool true)], args := [d1, d2, d3] }
  | _ => none }
def typesMatchRow : OpenClaim := { program := "ytjpopmgnhgancaadoor", sum := "84baf8b067d107a5702373fdbe8e36cebd00d0ecf3c973d23c9b5729b826cbaa", func := "espalier/espalierlaw14.TypesMatch", spec := "typesMatch", unfollowed := true, recurses := true, named := ["espalier/types.leastAbove", "espalier/types.unseen", "unicode/utf8.first", "unicode/utf8.acceptRanges", "espalier/types.leastOfNode", "espalier/types.leastOfAtom"], loops := true, apart := false, laid := [("unicode/utf8.acceptRanges", laid_unicode_utf8_acceptRanges), ("espalier/types.unseen", laid_espalier_types_unseen), ("espalier/types.leastOfAtom", laid_espalier_types_leastOfAtom), ("espalier/types.leastOfNode", laid_espalier_types_leastOfNode), ("espalier/types.leastAbove", laid_espalier_types_leastAbove), ("unicode/utf8.first", laid_unicode_utf8_first)] }
def TypesMatchSaid : Prop := typesMatchRow.holds Tryd.pinned (OpenSpec.ofChange typesMatchSpec)

/-- ITS FALSE NEIGHBOUR: 'it returns false'. Refute it at one input. -/
def typesMatchWrong : ChangeSpec := { name := "typesMatch", fn := fun _ => fun
  | [d1, d2, d3] => { results := [.lit (.bool false)], args := [d1, d2, d3] }
  | _ => none }
def TypesMatchWrongFalsely : Prop := typesMatchRow.holds Tryd.pinned (OpenSpec.ofChange typesMatchWrong)

/-- 'espalierlaw14.TypesMix': WHATEVER THE INPUT: true; the input reads as it did. -/
def typesMixSpec : ChangeSpec := { name := "typesMix", fn := fun _ => fun
  | [d1, d2, d3] => { results := [.lit (.bool true)], args := [d1, d2, d3] }
  | _ => none }
def typesMixRow : OpenClaim := { program := "ytjpopmgnhgancaadoor", sum := "84baf8b067d107a5702373fdbe8e36cebd00d0ecf3c973d23c9b5729b826cbaa", func := "espalier/espalierlaw14.TypesMix", spec := "typesMix", named := ["espalier/types.leastAbove", "espalier/types.unseen"], apart := false, laid := [("espalier/types.unseen", laid_espalier_types_unseen), ("espalier/types.leastAbove", laid_espalier_types_leastAbove)] }
def TypesMixSaid : Prop := typesMixRow.holds Tryd.pinned (OpenSpec.ofChange typesMixSpec)

/-- ITS FALSE NEIGHBOUR: 'it returns false'. Refute it at one input. -/
def typesMixWrong : ChangeSpec := { name := "typesMix", fn := fun _ => fun
  | [d1, d2, d3] => { results := [.lit (.bool false)], args := [d1, d2, d3] }
  | _ => none }
def TypesMixWrongFalsely : Prop := typesMixRow.holds Tryd.pinned (OpenSpec.ofChange typesMixWrong)

/-- 'espalierlaw14.TypesHold': WHATEVER THE INPUT: true; the input reads as it did. -/
def typesHoldSpec : ChangeSpec := { name := "typesHold", fn := fun _ => fun
  | [d1, d2, d3] => { results := [.lit (.bool true)], args := [d1, d2, d3] }
  | _ => none }
def typesHoldRow : OpenClaim := { program := "ytjpopmgnhgancaadoor", sum := "84baf8b067d107a5702373fdbe8e36cebd00d0ecf3c973d23c9b5729b826cbaa", func := "espalier/espalierlaw14.TypesHold", spec := "typesHold", unfollowed := true, recurses := true, named := ["espalier/types.leastAbove", "espalier/types.unseen", "unicode/utf8.first", "unicode/utf8.acceptRanges", "espalier/types.leastOfNode", "espalier/types.leastOfAtom"], loops := true, apart := false, laid := [("unicode/utf8.acceptRanges", laid_unicode_utf8_acceptRanges), ("espalier/types.unseen", laid_espalier_types_unseen), ("espalier/types.leastOfAtom", laid_espalier_types_leastOfAtom), ("espalier/types.leastOfNode", laid_espalier_types_leastOfNode), ("espalier/types.leastAbove", laid_espalier_types_leastAbove), ("unicode/utf8.first", laid_unicode_utf8_first)] }
def TypesHoldSaid : Prop := typesHoldRow.holds Tryd.pinned (OpenSpec.ofChange typesHoldSpec)

/-- ITS FALSE NEIGHBOUR: 'it returns false'. Refute it at one input. -/
def typesHoldWrong : ChangeSpec := { name := "typesHold", fn := fun _ => fun
  | [d1, d2, d3] => { results := [.lit (.bool false)], args := [d1, d2, d3] }
  | _ => none }
def TypesHoldWrongFalsely : Prop := typesHoldRow.holds Tryd.pinned (OpenSpec.ofChange typesHoldWrong)

/-- 'espalierlaw14.TypesEven': WHATEVER THE INPUT: true; the input reads as it did. -/
def typesEvenSpec : ChangeSpec := { name := "typesEven", fn := fun _ => fun
  | [d1, d2, d3] => { results := [.lit (.bool true)], args := [d1, d2, d3] }
  | _ => none }
def typesEvenRow : OpenClaim := { program := "ytjpopmgnhgancaadoor", sum := "84baf8b067d107a5702373fdbe8e36cebd00d0ecf3c973d23c9b5729b826cbaa", func := "espalier/espalierlaw14.TypesEven", spec := "typesEven", named := ["espalier/types.leastAbove", "espalier/types.unseen"], apart := false, laid := [("espalier/types.unseen", laid_espalier_types_unseen), ("espalier/types.leastAbove", laid_espalier_types_leastAbove)] }
def TypesEvenSaid : Prop := typesEvenRow.holds Tryd.pinned (OpenSpec.ofChange typesEvenSpec)

/-- ITS FALSE NEIGHBOUR: 'it returns false'. Refute it at one input. -/
def typesEvenWrong : ChangeSpec := { name := "typesEven", fn := fun _ => fun
  | [d1, d2, d3] => { results := [.lit (.bool false)], args := [d1, d2, d3] }
  | _ => none }
def TypesEvenWrongFalsely : Prop := typesEvenRow.holds Tryd.pinned (OpenSpec.ofChange typesEvenWrong)

/-- 'espalierlaw14.TypesKinds': WHATEVER THE INPUT: true; the input reads as it did. -/
def typesKindsSpec : ChangeSpec := { name := "typesKinds", fn := fun _ => fun
  | [d1, d2, d3] => { results := [.lit (.bool true)], args := [d1, d2, d3] }
  | _ => none }
def typesKindsRow : OpenClaim := { program := "ytjpopmgnhgancaadoor", sum := "84baf8b067d107a5702373fdbe8e36cebd00d0ecf3c973d23c9b5729b826cbaa", func := "espalier/espalierlaw14.TypesKinds", spec := "typesKinds", unfollowed := true, recurses := true, named := ["espalier/types.leastAbove", "espalier/types.unseen", "unicode/utf8.first", "unicode/utf8.acceptRanges", "espalier/types.leastOfNode", "espalier/types.leastOfAtom"], loops := true, apart := false, laid := [("unicode/utf8.acceptRanges", laid_unicode_utf8_acceptRanges), ("espalier/types.unseen", laid_espalier_types_unseen), ("espalier/types.leastOfAtom", laid_espalier_types_leastOfAtom), ("espalier/types.leastOfNode", laid_espalier_types_leastOfNode), ("espalier/types.leastAbove", laid_espalier_types_leastAbove), ("unicode/utf8.first", laid_unicode_utf8_first)] }
def TypesKindsSaid : Prop := typesKindsRow.holds Tryd.pinned (OpenSpec.ofChange typesKindsSpec)

/-- ITS FALSE NEIGHBOUR: 'it returns false'. Refute it at one input. -/
def typesKindsWrong : ChangeSpec := { name := "typesKinds", fn := fun _ => fun
  | [d1, d2, d3] => { results := [.lit (.bool false)], args := [d1, d2, d3] }
  | _ => none }
def TypesKindsWrongFalsely : Prop := typesKindsRow.holds Tryd.pinned (OpenSpec.ofChange typesKindsWrong)

/- THE SECOND FORM. 'bulk': how many values and letters a reading holds, each counted each time it is reached (what is shared counts as often as it is met; a slice's spare places count too). A statement '..UptoSaid' is the law's where the arguments, and the package variables that the reading takes, are together of bulk at most 1048576: NARROWER than '..Said'. Prove '..Said' where nothing that the law and all that it calls make is longer than what came in: it says more and counts as full. Else prove '..UptoSaid'. A law counts once. -/
mutual
def uptoBulk {H : Type} : DataW H → Nat
  | .lit (.string bytes) => bytes.length + 1
  | .lit _ => 1
  | .nil => 1
  | .ptr d => uptoBulk d + 1
  | .slice elems spare => uptoBulkAll elems + uptoBulkAll spare + 1
  | .agg parts => uptoBulkAll parts + 1
  | .iface _ d => uptoBulk d + 1
  | .map entries => uptoBulkEntries entries + 1
  | .held _ => 1
def uptoBulkAll {H : Type} : List (DataW H) → Nat
  | [] => 0
  | d :: r => uptoBulk d + uptoBulkAll r
def uptoBulkEntries {H : Type} : List (Lit × DataW H) → Nat
  | [] => 0
  | x :: r => uptoBulkEntry x + uptoBulkEntries r
def uptoBulkEntry {H : Type} : Lit × DataW H → Nat
  | (.string bytes, d) => bytes.length + uptoBulk d + 1
  | (_, d) => uptoBulk d + 1
 end
def uptoSmall : (H : Type) → List (DataW H) → Bool := fun _ ds => decide (uptoBulkAll ds ≤ 1048576)
def OpenSpec.upto (s : _root_.Go.ChangeSpec) : _root_.Go.OpenSpec := { _root_.Go.OpenSpec.ofChange s with cond := some uptoSmall }

/-- 'espalierlaw14.TypesMatch', WHERE WHAT IT READS IS OF BULK AT MOST 1048576: true; the input reads as it did. -/
def typesMatchUptoRow : OpenClaim := { program := "ytjpopmgnhgancaadoor", sum := "84baf8b067d107a5702373fdbe8e36cebd00d0ecf3c973d23c9b5729b826cbaa", func := "espalier/espalierlaw14.TypesMatch", spec := "typesMatch", unfollowed := true, recurses := true, named := ["espalier/types.leastAbove", "espalier/types.unseen", "unicode/utf8.first", "unicode/utf8.acceptRanges", "espalier/types.leastOfNode", "espalier/types.leastOfAtom"], loops := true, apart := false, laid := [("unicode/utf8.acceptRanges", laid_unicode_utf8_acceptRanges), ("espalier/types.unseen", laid_espalier_types_unseen), ("espalier/types.leastOfAtom", laid_espalier_types_leastOfAtom), ("espalier/types.leastOfNode", laid_espalier_types_leastOfNode), ("espalier/types.leastAbove", laid_espalier_types_leastAbove), ("unicode/utf8.first", laid_unicode_utf8_first)], narrowed := true }
def TypesMatchUptoSaid : Prop := typesMatchUptoRow.holds Tryd.pinned (OpenSpec.upto typesMatchSpec)

/-- 'espalierlaw14.TypesMix', WHERE WHAT IT READS IS OF BULK AT MOST 1048576: true; the input reads as it did. -/
def typesMixUptoRow : OpenClaim := { program := "ytjpopmgnhgancaadoor", sum := "84baf8b067d107a5702373fdbe8e36cebd00d0ecf3c973d23c9b5729b826cbaa", func := "espalier/espalierlaw14.TypesMix", spec := "typesMix", named := ["espalier/types.leastAbove", "espalier/types.unseen"], apart := false, laid := [("espalier/types.unseen", laid_espalier_types_unseen), ("espalier/types.leastAbove", laid_espalier_types_leastAbove)], narrowed := true }
def TypesMixUptoSaid : Prop := typesMixUptoRow.holds Tryd.pinned (OpenSpec.upto typesMixSpec)

/-- 'espalierlaw14.TypesHold', WHERE WHAT IT READS IS OF BULK AT MOST 1048576: true; the input reads as it did. -/
def typesHoldUptoRow : OpenClaim := { program := "ytjpopmgnhgancaadoor", sum := "84baf8b067d107a5702373fdbe8e36cebd00d0ecf3c973d23c9b5729b826cbaa", func := "espalier/espalierlaw14.TypesHold", spec := "typesHold", unfollowed := true, recurses := true, named := ["espalier/types.leastAbove", "espalier/types.unseen", "unicode/utf8.first", "unicode/utf8.acceptRanges", "espalier/types.leastOfNode", "espalier/types.leastOfAtom"], loops := true, apart := false, laid := [("unicode/utf8.acceptRanges", laid_unicode_utf8_acceptRanges), ("espalier/types.unseen", laid_espalier_types_unseen), ("espalier/types.leastOfAtom", laid_espalier_types_leastOfAtom), ("espalier/types.leastOfNode", laid_espalier_types_leastOfNode), ("espalier/types.leastAbove", laid_espalier_types_leastAbove), ("unicode/utf8.first", laid_unicode_utf8_first)], narrowed := true }
def TypesHoldUptoSaid : Prop := typesHoldUptoRow.holds Tryd.pinned (OpenSpec.upto typesHoldSpec)

/-- 'espalierlaw14.TypesEven', WHERE WHAT IT READS IS OF BULK AT MOST 1048576: true; the input reads as it did. -/
def typesEvenUptoRow : OpenClaim := { program := "ytjpopmgnhgancaadoor", sum := "84baf8b067d107a5702373fdbe8e36cebd00d0ecf3c973d23c9b5729b826cbaa", func := "espalier/espalierlaw14.TypesEven", spec := "typesEven", named := ["espalier/types.leastAbove", "espalier/types.unseen"], apart := false, laid := [("espalier/types.unseen", laid_espalier_types_unseen), ("espalier/types.leastAbove", laid_espalier_types_leastAbove)], narrowed := true }
def TypesEvenUptoSaid : Prop := typesEvenUptoRow.holds Tryd.pinned (OpenSpec.upto typesEvenSpec)

/-- 'espalierlaw14.TypesKinds', WHERE WHAT IT READS IS OF BULK AT MOST 1048576: true; the input reads as it did. -/
def typesKindsUptoRow : OpenClaim := { program := "ytjpopmgnhgancaadoor", sum := "84baf8b067d107a5702373fdbe8e36cebd00d0ecf3c973d23c9b5729b826cbaa", func := "espalier/espalierlaw14.TypesKinds", spec := "typesKinds", unfollowed := true, recurses := true, named := ["espalier/types.leastAbove", "espalier/types.unseen", "unicode/utf8.first", "unicode/utf8.acceptRanges", "espalier/types.leastOfNode", "espalier/types.leastOfAtom"], loops := true, apart := false, laid := [("unicode/utf8.acceptRanges", laid_unicode_utf8_acceptRanges), ("espalier/types.unseen", laid_espalier_types_unseen), ("espalier/types.leastOfAtom", laid_espalier_types_leastOfAtom), ("espalier/types.leastOfNode", laid_espalier_types_leastOfNode), ("espalier/types.leastAbove", laid_espalier_types_leastAbove), ("unicode/utf8.first", laid_unicode_utf8_first)], narrowed := true }
def TypesKindsUptoSaid : Prop := typesKindsUptoRow.holds Tryd.pinned (OpenSpec.upto typesKindsSpec)

end Rows
end Go.Proofs.YtjpopmgnhgancaaDoor

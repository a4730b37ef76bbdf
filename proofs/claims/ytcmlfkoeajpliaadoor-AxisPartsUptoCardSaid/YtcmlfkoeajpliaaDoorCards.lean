/-
  DERIVED. GIVEN WITH THE SEED: THE CARDS: each row of YtcmlfkoeajpliaaDoorRows.lean that lists a variable, with what it lists TIED to the program's text (the seventh form; the later family's looks); each row that meets fmt, with fmt's text TOLD by the authors' own Lean function (tested against real Go, not proved from fmt's source: count such statements apart). THE CARD IS WHAT COUNTS. Prove the row's statement (the work); the ties are given (YtcmlfkoeajpliaaDoorTie.lean); close each card by the builder's one call (the guide's Derived/Test/ToyasCard.lean, 'card_holds'). Laid BY PROGRAM, IN A SANDBOX (cutbox-door.mjs). By AI agents, Wed Nov 11 2026. No macro, syntax, notation, axiom, sorry.
-/
import Derived.Test.YtcmlfkoeajpliaaDoorRows
import GoSem.ClaimSeven
namespace Go.Proofs.YtcmlfkoeajpliaaDoor
namespace Rows

/-- THE TIED CARD OF 'espalierlaw05.NodeBuilds'. -/
def nodeBuildsCard : Claim7 := { stood := { row := nodeBuildsRow, standIns := [], harness := (true, "5e05c0be468ad3141958a311bff4af897acbbecf848bf20f650671708779c7ac"), looks := false }, kinds := [], alts := [], laidByText := true, laidKinds := [.data, .pinned], laidTests := true, laidLooks := .later }
def NodeBuildsCardSaid : Prop := Claim7.holds Tryd.pinned (.plain (OpenSpec.ofChange nodeBuildsSpec)) nodeBuildsCard

/-- THE TIED CARD OF 'espalierlaw05.NodeBack'. -/
def nodeBackCard : Claim7 := { stood := { row := nodeBackRow, standIns := [], harness := (true, "5e05c0be468ad3141958a311bff4af897acbbecf848bf20f650671708779c7ac"), looks := false }, kinds := [], alts := [], laidByText := true, laidKinds := [.data, .pinned], laidTests := true, laidLooks := .later }
def NodeBackCardSaid : Prop := Claim7.holds Tryd.pinned (.plain (OpenSpec.ofChange nodeBackSpec)) nodeBackCard

/-- THE TIED CARD OF 'espalierlaw05.NodeNests'. -/
def nodeNestsCard : Claim7 := { stood := { row := nodeNestsRow, standIns := [], harness := (true, "5e05c0be468ad3141958a311bff4af897acbbecf848bf20f650671708779c7ac"), looks := false }, kinds := [], alts := [], laidByText := true, laidKinds := [.data, .pinned], laidTests := true, laidLooks := .later }
def NodeNestsCardSaid : Prop := Claim7.holds Tryd.pinned (.plain (OpenSpec.ofChange nodeNestsSpec)) nodeNestsCard

/-- THE TIED CARD OF 'espalierlaw05.NodeFull'. -/
def nodeFullCard : Claim7 := { stood := { row := nodeFullRow, standIns := [], harness := (true, "5e05c0be468ad3141958a311bff4af897acbbecf848bf20f650671708779c7ac"), looks := false }, kinds := [], alts := [], laidByText := true, laidKinds := [.data, .pinned], laidTests := true, laidLooks := .later }
def NodeFullCardSaid : Prop := Claim7.holds Tryd.pinned (.plain (OpenSpec.ofChange nodeFullSpec)) nodeFullCard

/-- THE TIED CARD OF 'espalierlaw06.AxisWalks'. -/
def axisWalksCard : Claim7 := { stood := { row := axisWalksRow, standIns := [], harness := (true, "5e05c0be468ad3141958a311bff4af897acbbecf848bf20f650671708779c7ac"), looks := false }, kinds := [], alts := [], laidByText := true, laidKinds := [.data, .pinned], laidTests := true, laidLooks := .later }
def AxisWalksCardSaid : Prop := Claim7.holds Tryd.pinned (.plain (OpenSpec.ofChange axisWalksSpec)) axisWalksCard

/-- THE TIED CARD OF 'espalierlaw06.AxisSteps'. -/
def axisStepsCard : Claim7 := { stood := { row := axisStepsRow, standIns := [], harness := (true, "5e05c0be468ad3141958a311bff4af897acbbecf848bf20f650671708779c7ac"), looks := false }, kinds := [], alts := [], laidByText := true, laidKinds := [.data, .pinned], laidTests := true, laidLooks := .later }
def AxisStepsCardSaid : Prop := Claim7.holds Tryd.pinned (.plain (OpenSpec.ofChange axisStepsSpec)) axisStepsCard

/-- THE TIED CARD OF 'espalierlaw06.AxisSets'. -/
def axisSetsCard : Claim7 := { stood := { row := axisSetsRow, standIns := [], harness := (true, "5e05c0be468ad3141958a311bff4af897acbbecf848bf20f650671708779c7ac"), looks := false }, kinds := [], alts := [], laidByText := true, laidKinds := [.data, .pinned], laidTests := true, laidLooks := .later }
def AxisSetsCardSaid : Prop := Claim7.holds Tryd.pinned (.plain (OpenSpec.ofChange axisSetsSpec)) axisSetsCard

/-- THE TIED CARD OF 'espalierlaw06.AxisParts'. -/
def axisPartsCard : Claim7 := { stood := { row := axisPartsRow, standIns := [], harness := (true, "5e05c0be468ad3141958a311bff4af897acbbecf848bf20f650671708779c7ac"), looks := false }, kinds := [], alts := [], laidByText := true, laidKinds := [.data, .pinned], laidTests := true, laidLooks := .later }
def AxisPartsCardSaid : Prop := Claim7.holds Tryd.pinned (.plain (OpenSpec.ofChange axisPartsSpec)) axisPartsCard

/-- THE TIED CARD OF 'espalierlaw06.AxisBack'. -/
def axisBackCard : Claim7 := { stood := { row := axisBackRow, standIns := [], harness := (true, "5e05c0be468ad3141958a311bff4af897acbbecf848bf20f650671708779c7ac"), looks := false }, kinds := [], alts := [], laidByText := true, laidKinds := [.data, .pinned], laidTests := true, laidLooks := .later }
def AxisBackCardSaid : Prop := Claim7.holds Tryd.pinned (.plain (OpenSpec.ofChange axisBackSpec)) axisBackCard

/-- THE SECOND FORM's CARD OF 'espalierlaw05.NodeBuilds'. -/
def nodeBuildsUptoCard : Claim7 := { stood := { row := nodeBuildsUptoRow, standIns := [], harness := (true, "5e05c0be468ad3141958a311bff4af897acbbecf848bf20f650671708779c7ac"), looks := false }, kinds := [], alts := [], laidByText := true, laidKinds := [.data, .pinned], laidTests := true, laidLooks := .later }
def NodeBuildsUptoCardSaid : Prop := Claim7.holds Tryd.pinned (.plain (OpenSpec.upto nodeBuildsSpec)) nodeBuildsUptoCard

/-- THE SECOND FORM's CARD OF 'espalierlaw05.NodeBack'. -/
def nodeBackUptoCard : Claim7 := { stood := { row := nodeBackUptoRow, standIns := [], harness := (true, "5e05c0be468ad3141958a311bff4af897acbbecf848bf20f650671708779c7ac"), looks := false }, kinds := [], alts := [], laidByText := true, laidKinds := [.data, .pinned], laidTests := true, laidLooks := .later }
def NodeBackUptoCardSaid : Prop := Claim7.holds Tryd.pinned (.plain (OpenSpec.upto nodeBackSpec)) nodeBackUptoCard

/-- THE SECOND FORM's CARD OF 'espalierlaw05.NodeNests'. -/
def nodeNestsUptoCard : Claim7 := { stood := { row := nodeNestsUptoRow, standIns := [], harness := (true, "5e05c0be468ad3141958a311bff4af897acbbecf848bf20f650671708779c7ac"), looks := false }, kinds := [], alts := [], laidByText := true, laidKinds := [.data, .pinned], laidTests := true, laidLooks := .later }
def NodeNestsUptoCardSaid : Prop := Claim7.holds Tryd.pinned (.plain (OpenSpec.upto nodeNestsSpec)) nodeNestsUptoCard

/-- THE SECOND FORM's CARD OF 'espalierlaw05.NodeFull'. -/
def nodeFullUptoCard : Claim7 := { stood := { row := nodeFullUptoRow, standIns := [], harness := (true, "5e05c0be468ad3141958a311bff4af897acbbecf848bf20f650671708779c7ac"), looks := false }, kinds := [], alts := [], laidByText := true, laidKinds := [.data, .pinned], laidTests := true, laidLooks := .later }
def NodeFullUptoCardSaid : Prop := Claim7.holds Tryd.pinned (.plain (OpenSpec.upto nodeFullSpec)) nodeFullUptoCard

/-- THE SECOND FORM's CARD OF 'espalierlaw06.AxisWalks'. -/
def axisWalksUptoCard : Claim7 := { stood := { row := axisWalksUptoRow, standIns := [], harness := (true, "5e05c0be468ad3141958a311bff4af897acbbecf848bf20f650671708779c7ac"), looks := false }, kinds := [], alts := [], laidByText := true, laidKinds := [.data, .pinned], laidTests := true, laidLooks := .later }
def AxisWalksUptoCardSaid : Prop := Claim7.holds Tryd.pinned (.plain (OpenSpec.upto axisWalksSpec)) axisWalksUptoCard

/-- THE SECOND FORM's CARD OF 'espalierlaw06.AxisSteps'. -/
def axisStepsUptoCard : Claim7 := { stood := { row := axisStepsUptoRow, standIns := [], harness := (true, "5e05c0be468ad3141958a311bff4af897acbbecf848bf20f650671708779c7ac"), looks := false }, kinds := [], alts := [], laidByText := true, laidKinds := [.data, .pinned], laidTests := true, laidLooks := .later }
def AxisStepsUptoCardSaid : Prop := Claim7.holds Tryd.pinned (.plain (OpenSpec.upto axisStepsSpec)) axisStepsUptoCard

/-- THE SECOND FORM's CARD OF 'espalierlaw06.AxisSets'. -/
def axisSetsUptoCard : Claim7 := { stood := { row := axisSetsUptoRow, standIns := [], harness := (true, "5e05c0be468ad3141958a311bff4af897acbbecf848bf20f650671708779c7ac"), looks := false }, kinds := [], alts := [], laidByText := true, laidKinds := [.data, .pinned], laidTests := true, laidLooks := .later }
def AxisSetsUptoCardSaid : Prop := Claim7.holds Tryd.pinned (.plain (OpenSpec.upto axisSetsSpec)) axisSetsUptoCard

/-- THE SECOND FORM's CARD OF 'espalierlaw06.AxisParts'. -/
def axisPartsUptoCard : Claim7 := { stood := { row := axisPartsUptoRow, standIns := [], harness := (true, "5e05c0be468ad3141958a311bff4af897acbbecf848bf20f650671708779c7ac"), looks := false }, kinds := [], alts := [], laidByText := true, laidKinds := [.data, .pinned], laidTests := true, laidLooks := .later }
def AxisPartsUptoCardSaid : Prop := Claim7.holds Tryd.pinned (.plain (OpenSpec.upto axisPartsSpec)) axisPartsUptoCard

/-- THE SECOND FORM's CARD OF 'espalierlaw06.AxisBack'. -/
def axisBackUptoCard : Claim7 := { stood := { row := axisBackUptoRow, standIns := [], harness := (true, "5e05c0be468ad3141958a311bff4af897acbbecf848bf20f650671708779c7ac"), looks := false }, kinds := [], alts := [], laidByText := true, laidKinds := [.data, .pinned], laidTests := true, laidLooks := .later }
def AxisBackUptoCardSaid : Prop := Claim7.holds Tryd.pinned (.plain (OpenSpec.upto axisBackSpec)) axisBackUptoCard
end Rows
end Go.Proofs.YtcmlfkoeajpliaaDoor

/-
  DERIVED. GIVEN WITH THE SEED: THE CARDS: each row of YtklkodifbdpihaaDoorRows.lean that lists a variable, with what it lists TIED to the program's text (the seventh form; the later family's looks); each row that meets fmt, with fmt's text TOLD by the authors' own Lean function (tested against real Go, not proved from fmt's source: count such statements apart). THE CARD IS WHAT COUNTS. Prove the row's statement (the work); the ties are given (YtklkodifbdpihaaDoorTie.lean); close each card by the builder's one call (the guide's Derived/Test/ToyasCard.lean, 'card_holds'). Laid BY PROGRAM, IN A SANDBOX (cutbox-door.mjs). By AI agents, Wed Nov 11 2026. No macro, syntax, notation, axiom, sorry.
-/
import Derived.Test.YtklkodifbdpihaaDoorRows
import GoSem.ClaimSeven
namespace Go.Proofs.YtklkodifbdpihaaDoor
namespace Rows

/-- THE TIED CARD OF 'espalierlaw01.CharTexts'. -/
def charTextsCard : Claim7 := { stood := { row := charTextsRow, standIns := [], harness := (true, "10e3b52f80a5fc45053abc532c9b7d066b94cf8b540fe37934a04b9a826f030b"), looks := false }, kinds := [], alts := [], laidByText := true, laidKinds := [.data, .pinned], laidTests := true, laidLooks := .later }
def CharTextsCardSaid : Prop := Claim7.holds Tryd.pinned (.plain (OpenSpec.ofChange charTextsSpec)) charTextsCard

/-- THE TIED CARD OF 'espalierlaw01.CharSubs'. -/
def charSubsCard : Claim7 := { stood := { row := charSubsRow, standIns := [], harness := (true, "10e3b52f80a5fc45053abc532c9b7d066b94cf8b540fe37934a04b9a826f030b"), looks := false }, kinds := [], alts := [], laidByText := true, laidKinds := [.data, .pinned], laidTests := true, laidLooks := .later }
def CharSubsCardSaid : Prop := Claim7.holds Tryd.pinned (.plain (OpenSpec.ofChange charSubsSpec)) charSubsCard

/-- THE TIED CARD OF 'espalierlaw01.CharOrders'. -/
def charOrdersCard : Claim7 := { stood := { row := charOrdersRow, standIns := [], harness := (true, "10e3b52f80a5fc45053abc532c9b7d066b94cf8b540fe37934a04b9a826f030b"), looks := false }, kinds := [], alts := [], laidByText := true, laidKinds := [.data, .pinned], laidTests := true, laidLooks := .later }
def CharOrdersCardSaid : Prop := Claim7.holds Tryd.pinned (.plain (OpenSpec.ofChange charOrdersSpec)) charOrdersCard

/-- THE TIED CARD OF 'espalierlaw01.CharBack'. -/
def charBackCard : Claim7 := { stood := { row := charBackRow, standIns := [], harness := (true, "10e3b52f80a5fc45053abc532c9b7d066b94cf8b540fe37934a04b9a826f030b"), looks := false }, kinds := [], alts := [], laidByText := true, laidKinds := [.data, .pinned], laidTests := true, laidLooks := .later }
def CharBackCardSaid : Prop := Claim7.holds Tryd.pinned (.plain (OpenSpec.ofChange charBackSpec)) charBackCard

/-- THE TIED CARD OF 'espalierlaw01.CharNames'. -/
def charNamesCard : Claim7 := { stood := { row := charNamesRow, standIns := [], harness := (true, "10e3b52f80a5fc45053abc532c9b7d066b94cf8b540fe37934a04b9a826f030b"), looks := false }, kinds := [], alts := [], laidByText := true, laidKinds := [.data, .pinned], laidTests := true, laidLooks := .later }
def CharNamesCardSaid : Prop := Claim7.holds Tryd.pinned (.plain (OpenSpec.ofChange charNamesSpec)) charNamesCard

/-- THE SECOND FORM's CARD OF 'espalierlaw01.CharTexts'. -/
def charTextsUptoCard : Claim7 := { stood := { row := charTextsUptoRow, standIns := [], harness := (true, "10e3b52f80a5fc45053abc532c9b7d066b94cf8b540fe37934a04b9a826f030b"), looks := false }, kinds := [], alts := [], laidByText := true, laidKinds := [.data, .pinned], laidTests := true, laidLooks := .later }
def CharTextsUptoCardSaid : Prop := Claim7.holds Tryd.pinned (.plain (OpenSpec.upto charTextsSpec)) charTextsUptoCard

/-- THE SECOND FORM's CARD OF 'espalierlaw01.CharSubs'. -/
def charSubsUptoCard : Claim7 := { stood := { row := charSubsUptoRow, standIns := [], harness := (true, "10e3b52f80a5fc45053abc532c9b7d066b94cf8b540fe37934a04b9a826f030b"), looks := false }, kinds := [], alts := [], laidByText := true, laidKinds := [.data, .pinned], laidTests := true, laidLooks := .later }
def CharSubsUptoCardSaid : Prop := Claim7.holds Tryd.pinned (.plain (OpenSpec.upto charSubsSpec)) charSubsUptoCard

/-- THE SECOND FORM's CARD OF 'espalierlaw01.CharOrders'. -/
def charOrdersUptoCard : Claim7 := { stood := { row := charOrdersUptoRow, standIns := [], harness := (true, "10e3b52f80a5fc45053abc532c9b7d066b94cf8b540fe37934a04b9a826f030b"), looks := false }, kinds := [], alts := [], laidByText := true, laidKinds := [.data, .pinned], laidTests := true, laidLooks := .later }
def CharOrdersUptoCardSaid : Prop := Claim7.holds Tryd.pinned (.plain (OpenSpec.upto charOrdersSpec)) charOrdersUptoCard

/-- THE SECOND FORM's CARD OF 'espalierlaw01.CharBack'. -/
def charBackUptoCard : Claim7 := { stood := { row := charBackUptoRow, standIns := [], harness := (true, "10e3b52f80a5fc45053abc532c9b7d066b94cf8b540fe37934a04b9a826f030b"), looks := false }, kinds := [], alts := [], laidByText := true, laidKinds := [.data, .pinned], laidTests := true, laidLooks := .later }
def CharBackUptoCardSaid : Prop := Claim7.holds Tryd.pinned (.plain (OpenSpec.upto charBackSpec)) charBackUptoCard

/-- THE SECOND FORM's CARD OF 'espalierlaw01.CharNames'. -/
def charNamesUptoCard : Claim7 := { stood := { row := charNamesUptoRow, standIns := [], harness := (true, "10e3b52f80a5fc45053abc532c9b7d066b94cf8b540fe37934a04b9a826f030b"), looks := false }, kinds := [], alts := [], laidByText := true, laidKinds := [.data, .pinned], laidTests := true, laidLooks := .later }
def CharNamesUptoCardSaid : Prop := Claim7.holds Tryd.pinned (.plain (OpenSpec.upto charNamesSpec)) charNamesUptoCard
end Rows
end Go.Proofs.YtklkodifbdpihaaDoor

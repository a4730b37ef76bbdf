/-
  DERIVED. GIVEN WITH THE SEED: THE CARDS: each row of YtpdaldpaceolnaaGreatDoorRows.lean that lists a variable, with what it lists TIED to the program's text (the seventh form; the later family's looks); each row that meets fmt, with fmt's text TOLD by the authors' own Lean function (tested against real Go, not proved from fmt's source: count such statements apart). THE CARD IS WHAT COUNTS. Prove the row's statement (the work); the ties are given (YtpdaldpaceolnaaGreatDoorTie.lean); close each card by the builder's one call (the guide's Derived/Test/ToyasCard.lean, 'card_holds'). Laid BY PROGRAM, IN A SANDBOX (cutbox-door.mjs). By AI agents, Wed Nov 11 2026. No macro, syntax, notation, axiom, sorry.
-/
import Derived.Test.YtpdaldpaceolnaaGreatDoorRows
import GoSem.ClaimSeven
namespace Go.Proofs.YtpdaldpaceolnaaGreatDoor
namespace Rows

/-- THE TIED CARD OF 'espalierlaw08.XmlParses'. -/
def xmlParsesCard : Claim7 := { stood := { row := xmlParsesRow, standIns := [], harness := (true, "0d76fec6edc88af6ff0b5a441fa3d64495143bae0532709ddc2dcf006bb880b8"), looks := true }, kinds := [], alts := [], laidByText := true, laidKinds := [.data, .data, .data, .data, .sentinel, .sentinel, .pinned], laidTests := true, laidLooks := .later }
def XmlParsesCardSaid : Prop := Claim7.holds Tryz.pinned (.plain (OpenSpec.ofChange xmlParsesSpec)) xmlParsesCard

/-- THE TIED CARD OF 'espalierlaw08.XmlWraps'. -/
def xmlWrapsCard : Claim7 := { stood := { row := xmlWrapsRow, standIns := [], harness := (true, "0d76fec6edc88af6ff0b5a441fa3d64495143bae0532709ddc2dcf006bb880b8"), looks := true }, kinds := [], alts := [], laidByText := true, laidKinds := [.data, .data, .data, .data, .sentinel, .sentinel, .pinned], laidTests := true, laidLooks := .later }
def XmlWrapsCardSaid : Prop := Claim7.holds Tryz.pinned (.plain (OpenSpec.ofChange xmlWrapsSpec)) xmlWrapsCard

/-- THE TIED CARD OF 'espalierlaw08.XmlCuts'. -/
def xmlCutsCard : Claim7 := { stood := { row := xmlCutsRow, standIns := [], harness := (true, "0d76fec6edc88af6ff0b5a441fa3d64495143bae0532709ddc2dcf006bb880b8"), looks := true }, kinds := [], alts := [], laidByText := true, laidKinds := [.data, .data, .data, .data, .sentinel, .sentinel, .pinned], laidTests := true, laidLooks := .later }
def XmlCutsCardSaid : Prop := Claim7.holds Tryz.pinned (.plain (OpenSpec.ofChange xmlCutsSpec)) xmlCutsCard

/-- THE TIED CARD OF 'espalierlaw08.XmlTexts'. -/
def xmlTextsCard : Claim7 := { stood := { row := xmlTextsRow, standIns := [], harness := (true, "0d76fec6edc88af6ff0b5a441fa3d64495143bae0532709ddc2dcf006bb880b8"), looks := true }, kinds := [], alts := [], laidByText := true, laidKinds := [.data, .data, .data, .data, .sentinel, .sentinel, .pinned], laidTests := true, laidLooks := .later }
def XmlTextsCardSaid : Prop := Claim7.holds Tryz.pinned (.plain (OpenSpec.ofChange xmlTextsSpec)) xmlTextsCard

/-- THE TIED CARD OF 'espalierlaw08.XmlDeep'. -/
def xmlDeepCard : Claim7 := { stood := { row := xmlDeepRow, standIns := [], harness := (true, "0d76fec6edc88af6ff0b5a441fa3d64495143bae0532709ddc2dcf006bb880b8"), looks := true }, kinds := [], alts := [], laidByText := true, laidKinds := [.data, .data, .data, .data, .sentinel, .sentinel, .pinned], laidTests := true, laidLooks := .later }
def XmlDeepCardSaid : Prop := Claim7.holds Tryz.pinned (.plain (OpenSpec.ofChange xmlDeepSpec)) xmlDeepCard

/-- THE SECOND FORM's CARD OF 'espalierlaw08.XmlParses'. -/
def xmlParsesUptoCard : Claim7 := { stood := { row := xmlParsesUptoRow, standIns := [], harness := (true, "0d76fec6edc88af6ff0b5a441fa3d64495143bae0532709ddc2dcf006bb880b8"), looks := true }, kinds := [], alts := [], laidByText := true, laidKinds := [.data, .data, .data, .data, .sentinel, .sentinel, .pinned], laidTests := true, laidLooks := .later }
def XmlParsesUptoCardSaid : Prop := Claim7.holds Tryz.pinned (.plain (OpenSpec.upto xmlParsesSpec)) xmlParsesUptoCard

/-- THE SECOND FORM's CARD OF 'espalierlaw08.XmlWraps'. -/
def xmlWrapsUptoCard : Claim7 := { stood := { row := xmlWrapsUptoRow, standIns := [], harness := (true, "0d76fec6edc88af6ff0b5a441fa3d64495143bae0532709ddc2dcf006bb880b8"), looks := true }, kinds := [], alts := [], laidByText := true, laidKinds := [.data, .data, .data, .data, .sentinel, .sentinel, .pinned], laidTests := true, laidLooks := .later }
def XmlWrapsUptoCardSaid : Prop := Claim7.holds Tryz.pinned (.plain (OpenSpec.upto xmlWrapsSpec)) xmlWrapsUptoCard

/-- THE SECOND FORM's CARD OF 'espalierlaw08.XmlCuts'. -/
def xmlCutsUptoCard : Claim7 := { stood := { row := xmlCutsUptoRow, standIns := [], harness := (true, "0d76fec6edc88af6ff0b5a441fa3d64495143bae0532709ddc2dcf006bb880b8"), looks := true }, kinds := [], alts := [], laidByText := true, laidKinds := [.data, .data, .data, .data, .sentinel, .sentinel, .pinned], laidTests := true, laidLooks := .later }
def XmlCutsUptoCardSaid : Prop := Claim7.holds Tryz.pinned (.plain (OpenSpec.upto xmlCutsSpec)) xmlCutsUptoCard

/-- THE SECOND FORM's CARD OF 'espalierlaw08.XmlTexts'. -/
def xmlTextsUptoCard : Claim7 := { stood := { row := xmlTextsUptoRow, standIns := [], harness := (true, "0d76fec6edc88af6ff0b5a441fa3d64495143bae0532709ddc2dcf006bb880b8"), looks := true }, kinds := [], alts := [], laidByText := true, laidKinds := [.data, .data, .data, .data, .sentinel, .sentinel, .pinned], laidTests := true, laidLooks := .later }
def XmlTextsUptoCardSaid : Prop := Claim7.holds Tryz.pinned (.plain (OpenSpec.upto xmlTextsSpec)) xmlTextsUptoCard

/-- THE SECOND FORM's CARD OF 'espalierlaw08.XmlDeep'. -/
def xmlDeepUptoCard : Claim7 := { stood := { row := xmlDeepUptoRow, standIns := [], harness := (true, "0d76fec6edc88af6ff0b5a441fa3d64495143bae0532709ddc2dcf006bb880b8"), looks := true }, kinds := [], alts := [], laidByText := true, laidKinds := [.data, .data, .data, .data, .sentinel, .sentinel, .pinned], laidTests := true, laidLooks := .later }
def XmlDeepUptoCardSaid : Prop := Claim7.holds Tryz.pinned (.plain (OpenSpec.upto xmlDeepSpec)) xmlDeepUptoCard
end Rows
end Go.Proofs.YtpdaldpaceolnaaGreatDoor

/-
  DERIVED. GIVEN WITH THE SEED: THE CARDS: each row of YtjpopmgnhgancaaDoorRows.lean that lists a variable, with what it lists TIED to the program's text (the seventh form; the later family's looks); each row that meets fmt, with fmt's text TOLD by the authors' own Lean function (tested against real Go, not proved from fmt's source: count such statements apart). THE CARD IS WHAT COUNTS. Prove the row's statement (the work); the ties are given (YtjpopmgnhgancaaDoorTie.lean); close each card by the builder's one call (the guide's Derived/Test/ToyasCard.lean, 'card_holds'). Laid BY PROGRAM, IN A SANDBOX (cutbox-door.mjs). By AI agents, Wed Nov 11 2026. No macro, syntax, notation, axiom, sorry.
-/
import Derived.Test.YtjpopmgnhgancaaDoorRows
import GoSem.ClaimSeven
namespace Go.Proofs.YtjpopmgnhgancaaDoor
namespace Rows

/-- THE TIED CARD OF 'espalierlaw14.TypesMatch'. -/
def typesMatchCard : Claim7 := { stood := { row := typesMatchRow, standIns := [], harness := (true, "9359dcdfff4f2239b204e87e8495b9fa665b6939faf0044a77fe39131aa80b9d"), looks := false }, kinds := [], alts := [], laidByText := true, laidKinds := [.data, .data, .data, .data, .data, .pinned], laidTests := true, laidLooks := .later }
def TypesMatchCardSaid : Prop := Claim7.holds Tryd.pinned (.plain (OpenSpec.ofChange typesMatchSpec)) typesMatchCard

/-- THE TIED CARD OF 'espalierlaw14.TypesMix'. -/
def typesMixCard : Claim7 := { stood := { row := typesMixRow, standIns := [], harness := (true, "9359dcdfff4f2239b204e87e8495b9fa665b6939faf0044a77fe39131aa80b9d"), looks := false }, kinds := [], alts := [], laidByText := true, laidKinds := [.data, .data], laidTests := true, laidLooks := .later }
def TypesMixCardSaid : Prop := Claim7.holds Tryd.pinned (.plain (OpenSpec.ofChange typesMixSpec)) typesMixCard

/-- THE TIED CARD OF 'espalierlaw14.TypesHold'. -/
def typesHoldCard : Claim7 := { stood := { row := typesHoldRow, standIns := [], harness := (true, "9359dcdfff4f2239b204e87e8495b9fa665b6939faf0044a77fe39131aa80b9d"), looks := false }, kinds := [], alts := [], laidByText := true, laidKinds := [.data, .data, .data, .data, .data, .pinned], laidTests := true, laidLooks := .later }
def TypesHoldCardSaid : Prop := Claim7.holds Tryd.pinned (.plain (OpenSpec.ofChange typesHoldSpec)) typesHoldCard

/-- THE TIED CARD OF 'espalierlaw14.TypesEven'. -/
def typesEvenCard : Claim7 := { stood := { row := typesEvenRow, standIns := [], harness := (true, "9359dcdfff4f2239b204e87e8495b9fa665b6939faf0044a77fe39131aa80b9d"), looks := false }, kinds := [], alts := [], laidByText := true, laidKinds := [.data, .data], laidTests := true, laidLooks := .later }
def TypesEvenCardSaid : Prop := Claim7.holds Tryd.pinned (.plain (OpenSpec.ofChange typesEvenSpec)) typesEvenCard

/-- THE TIED CARD OF 'espalierlaw14.TypesKinds'. -/
def typesKindsCard : Claim7 := { stood := { row := typesKindsRow, standIns := [], harness := (true, "9359dcdfff4f2239b204e87e8495b9fa665b6939faf0044a77fe39131aa80b9d"), looks := false }, kinds := [], alts := [], laidByText := true, laidKinds := [.data, .data, .data, .data, .data, .pinned], laidTests := true, laidLooks := .later }
def TypesKindsCardSaid : Prop := Claim7.holds Tryd.pinned (.plain (OpenSpec.ofChange typesKindsSpec)) typesKindsCard

/-- THE SECOND FORM's CARD OF 'espalierlaw14.TypesMatch'. -/
def typesMatchUptoCard : Claim7 := { stood := { row := typesMatchUptoRow, standIns := [], harness := (true, "9359dcdfff4f2239b204e87e8495b9fa665b6939faf0044a77fe39131aa80b9d"), looks := false }, kinds := [], alts := [], laidByText := true, laidKinds := [.data, .data, .data, .data, .data, .pinned], laidTests := true, laidLooks := .later }
def TypesMatchUptoCardSaid : Prop := Claim7.holds Tryd.pinned (.plain (OpenSpec.upto typesMatchSpec)) typesMatchUptoCard

/-- THE SECOND FORM's CARD OF 'espalierlaw14.TypesMix'. -/
def typesMixUptoCard : Claim7 := { stood := { row := typesMixUptoRow, standIns := [], harness := (true, "9359dcdfff4f2239b204e87e8495b9fa665b6939faf0044a77fe39131aa80b9d"), looks := false }, kinds := [], alts := [], laidByText := true, laidKinds := [.data, .data], laidTests := true, laidLooks := .later }
def TypesMixUptoCardSaid : Prop := Claim7.holds Tryd.pinned (.plain (OpenSpec.upto typesMixSpec)) typesMixUptoCard

/-- THE SECOND FORM's CARD OF 'espalierlaw14.TypesHold'. -/
def typesHoldUptoCard : Claim7 := { stood := { row := typesHoldUptoRow, standIns := [], harness := (true, "9359dcdfff4f2239b204e87e8495b9fa665b6939faf0044a77fe39131aa80b9d"), looks := false }, kinds := [], alts := [], laidByText := true, laidKinds := [.data, .data, .data, .data, .data, .pinned], laidTests := true, laidLooks := .later }
def TypesHoldUptoCardSaid : Prop := Claim7.holds Tryd.pinned (.plain (OpenSpec.upto typesHoldSpec)) typesHoldUptoCard

/-- THE SECOND FORM's CARD OF 'espalierlaw14.TypesEven'. -/
def typesEvenUptoCard : Claim7 := { stood := { row := typesEvenUptoRow, standIns := [], harness := (true, "9359dcdfff4f2239b204e87e8495b9fa665b6939faf0044a77fe39131aa80b9d"), looks := false }, kinds := [], alts := [], laidByText := true, laidKinds := [.data, .data], laidTests := true, laidLooks := .later }
def TypesEvenUptoCardSaid : Prop := Claim7.holds Tryd.pinned (.plain (OpenSpec.upto typesEvenSpec)) typesEvenUptoCard

/-- THE SECOND FORM's CARD OF 'espalierlaw14.TypesKinds'. -/
def typesKindsUptoCard : Claim7 := { stood := { row := typesKindsUptoRow, standIns := [], harness := (true, "9359dcdfff4f2239b204e87e8495b9fa665b6939faf0044a77fe39131aa80b9d"), looks := false }, kinds := [], alts := [], laidByText := true, laidKinds := [.data, .data, .data, .data, .data, .pinned], laidTests := true, laidLooks := .later }
def TypesKindsUptoCardSaid : Prop := Claim7.holds Tryd.pinned (.plain (OpenSpec.upto typesKindsSpec)) typesKindsUptoCard
end Rows
end Go.Proofs.YtjpopmgnhgancaaDoor

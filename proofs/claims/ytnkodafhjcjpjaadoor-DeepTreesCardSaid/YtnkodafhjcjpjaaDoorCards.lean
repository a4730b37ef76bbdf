/-
  DERIVED. GIVEN WITH THE SEED: THE CARDS: each row of YtnkodafhjcjpjaaDoorRows.lean that lists a variable, with what it lists TIED to the program's text (the seventh form; the later family's looks); each row that meets fmt, with fmt's text TOLD by the authors' own Lean function (tested against real Go, not proved from fmt's source: count such statements apart). THE CARD IS WHAT COUNTS. Prove the row's statement (the work); the ties are given (YtnkodafhjcjpjaaDoorTie.lean); close each card by the builder's one call (the guide's Derived/Test/ToyasCard.lean, 'card_holds'). Laid BY PROGRAM, IN A SANDBOX (cutbox-door.mjs). By AI agents, Wed Nov 11 2026. No macro, syntax, notation, axiom, sorry.
-/
import Derived.Test.YtnkodafhjcjpjaaDoorRows
import GoSem.ClaimSeven
namespace Go.Proofs.YtnkodafhjcjpjaaDoor
namespace Rows

/-- THE TIED CARD OF 'espalierlaw07.DeepTrees'. -/
def deepTreesCard : Claim7 := { stood := { row := deepTreesRow, standIns := [], harness := (true, "1c77bc71aee166187d2e68cca5e0cb2807920e4ca31ae56ae00763168ed8a315"), looks := false }, kinds := [], alts := [], laidByText := true, laidKinds := [.data, .data, .data], laidTests := true, laidLooks := .later }
def DeepTreesCardSaid : Prop := Claim7.holds Tryd.pinned (.plain (OpenSpec.ofChange deepTreesSpec)) deepTreesCard

/-- THE SECOND FORM's CARD OF 'espalierlaw07.DeepTrees'. -/
def deepTreesUptoCard : Claim7 := { stood := { row := deepTreesUptoRow, standIns := [], harness := (true, "1c77bc71aee166187d2e68cca5e0cb2807920e4ca31ae56ae00763168ed8a315"), looks := false }, kinds := [], alts := [], laidByText := true, laidKinds := [.data, .data, .data], laidTests := true, laidLooks := .later }
def DeepTreesUptoCardSaid : Prop := Claim7.holds Tryd.pinned (.plain (OpenSpec.upto deepTreesSpec)) deepTreesUptoCard
end Rows
end Go.Proofs.YtnkodafhjcjpjaaDoor

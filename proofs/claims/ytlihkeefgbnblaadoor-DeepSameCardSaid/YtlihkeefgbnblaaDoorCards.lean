/-
  DERIVED. GIVEN WITH THE SEED: THE CARDS: each row of YtlihkeefgbnblaaDoorRows.lean that lists a variable, with what it lists TIED to the program's text (the seventh form; the later family's looks); each row that meets fmt, with fmt's text TOLD by the authors' own Lean function (tested against real Go, not proved from fmt's source: count such statements apart). THE CARD IS WHAT COUNTS. Prove the row's statement (the work); the ties are given (YtlihkeefgbnblaaDoorTie.lean); close each card by the builder's one call (the guide's Derived/Test/ToyasCard.lean, 'card_holds'). Laid BY PROGRAM, IN A SANDBOX (cutbox-door.mjs). By AI agents, Wed Nov 11 2026. No macro, syntax, notation, axiom, sorry.
-/
import Derived.Test.YtlihkeefgbnblaaDoorRows
import GoSem.ClaimSeven
namespace Go.Proofs.YtlihkeefgbnblaaDoor
namespace Rows

/-- THE TIED CARD OF 'espalierlaw07.DeepSame'. -/
def deepSameCard : Claim7 := { stood := { row := deepSameRow, standIns := [], harness := (true, "6e2e8881c76b13123b3580455874d4cb94114a82eff0d43838874f006d0e12ab"), looks := false }, kinds := [], alts := [], laidByText := true, laidKinds := [.data, .data, .data], laidTests := true, laidLooks := .later }
def DeepSameCardSaid : Prop := Claim7.holds Tryd.pinned (.plain (OpenSpec.ofChange deepSameSpec)) deepSameCard

/-- THE SECOND FORM's CARD OF 'espalierlaw07.DeepSame'. -/
def deepSameUptoCard : Claim7 := { stood := { row := deepSameUptoRow, standIns := [], harness := (true, "6e2e8881c76b13123b3580455874d4cb94114a82eff0d43838874f006d0e12ab"), looks := false }, kinds := [], alts := [], laidByText := true, laidKinds := [.data, .data, .data], laidTests := true, laidLooks := .later }
def DeepSameUptoCardSaid : Prop := Claim7.holds Tryd.pinned (.plain (OpenSpec.upto deepSameSpec)) deepSameUptoCard
end Rows
end Go.Proofs.YtlihkeefgbnblaaDoor

/-
  DERIVED. GIVEN WITH THE SEED: THE CARDS: each row of YtdbifbgjbfnfmaaGreatDoorRows.lean that lists a variable, with what it lists TIED to the program's text (the seventh form; the later family's looks); each row that meets fmt, with fmt's text TOLD by the authors' own Lean function (tested against real Go, not proved from fmt's source: count such statements apart). THE CARD IS WHAT COUNTS. Prove the row's statement (the work); the ties are given (YtdbifbgjbfnfmaaGreatDoorTie.lean); close each card by the builder's one call (the guide's Derived/Test/ToyasCard.lean, 'card_holds'). Laid BY PROGRAM, IN A SANDBOX (cutbox-door.mjs). By AI agents, Wed Nov 11 2026. No macro, syntax, notation, axiom, sorry.
-/
import Derived.Test.YtdbifbgjbfnfmaaGreatDoorRows
import GoSem.ClaimSeven
namespace Go.Proofs.YtdbifbgjbfnfmaaGreatDoor
namespace Rows

/-- THE TIED CARD OF 'strandlinelaw07.IndexNames'. -/
def indexNamesCard : Claim7 := { stood := { row := indexNamesRow, standIns := [], harness := (true, "77fd36d493456c504b50befbae02e3891be8691a208039fc0e7cbb5bf9fbeed4"), looks := false }, kinds := [], alts := [], laidByText := true, laidKinds := [.data, .pinned], laidTests := true, laidLooks := .later }
def IndexNamesCardSaid : Prop := Claim7.holds Tryz.pinned (.plain (OpenSpec.ofChange indexNamesSpec)) indexNamesCard

/-- THE SECOND FORM's CARD OF 'strandlinelaw07.IndexNames'. -/
def indexNamesUptoCard : Claim7 := { stood := { row := indexNamesUptoRow, standIns := [], harness := (true, "77fd36d493456c504b50befbae02e3891be8691a208039fc0e7cbb5bf9fbeed4"), looks := false }, kinds := [], alts := [], laidByText := true, laidKinds := [.data, .pinned], laidTests := true, laidLooks := .later }
def IndexNamesUptoCardSaid : Prop := Claim7.holds Tryz.pinned (.plain (OpenSpec.upto indexNamesSpec)) indexNamesUptoCard
end Rows
end Go.Proofs.YtdbifbgjbfnfmaaGreatDoor

/-
  DERIVED. GIVEN WITH THE SEED: THE CARDS: each row of YtopnnhjfcfhihaaDoorRows.lean that lists a variable, with what it lists TIED to the program's text (the seventh form; the later family's looks); each row that meets fmt, with fmt's text TOLD by the authors' own Lean function (tested against real Go, not proved from fmt's source: count such statements apart). THE CARD IS WHAT COUNTS. Prove the row's statement (the work); the ties are given (YtopnnhjfcfhihaaDoorTie.lean); close each card by the builder's one call (the guide's Derived/Test/ToyasCard.lean, 'card_holds'). Laid BY PROGRAM, IN A SANDBOX (cutbox-door.mjs). By AI agents, Wed Nov 11 2026. No macro, syntax, notation, axiom, sorry.
-/
import Derived.Test.YtopnnhjfcfhihaaDoorRows
import GoSem.ClaimSeven
namespace Go.Proofs.YtopnnhjfcfhihaaDoor
namespace Rows

/-- THE TIED CARD OF 'strandlinelaw05.MatchTells'. -/
def matchTellsCard : Claim7 := { stood := { row := matchTellsRow, standIns := [], harness := (true, "12e51105618715d05167d38ff27878f20774dc8b5474b416fddf556d2412a270"), looks := false }, kinds := [], alts := [], laidByText := true, laidKinds := [.data, .pinned], laidTests := true, laidLooks := .later }
def MatchTellsCardSaid : Prop := Claim7.holds Tryd.pinned (.plain (OpenSpec.ofChange matchTellsSpec)) matchTellsCard

/-- THE TIED CARD OF 'strandlinelaw05.MatchPrints'. -/
def matchPrintsCard : Claim7 := { stood := { row := matchPrintsRow, standIns := [], harness := (true, "12e51105618715d05167d38ff27878f20774dc8b5474b416fddf556d2412a270"), looks := false }, kinds := [], alts := [], laidByText := true, laidKinds := [.data, .pinned], laidTests := true, laidLooks := .later }
def MatchPrintsCardSaid : Prop := Claim7.holds Tryd.pinned (.plain (OpenSpec.ofChange matchPrintsSpec)) matchPrintsCard

/-- THE TIED CARD OF 'strandlinelaw05.MatchParses'. -/
def matchParsesCard : Claim7 := { stood := { row := matchParsesRow, standIns := [], harness := (true, "12e51105618715d05167d38ff27878f20774dc8b5474b416fddf556d2412a270"), looks := false }, kinds := [], alts := [], laidByText := true, laidKinds := [.data, .pinned], laidTests := true, laidLooks := .later }
def MatchParsesCardSaid : Prop := Claim7.holds Tryd.pinned (.plain (OpenSpec.ofChange matchParsesSpec)) matchParsesCard

/-- THE SECOND FORM's CARD OF 'strandlinelaw05.MatchTells'. -/
def matchTellsUptoCard : Claim7 := { stood := { row := matchTellsUptoRow, standIns := [], harness := (true, "12e51105618715d05167d38ff27878f20774dc8b5474b416fddf556d2412a270"), looks := false }, kinds := [], alts := [], laidByText := true, laidKinds := [.data, .pinned], laidTests := true, laidLooks := .later }
def MatchTellsUptoCardSaid : Prop := Claim7.holds Tryd.pinned (.plain (OpenSpec.upto matchTellsSpec)) matchTellsUptoCard

/-- THE SECOND FORM's CARD OF 'strandlinelaw05.MatchPrints'. -/
def matchPrintsUptoCard : Claim7 := { stood := { row := matchPrintsUptoRow, standIns := [], harness := (true, "12e51105618715d05167d38ff27878f20774dc8b5474b416fddf556d2412a270"), looks := false }, kinds := [], alts := [], laidByText := true, laidKinds := [.data, .pinned], laidTests := true, laidLooks := .later }
def MatchPrintsUptoCardSaid : Prop := Claim7.holds Tryd.pinned (.plain (OpenSpec.upto matchPrintsSpec)) matchPrintsUptoCard

/-- THE SECOND FORM's CARD OF 'strandlinelaw05.MatchParses'. -/
def matchParsesUptoCard : Claim7 := { stood := { row := matchParsesUptoRow, standIns := [], harness := (true, "12e51105618715d05167d38ff27878f20774dc8b5474b416fddf556d2412a270"), looks := false }, kinds := [], alts := [], laidByText := true, laidKinds := [.data, .pinned], laidTests := true, laidLooks := .later }
def MatchParsesUptoCardSaid : Prop := Claim7.holds Tryd.pinned (.plain (OpenSpec.upto matchParsesSpec)) matchParsesUptoCard
end Rows
end Go.Proofs.YtopnnhjfcfhihaaDoor

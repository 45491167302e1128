/-
  DERIVED. GIVEN WITH THE SEED: THE CARDS: each row of YtdbifbgjbfnfmaaDoorRows.lean that lists a variable, with what it lists TIED to the program's text (the seventh form; the later family's looks); each row that meets fmt, with fmt's text TOLD by the authors' own Lean function (tested against real Go, not proved from fmt's source: count such statements apart). THE CARD IS WHAT COUNTS. Prove the row's statement (the work); the ties are given (YtdbifbgjbfnfmaaDoorTie.lean); close each card by the builder's one call (the guide's Derived/Test/ToyasCard.lean, 'card_holds'). Laid BY PROGRAM, IN A SANDBOX (cutbox-door.mjs). By AI agents, Wed Nov 11 2026. No macro, syntax, notation, axiom, sorry.
-/
import Derived.Test.YtdbifbgjbfnfmaaDoorRows
import GoSem.ClaimSeven
namespace Go.Proofs.YtdbifbgjbfnfmaaDoor
namespace Rows

/-- THE TIED CARD OF 'strandlinelaw07.IndexAdds'. -/
def indexAddsCard : Claim7 := { stood := { row := indexAddsRow, standIns := [], harness := (true, "171f2aa0aba2fb267e5be2cb0a54ecfcc84d33946a0e0ebf5990447d01bd14c3"), looks := false }, kinds := [], alts := [], laidByText := true, laidKinds := [.data, .pinned], laidTests := true, laidLooks := .later }
def IndexAddsCardSaid : Prop := Claim7.holds Tryd.pinned (.plain (OpenSpec.ofChange indexAddsSpec)) indexAddsCard

/-- THE TIED CARD OF 'strandlinelaw07.IndexSelects'. -/
def indexSelectsCard : Claim7 := { stood := { row := indexSelectsRow, standIns := [], harness := (true, "171f2aa0aba2fb267e5be2cb0a54ecfcc84d33946a0e0ebf5990447d01bd14c3"), looks := false }, kinds := [], alts := [], laidByText := true, laidKinds := [.data, .pinned], laidTests := true, laidLooks := .later }
def IndexSelectsCardSaid : Prop := Claim7.holds Tryd.pinned (.plain (OpenSpec.ofChange indexSelectsSpec)) indexSelectsCard

/-- THE TIED CARD OF 'strandlinelaw07.IndexParts'. -/
def indexPartsCard : Claim7 := { stood := { row := indexPartsRow, standIns := [], harness := (true, "171f2aa0aba2fb267e5be2cb0a54ecfcc84d33946a0e0ebf5990447d01bd14c3"), looks := false }, kinds := [], alts := [], laidByText := true, laidKinds := [.data, .pinned], laidTests := true, laidLooks := .later }
def IndexPartsCardSaid : Prop := Claim7.holds Tryd.pinned (.plain (OpenSpec.ofChange indexPartsSpec)) indexPartsCard

/-- THE TIED CARD OF 'strandlinelaw07.IndexBack'. -/
def indexBackCard : Claim7 := { stood := { row := indexBackRow, standIns := [], harness := (true, "171f2aa0aba2fb267e5be2cb0a54ecfcc84d33946a0e0ebf5990447d01bd14c3"), looks := false }, kinds := [], alts := [], laidByText := true, laidKinds := [.data, .pinned], laidTests := true, laidLooks := .later }
def IndexBackCardSaid : Prop := Claim7.holds Tryd.pinned (.plain (OpenSpec.ofChange indexBackSpec)) indexBackCard

/-- THE TIED CARD OF 'strandlinelaw07.IndexDecodes'. -/
def indexDecodesCard : Claim7 := { stood := { row := indexDecodesRow, standIns := [], harness := (true, "171f2aa0aba2fb267e5be2cb0a54ecfcc84d33946a0e0ebf5990447d01bd14c3"), looks := false }, kinds := [], alts := [], laidByText := true, laidKinds := [.data, .pinned], laidTests := true, laidLooks := .later }
def IndexDecodesCardSaid : Prop := Claim7.holds Tryd.pinned (.plain (OpenSpec.ofChange indexDecodesSpec)) indexDecodesCard

/-- THE TIED CARD OF 'strandlinelaw07.IndexBoth'. -/
def indexBothCard : Claim7 := { stood := { row := indexBothRow, standIns := [], harness := (true, "171f2aa0aba2fb267e5be2cb0a54ecfcc84d33946a0e0ebf5990447d01bd14c3"), looks := false }, kinds := [], alts := [], laidByText := true, laidKinds := [.data, .pinned], laidTests := true, laidLooks := .later }
def IndexBothCardSaid : Prop := Claim7.holds Tryd.pinned (.plain (OpenSpec.ofChange indexBothSpec)) indexBothCard

/-- THE TIED CARD OF 'strandlinelaw07.IndexTwice'. -/
def indexTwiceCard : Claim7 := { stood := { row := indexTwiceRow, standIns := [], harness := (true, "171f2aa0aba2fb267e5be2cb0a54ecfcc84d33946a0e0ebf5990447d01bd14c3"), looks := false }, kinds := [], alts := [], laidByText := true, laidKinds := [.data, .pinned], laidTests := true, laidLooks := .later }
def IndexTwiceCardSaid : Prop := Claim7.holds Tryd.pinned (.plain (OpenSpec.ofChange indexTwiceSpec)) indexTwiceCard

/-- THE SECOND FORM's CARD OF 'strandlinelaw07.IndexAdds'. -/
def indexAddsUptoCard : Claim7 := { stood := { row := indexAddsUptoRow, standIns := [], harness := (true, "171f2aa0aba2fb267e5be2cb0a54ecfcc84d33946a0e0ebf5990447d01bd14c3"), looks := false }, kinds := [], alts := [], laidByText := true, laidKinds := [.data, .pinned], laidTests := true, laidLooks := .later }
def IndexAddsUptoCardSaid : Prop := Claim7.holds Tryd.pinned (.plain (OpenSpec.upto indexAddsSpec)) indexAddsUptoCard

/-- THE SECOND FORM's CARD OF 'strandlinelaw07.IndexSelects'. -/
def indexSelectsUptoCard : Claim7 := { stood := { row := indexSelectsUptoRow, standIns := [], harness := (true, "171f2aa0aba2fb267e5be2cb0a54ecfcc84d33946a0e0ebf5990447d01bd14c3"), looks := false }, kinds := [], alts := [], laidByText := true, laidKinds := [.data, .pinned], laidTests := true, laidLooks := .later }
def IndexSelectsUptoCardSaid : Prop := Claim7.holds Tryd.pinned (.plain (OpenSpec.upto indexSelectsSpec)) indexSelectsUptoCard

/-- THE SECOND FORM's CARD OF 'strandlinelaw07.IndexParts'. -/
def indexPartsUptoCard : Claim7 := { stood := { row := indexPartsUptoRow, standIns := [], harness := (true, "171f2aa0aba2fb267e5be2cb0a54ecfcc84d33946a0e0ebf5990447d01bd14c3"), looks := false }, kinds := [], alts := [], laidByText := true, laidKinds := [.data, .pinned], laidTests := true, laidLooks := .later }
def IndexPartsUptoCardSaid : Prop := Claim7.holds Tryd.pinned (.plain (OpenSpec.upto indexPartsSpec)) indexPartsUptoCard

/-- THE SECOND FORM's CARD OF 'strandlinelaw07.IndexBack'. -/
def indexBackUptoCard : Claim7 := { stood := { row := indexBackUptoRow, standIns := [], harness := (true, "171f2aa0aba2fb267e5be2cb0a54ecfcc84d33946a0e0ebf5990447d01bd14c3"), looks := false }, kinds := [], alts := [], laidByText := true, laidKinds := [.data, .pinned], laidTests := true, laidLooks := .later }
def IndexBackUptoCardSaid : Prop := Claim7.holds Tryd.pinned (.plain (OpenSpec.upto indexBackSpec)) indexBackUptoCard

/-- THE SECOND FORM's CARD OF 'strandlinelaw07.IndexDecodes'. -/
def indexDecodesUptoCard : Claim7 := { stood := { row := indexDecodesUptoRow, standIns := [], harness := (true, "171f2aa0aba2fb267e5be2cb0a54ecfcc84d33946a0e0ebf5990447d01bd14c3"), looks := false }, kinds := [], alts := [], laidByText := true, laidKinds := [.data, .pinned], laidTests := true, laidLooks := .later }
def IndexDecodesUptoCardSaid : Prop := Claim7.holds Tryd.pinned (.plain (OpenSpec.upto indexDecodesSpec)) indexDecodesUptoCard

/-- THE SECOND FORM's CARD OF 'strandlinelaw07.IndexBoth'. -/
def indexBothUptoCard : Claim7 := { stood := { row := indexBothUptoRow, standIns := [], harness := (true, "171f2aa0aba2fb267e5be2cb0a54ecfcc84d33946a0e0ebf5990447d01bd14c3"), looks := false }, kinds := [], alts := [], laidByText := true, laidKinds := [.data, .pinned], laidTests := true, laidLooks := .later }
def IndexBothUptoCardSaid : Prop := Claim7.holds Tryd.pinned (.plain (OpenSpec.upto indexBothSpec)) indexBothUptoCard

/-- THE SECOND FORM's CARD OF 'strandlinelaw07.IndexTwice'. -/
def indexTwiceUptoCard : Claim7 := { stood := { row := indexTwiceUptoRow, standIns := [], harness := (true, "171f2aa0aba2fb267e5be2cb0a54ecfcc84d33946a0e0ebf5990447d01bd14c3"), looks := false }, kinds := [], alts := [], laidByText := true, laidKinds := [.data, .pinned], laidTests := true, laidLooks := .later }
def IndexTwiceUptoCardSaid : Prop := Claim7.holds Tryd.pinned (.plain (OpenSpec.upto indexTwiceSpec)) indexTwiceUptoCard
end Rows
end Go.Proofs.YtdbifbgjbfnfmaaDoor

/-
  DERIVED. GIVEN WITH THE SEED: THE CARDS: each row of YtclegocofiigiabDoorRows.lean that lists a variable, with what it lists TIED to the program's text (the seventh form; the later family's looks); each row that meets fmt, with fmt's text TOLD by the authors' own Lean function (tested against real Go, not proved from fmt's source: count such statements apart). THE CARD IS WHAT COUNTS. Prove the row's statement (the work); the ties are given (YtclegocofiigiabDoorTie.lean); close each card by the builder's one call (the guide's Derived/Test/ToyasCard.lean, 'card_holds'). Laid BY PROGRAM, IN A SANDBOX (cutbox-door.mjs). By AI agents, Wed Nov 11 2026. No macro, syntax, notation, axiom, sorry.
-/
import Derived.Test.YtclegocofiigiabDoorRows
import GoSem.ClaimSeven
namespace Go.Proofs.YtclegocofiigiabDoor
namespace Rows

/-- THE TIED CARD OF 'postbaglaw1.OctetLines'. -/
def octetLinesCard : Claim7 := { stood := { row := octetLinesRow, standIns := [], harness := (true, "768712b1da07c9df6517258edf88a83359f9d8b6cf3f0024879d7527302161f2"), looks := false }, kinds := [], alts := [], laidByText := true, laidKinds := [.data, .pinned], laidTests := true, laidLooks := .later }
def OctetLinesCardSaid : Prop := Claim7.holds Tryd.pinned (.plain (OpenSpec.ofChange octetLinesSpec)) octetLinesCard

/-- THE TIED CARD OF 'postbaglaw1.OctetQuotes'. -/
def octetQuotesCard : Claim7 := { stood := { row := octetQuotesRow, standIns := [], harness := (true, "768712b1da07c9df6517258edf88a83359f9d8b6cf3f0024879d7527302161f2"), looks := false }, kinds := [], alts := [], laidByText := true, laidKinds := [.data, .pinned], laidTests := true, laidLooks := .later }
def OctetQuotesCardSaid : Prop := Claim7.holds Tryd.pinned (.plain (OpenSpec.ofChange octetQuotesSpec)) octetQuotesCard

/-- THE TIED CARD OF 'postbaglaw1.OctetBases'. -/
def octetBasesCard : Claim7 := { stood := { row := octetBasesRow, standIns := [], harness := (true, "768712b1da07c9df6517258edf88a83359f9d8b6cf3f0024879d7527302161f2"), looks := false }, kinds := [], alts := [], laidByText := true, laidKinds := [.data, .pinned], laidTests := true, laidLooks := .later }
def OctetBasesCardSaid : Prop := Claim7.holds Tryd.pinned (.plain (OpenSpec.ofChange octetBasesSpec)) octetBasesCard

/-- THE TIED CARD OF 'postbaglaw1.OctetNames'. -/
def octetNamesCard : Claim7 := { stood := { row := octetNamesRow, standIns := [], harness := (true, "768712b1da07c9df6517258edf88a83359f9d8b6cf3f0024879d7527302161f2"), looks := false }, kinds := [], alts := [], laidByText := true, laidKinds := [.data, .pinned], laidTests := true, laidLooks := .later }
def OctetNamesCardSaid : Prop := Claim7.holds Tryd.pinned (.plain (OpenSpec.ofChange octetNamesSpec)) octetNamesCard

/-- THE SECOND FORM's CARD OF 'postbaglaw1.OctetLines'. -/
def octetLinesUptoCard : Claim7 := { stood := { row := octetLinesUptoRow, standIns := [], harness := (true, "768712b1da07c9df6517258edf88a83359f9d8b6cf3f0024879d7527302161f2"), looks := false }, kinds := [], alts := [], laidByText := true, laidKinds := [.data, .pinned], laidTests := true, laidLooks := .later }
def OctetLinesUptoCardSaid : Prop := Claim7.holds Tryd.pinned (.plain (OpenSpec.upto octetLinesSpec)) octetLinesUptoCard

/-- THE SECOND FORM's CARD OF 'postbaglaw1.OctetQuotes'. -/
def octetQuotesUptoCard : Claim7 := { stood := { row := octetQuotesUptoRow, standIns := [], harness := (true, "768712b1da07c9df6517258edf88a83359f9d8b6cf3f0024879d7527302161f2"), looks := false }, kinds := [], alts := [], laidByText := true, laidKinds := [.data, .pinned], laidTests := true, laidLooks := .later }
def OctetQuotesUptoCardSaid : Prop := Claim7.holds Tryd.pinned (.plain (OpenSpec.upto octetQuotesSpec)) octetQuotesUptoCard

/-- THE SECOND FORM's CARD OF 'postbaglaw1.OctetBases'. -/
def octetBasesUptoCard : Claim7 := { stood := { row := octetBasesUptoRow, standIns := [], harness := (true, "768712b1da07c9df6517258edf88a83359f9d8b6cf3f0024879d7527302161f2"), looks := false }, kinds := [], alts := [], laidByText := true, laidKinds := [.data, .pinned], laidTests := true, laidLooks := .later }
def OctetBasesUptoCardSaid : Prop := Claim7.holds Tryd.pinned (.plain (OpenSpec.upto octetBasesSpec)) octetBasesUptoCard

/-- THE SECOND FORM's CARD OF 'postbaglaw1.OctetNames'. -/
def octetNamesUptoCard : Claim7 := { stood := { row := octetNamesUptoRow, standIns := [], harness := (true, "768712b1da07c9df6517258edf88a83359f9d8b6cf3f0024879d7527302161f2"), looks := false }, kinds := [], alts := [], laidByText := true, laidKinds := [.data, .pinned], laidTests := true, laidLooks := .later }
def OctetNamesUptoCardSaid : Prop := Claim7.holds Tryd.pinned (.plain (OpenSpec.upto octetNamesSpec)) octetNamesUptoCard
end Rows
end Go.Proofs.YtclegocofiigiabDoor

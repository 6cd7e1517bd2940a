/-
  DERIVED. GIVEN WITH THE SEED: THE CARDS: each row of YtibhlmbcohpmlaaGreatDoorRows.lean that lists a variable, with what it lists TIED to the program's text (the seventh form; the later family's looks); each row that meets fmt, with fmt's text TOLD by the authors' own Lean function (tested against real Go, not proved from fmt's source: count such statements apart). THE CARD IS WHAT COUNTS. Prove the row's statement (the work); the ties are given (YtibhlmbcohpmlaaGreatDoorTie.lean); close each card by the builder's one call (the guide's Derived/Test/ToyasCard.lean, 'card_holds'). Laid BY PROGRAM, IN A SANDBOX (cutbox-door.mjs). By AI agents, Wed Nov 11 2026. No macro, syntax, notation, axiom, sorry.
-/
import Derived.Test.YtibhlmbcohpmlaaGreatDoorRows
import GoSem.ClaimSeven
namespace Go.Proofs.YtibhlmbcohpmlaaGreatDoor
namespace Rows

/-- THE TIED CARD OF 'postbaglaw2.MomentCounts'. -/
def momentCountsCard : Claim7 := { stood := { row := momentCountsRow, standIns := [], harness := (true, "2124873b03e3cac7b63d29f89d23fee0d985490baaec300cc6787bac6d9d8a0b"), looks := false }, kinds := [], alts := [], laidByText := true, laidKinds := [.data, .data, .data, .data, .data, .data, .data, .pinned, .pinned], laidTests := true, laidLooks := .later }
def MomentCountsCardSaid : Prop := Claim7.holds Tryz.pinned (.plain (OpenSpec.ofChange momentCountsSpec)) momentCountsCard

/-- THE TIED CARD OF 'postbaglaw2.MomentOrders'. -/
def momentOrdersCard : Claim7 := { stood := { row := momentOrdersRow, standIns := [], harness := (true, "2124873b03e3cac7b63d29f89d23fee0d985490baaec300cc6787bac6d9d8a0b"), looks := false }, kinds := [], alts := [], laidByText := true, laidKinds := [.data, .data, .data, .data, .data, .data, .data, .pinned, .pinned], laidTests := true, laidLooks := .later }
def MomentOrdersCardSaid : Prop := Claim7.holds Tryz.pinned (.plain (OpenSpec.ofChange momentOrdersSpec)) momentOrdersCard

/-- THE TIED CARD OF 'postbaglaw2.MomentDays'. -/
def momentDaysCard : Claim7 := { stood := { row := momentDaysRow, standIns := [], harness := (true, "2124873b03e3cac7b63d29f89d23fee0d985490baaec300cc6787bac6d9d8a0b"), looks := false }, kinds := [], alts := [], laidByText := true, laidKinds := [.data, .data, .data, .data, .data, .data, .data, .pinned, .pinned], laidTests := true, laidLooks := .later }
def MomentDaysCardSaid : Prop := Claim7.holds Tryz.pinned (.plain (OpenSpec.ofChange momentDaysSpec)) momentDaysCard

/-- THE TIED CARD OF 'postbaglaw2.MomentInternals'. -/
def momentInternalsCard : Claim7 := { stood := { row := momentInternalsRow, standIns := [], harness := (true, "2124873b03e3cac7b63d29f89d23fee0d985490baaec300cc6787bac6d9d8a0b"), looks := false }, kinds := [], alts := [], laidByText := true, laidKinds := [.data, .data, .data, .data, .data, .data, .data, .pinned, .pinned], laidTests := true, laidLooks := .later }
def MomentInternalsCardSaid : Prop := Claim7.holds Tryz.pinned (.plain (OpenSpec.ofChange momentInternalsSpec)) momentInternalsCard

/-- THE TIED CARD OF 'postbaglaw2.MomentHeaders'. -/
def momentHeadersCard : Claim7 := { stood := { row := momentHeadersRow, standIns := [], harness := (true, "2124873b03e3cac7b63d29f89d23fee0d985490baaec300cc6787bac6d9d8a0b"), looks := false }, kinds := [], alts := [], laidByText := true, laidKinds := [.data, .data, .data, .data, .data, .data, .data, .pinned, .pinned], laidTests := true, laidLooks := .later }
def MomentHeadersCardSaid : Prop := Claim7.holds Tryz.pinned (.plain (OpenSpec.ofChange momentHeadersSpec)) momentHeadersCard

/-- THE SECOND FORM's CARD OF 'postbaglaw2.MomentCounts'. -/
def momentCountsUptoCard : Claim7 := { stood := { row := momentCountsUptoRow, standIns := [], harness := (true, "2124873b03e3cac7b63d29f89d23fee0d985490baaec300cc6787bac6d9d8a0b"), looks := false }, kinds := [], alts := [], laidByText := true, laidKinds := [.data, .data, .data, .data, .data, .data, .data, .pinned, .pinned], laidTests := true, laidLooks := .later }
def MomentCountsUptoCardSaid : Prop := Claim7.holds Tryz.pinned (.plain (OpenSpec.upto momentCountsSpec)) momentCountsUptoCard

/-- THE SECOND FORM's CARD OF 'postbaglaw2.MomentOrders'. -/
def momentOrdersUptoCard : Claim7 := { stood := { row := momentOrdersUptoRow, standIns := [], harness := (true, "2124873b03e3cac7b63d29f89d23fee0d985490baaec300cc6787bac6d9d8a0b"), looks := false }, kinds := [], alts := [], laidByText := true, laidKinds := [.data, .data, .data, .data, .data, .data, .data, .pinned, .pinned], laidTests := true, laidLooks := .later }
def MomentOrdersUptoCardSaid : Prop := Claim7.holds Tryz.pinned (.plain (OpenSpec.upto momentOrdersSpec)) momentOrdersUptoCard

/-- THE SECOND FORM's CARD OF 'postbaglaw2.MomentDays'. -/
def momentDaysUptoCard : Claim7 := { stood := { row := momentDaysUptoRow, standIns := [], harness := (true, "2124873b03e3cac7b63d29f89d23fee0d985490baaec300cc6787bac6d9d8a0b"), looks := false }, kinds := [], alts := [], laidByText := true, laidKinds := [.data, .data, .data, .data, .data, .data, .data, .pinned, .pinned], laidTests := true, laidLooks := .later }
def MomentDaysUptoCardSaid : Prop := Claim7.holds Tryz.pinned (.plain (OpenSpec.upto momentDaysSpec)) momentDaysUptoCard

/-- THE SECOND FORM's CARD OF 'postbaglaw2.MomentInternals'. -/
def momentInternalsUptoCard : Claim7 := { stood := { row := momentInternalsUptoRow, standIns := [], harness := (true, "2124873b03e3cac7b63d29f89d23fee0d985490baaec300cc6787bac6d9d8a0b"), looks := false }, kinds := [], alts := [], laidByText := true, laidKinds := [.data, .data, .data, .data, .data, .data, .data, .pinned, .pinned], laidTests := true, laidLooks := .later }
def MomentInternalsUptoCardSaid : Prop := Claim7.holds Tryz.pinned (.plain (OpenSpec.upto momentInternalsSpec)) momentInternalsUptoCard

/-- THE SECOND FORM's CARD OF 'postbaglaw2.MomentHeaders'. -/
def momentHeadersUptoCard : Claim7 := { stood := { row := momentHeadersUptoRow, standIns := [], harness := (true, "2124873b03e3cac7b63d29f89d23fee0d985490baaec300cc6787bac6d9d8a0b"), looks := false }, kinds := [], alts := [], laidByText := true, laidKinds := [.data, .data, .data, .data, .data, .data, .data, .pinned, .pinned], laidTests := true, laidLooks := .later }
def MomentHeadersUptoCardSaid : Prop := Claim7.holds Tryz.pinned (.plain (OpenSpec.upto momentHeadersSpec)) momentHeadersUptoCard
end Rows
end Go.Proofs.YtibhlmbcohpmlaaGreatDoor

/-
  DERIVED. GIVEN WITH THE SEED: THE CARDS: each row of YtclegocofiigiaaDoorRows.lean that lists a variable, with what it lists TIED to the program's text (the seventh form; the later family's looks); each row that meets fmt, with fmt's text TOLD by the authors' own Lean function (tested against real Go, not proved from fmt's source: count such statements apart). THE CARD IS WHAT COUNTS. Prove the row's statement (the work); the ties are given (YtclegocofiigiaaDoorTie.lean); close each card by the builder's one call (the guide's Derived/Test/ToyasCard.lean, 'card_holds'). Laid BY PROGRAM, IN A SANDBOX (cutbox-door.mjs). By AI agents, Wed Nov 11 2026. No macro, syntax, notation, axiom, sorry.
-/
import Derived.Test.YtclegocofiigiaaDoorRows
import GoSem.ClaimSeven
namespace Go.Proofs.YtclegocofiigiaaDoor
namespace Rows

/-- THE TIED CARD OF 'postbaglaw1.OctetBack'. -/
def octetBackCard : Claim7 := { stood := { row := octetBackRow, standIns := [], harness := (true, "6b9588f1259a8c97346eefaf22abe1d85ed7eaad973a5a487f6a84726a3699a1"), looks := false }, kinds := [], alts := [], laidByText := true, laidKinds := [.data, .pinned], laidTests := true, laidLooks := .later }
def OctetBackCardSaid : Prop := Claim7.holds Tryd.pinned (.plain (OpenSpec.ofChange octetBackSpec)) octetBackCard

/-- THE TIED CARD OF 'postbaglaw1.OctetPads'. -/
def octetPadsCard : Claim7 := { stood := { row := octetPadsRow, standIns := [], harness := (true, "6b9588f1259a8c97346eefaf22abe1d85ed7eaad973a5a487f6a84726a3699a1"), looks := false }, kinds := [], alts := [], laidByText := true, laidKinds := [.data, .pinned], laidTests := true, laidLooks := .later }
def OctetPadsCardSaid : Prop := Claim7.holds Tryd.pinned (.plain (OpenSpec.ofChange octetPadsSpec)) octetPadsCard

/-- THE TIED CARD OF 'postbaglaw1.OctetWires'. -/
def octetWiresCard : Claim7 := { stood := { row := octetWiresRow, standIns := [], harness := (true, "6b9588f1259a8c97346eefaf22abe1d85ed7eaad973a5a487f6a84726a3699a1"), looks := false }, kinds := [], alts := [], laidByText := true, laidKinds := [.data, .pinned], laidTests := true, laidLooks := .later }
def OctetWiresCardSaid : Prop := Claim7.holds Tryd.pinned (.plain (OpenSpec.ofChange octetWiresSpec)) octetWiresCard

/-- THE TIED CARD OF 'postbaglaw1.OctetLevels'. -/
def octetLevelsCard : Claim7 := { stood := { row := octetLevelsRow, standIns := [], harness := (true, "6b9588f1259a8c97346eefaf22abe1d85ed7eaad973a5a487f6a84726a3699a1"), looks := false }, kinds := [], alts := [], laidByText := true, laidKinds := [.data, .pinned], laidTests := true, laidLooks := .later }
def OctetLevelsCardSaid : Prop := Claim7.holds Tryd.pinned (.plain (OpenSpec.ofChange octetLevelsSpec)) octetLevelsCard

/-- THE TIED CARD OF 'postbaglaw1.OctetThrough'. -/
def octetThroughCard : Claim7 := { stood := { row := octetThroughRow, standIns := [], harness := (true, "6b9588f1259a8c97346eefaf22abe1d85ed7eaad973a5a487f6a84726a3699a1"), looks := false }, kinds := [], alts := [], laidByText := true, laidKinds := [.data, .pinned], laidTests := true, laidLooks := .later }
def OctetThroughCardSaid : Prop := Claim7.holds Tryd.pinned (.plain (OpenSpec.ofChange octetThroughSpec)) octetThroughCard

/-- THE TIED CARD OF 'postbaglaw1.OctetCases'. -/
def octetCasesCard : Claim7 := { stood := { row := octetCasesRow, standIns := [], harness := (true, "6b9588f1259a8c97346eefaf22abe1d85ed7eaad973a5a487f6a84726a3699a1"), looks := false }, kinds := [], alts := [], laidByText := true, laidKinds := [.data, .pinned], laidTests := true, laidLooks := .later }
def OctetCasesCardSaid : Prop := Claim7.holds Tryd.pinned (.plain (OpenSpec.ofChange octetCasesSpec)) octetCasesCard

/-- THE SECOND FORM's CARD OF 'postbaglaw1.OctetBack'. -/
def octetBackUptoCard : Claim7 := { stood := { row := octetBackUptoRow, standIns := [], harness := (true, "6b9588f1259a8c97346eefaf22abe1d85ed7eaad973a5a487f6a84726a3699a1"), looks := false }, kinds := [], alts := [], laidByText := true, laidKinds := [.data, .pinned], laidTests := true, laidLooks := .later }
def OctetBackUptoCardSaid : Prop := Claim7.holds Tryd.pinned (.plain (OpenSpec.upto octetBackSpec)) octetBackUptoCard

/-- THE SECOND FORM's CARD OF 'postbaglaw1.OctetPads'. -/
def octetPadsUptoCard : Claim7 := { stood := { row := octetPadsUptoRow, standIns := [], harness := (true, "6b9588f1259a8c97346eefaf22abe1d85ed7eaad973a5a487f6a84726a3699a1"), looks := false }, kinds := [], alts := [], laidByText := true, laidKinds := [.data, .pinned], laidTests := true, laidLooks := .later }
def OctetPadsUptoCardSaid : Prop := Claim7.holds Tryd.pinned (.plain (OpenSpec.upto octetPadsSpec)) octetPadsUptoCard

/-- THE SECOND FORM's CARD OF 'postbaglaw1.OctetWires'. -/
def octetWiresUptoCard : Claim7 := { stood := { row := octetWiresUptoRow, standIns := [], harness := (true, "6b9588f1259a8c97346eefaf22abe1d85ed7eaad973a5a487f6a84726a3699a1"), looks := false }, kinds := [], alts := [], laidByText := true, laidKinds := [.data, .pinned], laidTests := true, laidLooks := .later }
def OctetWiresUptoCardSaid : Prop := Claim7.holds Tryd.pinned (.plain (OpenSpec.upto octetWiresSpec)) octetWiresUptoCard

/-- THE SECOND FORM's CARD OF 'postbaglaw1.OctetLevels'. -/
def octetLevelsUptoCard : Claim7 := { stood := { row := octetLevelsUptoRow, standIns := [], harness := (true, "6b9588f1259a8c97346eefaf22abe1d85ed7eaad973a5a487f6a84726a3699a1"), looks := false }, kinds := [], alts := [], laidByText := true, laidKinds := [.data, .pinned], laidTests := true, laidLooks := .later }
def OctetLevelsUptoCardSaid : Prop := Claim7.holds Tryd.pinned (.plain (OpenSpec.upto octetLevelsSpec)) octetLevelsUptoCard

/-- THE SECOND FORM's CARD OF 'postbaglaw1.OctetThrough'. -/
def octetThroughUptoCard : Claim7 := { stood := { row := octetThroughUptoRow, standIns := [], harness := (true, "6b9588f1259a8c97346eefaf22abe1d85ed7eaad973a5a487f6a84726a3699a1"), looks := false }, kinds := [], alts := [], laidByText := true, laidKinds := [.data, .pinned], laidTests := true, laidLooks := .later }
def OctetThroughUptoCardSaid : Prop := Claim7.holds Tryd.pinned (.plain (OpenSpec.upto octetThroughSpec)) octetThroughUptoCard

/-- THE SECOND FORM's CARD OF 'postbaglaw1.OctetCases'. -/
def octetCasesUptoCard : Claim7 := { stood := { row := octetCasesUptoRow, standIns := [], harness := (true, "6b9588f1259a8c97346eefaf22abe1d85ed7eaad973a5a487f6a84726a3699a1"), looks := false }, kinds := [], alts := [], laidByText := true, laidKinds := [.data, .pinned], laidTests := true, laidLooks := .later }
def OctetCasesUptoCardSaid : Prop := Claim7.holds Tryd.pinned (.plain (OpenSpec.upto octetCasesSpec)) octetCasesUptoCard
end Rows
end Go.Proofs.YtclegocofiigiaaDoor

/-
  DERIVED. GIVEN WITH THE SEED: THE CARDS: each row of YtonfchpfhdoefaaDoorRows.lean that lists a variable, with what it lists TIED to the program's text (the seventh form; the later family's looks); each row that meets fmt, with fmt's text TOLD by the authors' own Lean function (tested against real Go, not proved from fmt's source: count such statements apart). THE CARD IS WHAT COUNTS. Prove the row's statement (the work); the ties are given (YtonfchpfhdoefaaDoorTie.lean); close each card by the builder's one call (the guide's Derived/Test/ToyasCard.lean, 'card_holds'). Laid BY PROGRAM, IN A SANDBOX (cutbox-door.mjs). By AI agents, Wed Nov 11 2026. No macro, syntax, notation, axiom, sorry.
-/
import Derived.Test.YtonfchpfhdoefaaDoorRows
import GoSem.ClaimSeven
namespace Go.Proofs.YtonfchpfhdoefaaDoor
namespace Rows

/-- THE TIED CARD OF 'postbaglaw3.LexOrders'. -/
def lexOrdersCard : Claim7 := { stood := { row := lexOrdersRow, standIns := [], harness := (true, "08f06a677ee5d0393013b150d47de791655ee6959c8b3780eaebf70fb5f3d897"), looks := false }, kinds := [], alts := [], laidByText := true, laidKinds := [.data, .data, .data], laidTests := true, laidLooks := .later }
def LexOrdersCardSaid : Prop := Claim7.holds Tryd.pinned (.plain (OpenSpec.ofChange lexOrdersSpec)) lexOrdersCard

/-- THE TIED CARD OF 'postbaglaw3.LexTexts'. -/
def lexTextsCard : Claim7 := { stood := { row := lexTextsRow, standIns := [], harness := (true, "08f06a677ee5d0393013b150d47de791655ee6959c8b3780eaebf70fb5f3d897"), looks := false }, kinds := [], alts := [], laidByText := true, laidKinds := [.data, .data, .data], laidTests := true, laidLooks := .later }
def LexTextsCardSaid : Prop := Claim7.holds Tryd.pinned (.plain (OpenSpec.ofChange lexTextsSpec)) lexTextsCard

/-- THE TIED CARD OF 'postbaglaw3.LexBack'. -/
def lexBackCard : Claim7 := { stood := { row := lexBackRow, standIns := [], harness := (true, "08f06a677ee5d0393013b150d47de791655ee6959c8b3780eaebf70fb5f3d897"), looks := false }, kinds := [], alts := [], laidByText := true, laidKinds := [.data, .data, .data], laidTests := true, laidLooks := .later }
def LexBackCardSaid : Prop := Claim7.holds Tryd.pinned (.plain (OpenSpec.ofChange lexBackSpec)) lexBackCard

/-- THE TIED CARD OF 'postbaglaw3.LexLine'. -/
def lexLineCard : Claim7 := { stood := { row := lexLineRow, standIns := [], harness := (true, "08f06a677ee5d0393013b150d47de791655ee6959c8b3780eaebf70fb5f3d897"), looks := false }, kinds := [], alts := [], laidByText := true, laidKinds := [.data, .data, .data], laidTests := true, laidLooks := .later }
def LexLineCardSaid : Prop := Claim7.holds Tryd.pinned (.plain (OpenSpec.ofChange lexLineSpec)) lexLineCard

/-- THE SECOND FORM's CARD OF 'postbaglaw3.LexOrders'. -/
def lexOrdersUptoCard : Claim7 := { stood := { row := lexOrdersUptoRow, standIns := [], harness := (true, "08f06a677ee5d0393013b150d47de791655ee6959c8b3780eaebf70fb5f3d897"), looks := false }, kinds := [], alts := [], laidByText := true, laidKinds := [.data, .data, .data], laidTests := true, laidLooks := .later }
def LexOrdersUptoCardSaid : Prop := Claim7.holds Tryd.pinned (.plain (OpenSpec.upto lexOrdersSpec)) lexOrdersUptoCard

/-- THE SECOND FORM's CARD OF 'postbaglaw3.LexTexts'. -/
def lexTextsUptoCard : Claim7 := { stood := { row := lexTextsUptoRow, standIns := [], harness := (true, "08f06a677ee5d0393013b150d47de791655ee6959c8b3780eaebf70fb5f3d897"), looks := false }, kinds := [], alts := [], laidByText := true, laidKinds := [.data, .data, .data], laidTests := true, laidLooks := .later }
def LexTextsUptoCardSaid : Prop := Claim7.holds Tryd.pinned (.plain (OpenSpec.upto lexTextsSpec)) lexTextsUptoCard

/-- THE SECOND FORM's CARD OF 'postbaglaw3.LexBack'. -/
def lexBackUptoCard : Claim7 := { stood := { row := lexBackUptoRow, standIns := [], harness := (true, "08f06a677ee5d0393013b150d47de791655ee6959c8b3780eaebf70fb5f3d897"), looks := false }, kinds := [], alts := [], laidByText := true, laidKinds := [.data, .data, .data], laidTests := true, laidLooks := .later }
def LexBackUptoCardSaid : Prop := Claim7.holds Tryd.pinned (.plain (OpenSpec.upto lexBackSpec)) lexBackUptoCard

/-- THE SECOND FORM's CARD OF 'postbaglaw3.LexLine'. -/
def lexLineUptoCard : Claim7 := { stood := { row := lexLineUptoRow, standIns := [], harness := (true, "08f06a677ee5d0393013b150d47de791655ee6959c8b3780eaebf70fb5f3d897"), looks := false }, kinds := [], alts := [], laidByText := true, laidKinds := [.data, .data, .data], laidTests := true, laidLooks := .later }
def LexLineUptoCardSaid : Prop := Claim7.holds Tryd.pinned (.plain (OpenSpec.upto lexLineSpec)) lexLineUptoCard
end Rows
end Go.Proofs.YtonfchpfhdoefaaDoor

/-
  DERIVED. GIVEN WITH THE SEED: THE CARDS: each row of YtgadmfbilmlnkabGreatDoorRows.lean that lists a variable, with what it lists TIED to the program's text (the seventh form; the later family's looks); each row that meets fmt, with fmt's text TOLD by the authors' own Lean function (tested against real Go, not proved from fmt's source: count such statements apart). THE CARD IS WHAT COUNTS. Prove the row's statement (the work); the ties are given (YtgadmfbilmlnkabGreatDoorTie.lean); close each card by the builder's one call (the guide's Derived/Test/ToyasCard.lean, 'card_holds'). Laid BY PROGRAM, IN A SANDBOX (cutbox-door.mjs). By AI agents, Wed Nov 11 2026. No macro, syntax, notation, axiom, sorry.
-/
import Derived.Test.YtgadmfbilmlnkabGreatDoorRows
import GoSem.ClaimSeven
namespace Go.Proofs.YtgadmfbilmlnkabGreatDoor
namespace Rows

/-- THE TIED CARD OF 'postbaglaw9.DiskNothing'. -/
def diskNothingCard : Claim7 := { stood := { row := diskNothingRow, standIns := [], harness := (true, "6a4f81b418d7b2eff4defd830fcc1c99942b1ade9c4e4e295787e2964d9fa4f1"), looks := true }, kinds := [], alts := [], laidByText := true, laidKinds := [.handle, .sentinel, .sentinel, .sentinel, .sentinel, .sentinel], laidTests := true, laidLooks := .later }
def DiskNothingCardSaid : Prop := Claim7.holds Tryz.pinned (.plain (OpenSpec.ofChange diskNothingSpec)) diskNothingCard

/-- THE TIED CARD OF 'postbaglaw9.DiskPlays'. -/
def diskPlaysCard : Claim7 := { stood := { row := diskPlaysRow, standIns := [], harness := (true, "6a4f81b418d7b2eff4defd830fcc1c99942b1ade9c4e4e295787e2964d9fa4f1"), looks := true }, kinds := [], alts := [], laidByText := true, laidKinds := [.handle, .sentinel, .sentinel, .sentinel, .sentinel, .sentinel], laidTests := true, laidLooks := .later }
def DiskPlaysCardSaid : Prop := Claim7.holds Tryz.pinned (.plain (OpenSpec.ofChange diskPlaysSpec)) diskPlaysCard

/-- THE TIED CARD OF 'postbaglaw9.DiskTwo'. -/
def diskTwoCard : Claim7 := { stood := { row := diskTwoRow, standIns := [], harness := (true, "6a4f81b418d7b2eff4defd830fcc1c99942b1ade9c4e4e295787e2964d9fa4f1"), looks := true }, kinds := [], alts := [], laidByText := true, laidKinds := [.handle, .sentinel, .sentinel, .sentinel, .sentinel, .sentinel], laidTests := true, laidLooks := .later }
def DiskTwoCardSaid : Prop := Claim7.holds Tryz.pinned (.plain (OpenSpec.ofChange diskTwoSpec)) diskTwoCard

/-- THE SECOND FORM's CARD OF 'postbaglaw9.DiskNothing'. -/
def diskNothingUptoCard : Claim7 := { stood := { row := diskNothingUptoRow, standIns := [], harness := (true, "6a4f81b418d7b2eff4defd830fcc1c99942b1ade9c4e4e295787e2964d9fa4f1"), looks := true }, kinds := [], alts := [], laidByText := true, laidKinds := [.handle, .sentinel, .sentinel, .sentinel, .sentinel, .sentinel], laidTests := true, laidLooks := .later }
def DiskNothingUptoCardSaid : Prop := Claim7.holds Tryz.pinned (.plain (OpenSpec.upto diskNothingSpec)) diskNothingUptoCard

/-- THE SECOND FORM's CARD OF 'postbaglaw9.DiskPlays'. -/
def diskPlaysUptoCard : Claim7 := { stood := { row := diskPlaysUptoRow, standIns := [], harness := (true, "6a4f81b418d7b2eff4defd830fcc1c99942b1ade9c4e4e295787e2964d9fa4f1"), looks := true }, kinds := [], alts := [], laidByText := true, laidKinds := [.handle, .sentinel, .sentinel, .sentinel, .sentinel, .sentinel], laidTests := true, laidLooks := .later }
def DiskPlaysUptoCardSaid : Prop := Claim7.holds Tryz.pinned (.plain (OpenSpec.upto diskPlaysSpec)) diskPlaysUptoCard

/-- THE SECOND FORM's CARD OF 'postbaglaw9.DiskTwo'. -/
def diskTwoUptoCard : Claim7 := { stood := { row := diskTwoUptoRow, standIns := [], harness := (true, "6a4f81b418d7b2eff4defd830fcc1c99942b1ade9c4e4e295787e2964d9fa4f1"), looks := true }, kinds := [], alts := [], laidByText := true, laidKinds := [.handle, .sentinel, .sentinel, .sentinel, .sentinel, .sentinel], laidTests := true, laidLooks := .later }
def DiskTwoUptoCardSaid : Prop := Claim7.holds Tryz.pinned (.plain (OpenSpec.upto diskTwoSpec)) diskTwoUptoCard
end Rows
end Go.Proofs.YtgadmfbilmlnkabGreatDoor

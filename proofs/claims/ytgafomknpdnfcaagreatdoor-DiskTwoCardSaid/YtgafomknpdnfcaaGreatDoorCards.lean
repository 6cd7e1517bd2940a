/-
  DERIVED. GIVEN WITH THE SEED: THE CARDS: each row of YtgafomknpdnfcaaGreatDoorRows.lean that lists a variable, with what it lists TIED to the program's text (the seventh form; the later family's looks); each row that meets fmt, with fmt's text TOLD by the authors' own Lean function (tested against real Go, not proved from fmt's source: count such statements apart). THE CARD IS WHAT COUNTS. Prove the row's statement (the work); the ties are given (YtgafomknpdnfcaaGreatDoorTie.lean); close each card by the builder's one call (the guide's Derived/Test/ToyasCard.lean, 'card_holds'). Laid BY PROGRAM, IN A SANDBOX (cutbox-door.mjs). By AI agents, Wed Nov 11 2026. No macro, syntax, notation, axiom, sorry.
-/
import Derived.Test.YtgafomknpdnfcaaGreatDoorRows
import GoSem.ClaimSeven
namespace Go.Proofs.YtgafomknpdnfcaaGreatDoor
namespace Rows

/-- THE TIED CARD OF 'postbaglaw9.DiskPlays'. -/
def diskPlaysCard : Claim7 := { stood := { row := diskPlaysRow, standIns := [], harness := (true, "65e374360a07d3214fda8cf4feeb805238f3c945c44a671527adb245b364a4c2"), looks := true }, kinds := [], alts := [], laidByText := true, laidKinds := [.handle, .sentinel, .sentinel, .sentinel, .sentinel, .sentinel], laidTests := true, laidLooks := .later }
def DiskPlaysCardSaid : Prop := Claim7.holds Tryz.pinned (.plain (OpenSpec.ofChange diskPlaysSpec)) diskPlaysCard

/-- THE TIED CARD OF 'postbaglaw9.DiskTwo'. -/
def diskTwoCard : Claim7 := { stood := { row := diskTwoRow, standIns := [], harness := (true, "65e374360a07d3214fda8cf4feeb805238f3c945c44a671527adb245b364a4c2"), looks := true }, kinds := [], alts := [], laidByText := true, laidKinds := [.handle, .sentinel, .sentinel, .sentinel, .sentinel, .sentinel], laidTests := true, laidLooks := .later }
def DiskTwoCardSaid : Prop := Claim7.holds Tryz.pinned (.plain (OpenSpec.ofChange diskTwoSpec)) diskTwoCard

/-- THE SECOND FORM's CARD OF 'postbaglaw9.DiskPlays'. -/
def diskPlaysUptoCard : Claim7 := { stood := { row := diskPlaysUptoRow, standIns := [], harness := (true, "65e374360a07d3214fda8cf4feeb805238f3c945c44a671527adb245b364a4c2"), looks := true }, kinds := [], alts := [], laidByText := true, laidKinds := [.handle, .sentinel, .sentinel, .sentinel, .sentinel, .sentinel], laidTests := true, laidLooks := .later }
def DiskPlaysUptoCardSaid : Prop := Claim7.holds Tryz.pinned (.plain (OpenSpec.upto diskPlaysSpec)) diskPlaysUptoCard

/-- THE SECOND FORM's CARD OF 'postbaglaw9.DiskTwo'. -/
def diskTwoUptoCard : Claim7 := { stood := { row := diskTwoUptoRow, standIns := [], harness := (true, "65e374360a07d3214fda8cf4feeb805238f3c945c44a671527adb245b364a4c2"), looks := true }, kinds := [], alts := [], laidByText := true, laidKinds := [.handle, .sentinel, .sentinel, .sentinel, .sentinel, .sentinel], laidTests := true, laidLooks := .later }
def DiskTwoUptoCardSaid : Prop := Claim7.holds Tryz.pinned (.plain (OpenSpec.upto diskTwoSpec)) diskTwoUptoCard
end Rows
end Go.Proofs.YtgafomknpdnfcaaGreatDoor

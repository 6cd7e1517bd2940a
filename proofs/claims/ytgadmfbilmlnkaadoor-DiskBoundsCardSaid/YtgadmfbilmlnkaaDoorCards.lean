/-
  DERIVED. GIVEN WITH THE SEED: THE CARDS: each row of YtgadmfbilmlnkaaDoorRows.lean that lists a variable, with what it lists TIED to the program's text (the seventh form; the later family's looks); each row that meets fmt, with fmt's text TOLD by the authors' own Lean function (tested against real Go, not proved from fmt's source: count such statements apart). THE CARD IS WHAT COUNTS. Prove the row's statement (the work); the ties are given (YtgadmfbilmlnkaaDoorTie.lean); close each card by the builder's one call (the guide's Derived/Test/ToyasCard.lean, 'card_holds'). Laid BY PROGRAM, IN A SANDBOX (cutbox-door.mjs). By AI agents, Wed Nov 11 2026. No macro, syntax, notation, axiom, sorry.
-/
import Derived.Test.YtgadmfbilmlnkaaDoorRows
import GoSem.ClaimSeven
namespace Go.Proofs.YtgadmfbilmlnkaaDoor
namespace Rows

/-- THE TIED CARD OF 'postbaglaw9.DiskRenames'. -/
def diskRenamesCard : Claim7 := { stood := { row := diskRenamesRow, standIns := [], harness := (true, "17635d8053fb799fb59ed8cacd0731ffcb44be436d4469de15e6c36c343627b9"), looks := true }, kinds := [], alts := [], laidByText := true, laidKinds := [.sentinel, .sentinel, .sentinel, .sentinel, .sentinel], laidTests := true, laidLooks := .later }
def DiskRenamesCardSaid : Prop := Claim7.holds Tryd.pinned (.plain (OpenSpec.ofChange diskRenamesSpec)) diskRenamesCard

/-- THE TIED CARD OF 'postbaglaw9.DiskCounts'. -/
def diskCountsCard : Claim7 := { stood := { row := diskCountsRow, standIns := [], harness := (true, "17635d8053fb799fb59ed8cacd0731ffcb44be436d4469de15e6c36c343627b9"), looks := true }, kinds := [], alts := [], laidByText := true, laidKinds := [.sentinel, .sentinel, .sentinel, .sentinel, .sentinel], laidTests := true, laidLooks := .later }
def DiskCountsCardSaid : Prop := Claim7.holds Tryd.pinned (.plain (OpenSpec.ofChange diskCountsSpec)) diskCountsCard

/-- THE TIED CARD OF 'postbaglaw9.DiskBounds'. -/
def diskBoundsCard : Claim7 := { stood := { row := diskBoundsRow, standIns := [], harness := (true, "17635d8053fb799fb59ed8cacd0731ffcb44be436d4469de15e6c36c343627b9"), looks := true }, kinds := [], alts := [], laidByText := true, laidKinds := [.sentinel, .sentinel, .sentinel, .sentinel, .sentinel], laidTests := true, laidLooks := .later }
def DiskBoundsCardSaid : Prop := Claim7.holds Tryd.pinned (.plain (OpenSpec.ofChange diskBoundsSpec)) diskBoundsCard

/-- THE TIED CARD OF 'postbaglaw9.DiskNews'. -/
def diskNewsCard : Claim7 := { stood := { row := diskNewsRow, standIns := [], harness := (true, "17635d8053fb799fb59ed8cacd0731ffcb44be436d4469de15e6c36c343627b9"), looks := true }, kinds := [], alts := [], laidByText := true, laidKinds := [.handle, .sentinel, .sentinel, .sentinel, .sentinel, .sentinel], laidTests := true, laidLooks := .later }
def DiskNewsCardSaid : Prop := Claim7.holds Tryd.pinned (.plain (OpenSpec.ofChange diskNewsSpec)) diskNewsCard

/-- THE TIED CARD OF 'postbaglaw9.DiskKeeps'. -/
def diskKeepsCard : Claim7 := { stood := { row := diskKeepsRow, standIns := [], harness := (true, "17635d8053fb799fb59ed8cacd0731ffcb44be436d4469de15e6c36c343627b9"), looks := true }, kinds := [], alts := [], laidByText := true, laidKinds := [.sentinel, .sentinel, .sentinel, .sentinel, .sentinel], laidTests := true, laidLooks := .later }
def DiskKeepsCardSaid : Prop := Claim7.holds Tryd.pinned (.plain (OpenSpec.ofChange diskKeepsSpec)) diskKeepsCard

/-- THE SECOND FORM's CARD OF 'postbaglaw9.DiskRenames'. -/
def diskRenamesUptoCard : Claim7 := { stood := { row := diskRenamesUptoRow, standIns := [], harness := (true, "17635d8053fb799fb59ed8cacd0731ffcb44be436d4469de15e6c36c343627b9"), looks := true }, kinds := [], alts := [], laidByText := true, laidKinds := [.sentinel, .sentinel, .sentinel, .sentinel, .sentinel], laidTests := true, laidLooks := .later }
def DiskRenamesUptoCardSaid : Prop := Claim7.holds Tryd.pinned (.plain (OpenSpec.upto diskRenamesSpec)) diskRenamesUptoCard

/-- THE SECOND FORM's CARD OF 'postbaglaw9.DiskCounts'. -/
def diskCountsUptoCard : Claim7 := { stood := { row := diskCountsUptoRow, standIns := [], harness := (true, "17635d8053fb799fb59ed8cacd0731ffcb44be436d4469de15e6c36c343627b9"), looks := true }, kinds := [], alts := [], laidByText := true, laidKinds := [.sentinel, .sentinel, .sentinel, .sentinel, .sentinel], laidTests := true, laidLooks := .later }
def DiskCountsUptoCardSaid : Prop := Claim7.holds Tryd.pinned (.plain (OpenSpec.upto diskCountsSpec)) diskCountsUptoCard

/-- THE SECOND FORM's CARD OF 'postbaglaw9.DiskBounds'. -/
def diskBoundsUptoCard : Claim7 := { stood := { row := diskBoundsUptoRow, standIns := [], harness := (true, "17635d8053fb799fb59ed8cacd0731ffcb44be436d4469de15e6c36c343627b9"), looks := true }, kinds := [], alts := [], laidByText := true, laidKinds := [.sentinel, .sentinel, .sentinel, .sentinel, .sentinel], laidTests := true, laidLooks := .later }
def DiskBoundsUptoCardSaid : Prop := Claim7.holds Tryd.pinned (.plain (OpenSpec.upto diskBoundsSpec)) diskBoundsUptoCard

/-- THE SECOND FORM's CARD OF 'postbaglaw9.DiskNews'. -/
def diskNewsUptoCard : Claim7 := { stood := { row := diskNewsUptoRow, standIns := [], harness := (true, "17635d8053fb799fb59ed8cacd0731ffcb44be436d4469de15e6c36c343627b9"), looks := true }, kinds := [], alts := [], laidByText := true, laidKinds := [.handle, .sentinel, .sentinel, .sentinel, .sentinel, .sentinel], laidTests := true, laidLooks := .later }
def DiskNewsUptoCardSaid : Prop := Claim7.holds Tryd.pinned (.plain (OpenSpec.upto diskNewsSpec)) diskNewsUptoCard

/-- THE SECOND FORM's CARD OF 'postbaglaw9.DiskKeeps'. -/
def diskKeepsUptoCard : Claim7 := { stood := { row := diskKeepsUptoRow, standIns := [], harness := (true, "17635d8053fb799fb59ed8cacd0731ffcb44be436d4469de15e6c36c343627b9"), looks := true }, kinds := [], alts := [], laidByText := true, laidKinds := [.sentinel, .sentinel, .sentinel, .sentinel, .sentinel], laidTests := true, laidLooks := .later }
def DiskKeepsUptoCardSaid : Prop := Claim7.holds Tryd.pinned (.plain (OpenSpec.upto diskKeepsSpec)) diskKeepsUptoCard
end Rows
end Go.Proofs.YtgadmfbilmlnkaaDoor

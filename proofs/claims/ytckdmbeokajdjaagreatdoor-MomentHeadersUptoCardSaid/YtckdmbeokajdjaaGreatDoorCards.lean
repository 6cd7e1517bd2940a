/-
  DERIVED. GIVEN WITH THE SEED: THE CARDS: each row of YtckdmbeokajdjaaGreatDoorRows.lean that lists a variable, with what it lists TIED to the program's text (the seventh form; the later family's looks); each row that meets fmt, with fmt's text TOLD by the authors' own Lean function (tested against real Go, not proved from fmt's source: count such statements apart). THE CARD IS WHAT COUNTS. Prove the row's statement (the work); the ties are given (YtckdmbeokajdjaaGreatDoorTie.lean); close each card by the builder's one call (the guide's Derived/Test/ToyasCard.lean, 'card_holds'). Laid BY PROGRAM, IN A SANDBOX (cutbox-door.mjs). By AI agents, Wed Nov 11 2026. No macro, syntax, notation, axiom, sorry.
-/
import Derived.Test.YtckdmbeokajdjaaGreatDoorRows
import GoSem.ClaimSeven
namespace Go.Proofs.YtckdmbeokajdjaaGreatDoor
namespace Rows

/-- THE TIED CARD OF 'postbaglaw2.MomentHeaders'. -/
def momentHeadersCard : Claim7 := { stood := { row := momentHeadersRow, standIns := [], harness := (true, "c453eef3c10d62e8cfd18f8b719a79a45099a069699d1bdf2b84411523299553"), looks := false }, kinds := [], alts := [], laidByText := true, laidKinds := [.data, .data, .data, .data, .data, .data, .data, .pinned, .pinned], laidTests := true, laidLooks := .later }
def MomentHeadersCardSaid : Prop := Claim7.holds Tryz.pinned (.plain (OpenSpec.ofChange momentHeadersSpec)) momentHeadersCard

/-- THE SECOND FORM's CARD OF 'postbaglaw2.MomentHeaders'. -/
def momentHeadersUptoCard : Claim7 := { stood := { row := momentHeadersUptoRow, standIns := [], harness := (true, "c453eef3c10d62e8cfd18f8b719a79a45099a069699d1bdf2b84411523299553"), looks := false }, kinds := [], alts := [], laidByText := true, laidKinds := [.data, .data, .data, .data, .data, .data, .data, .pinned, .pinned], laidTests := true, laidLooks := .later }
def MomentHeadersUptoCardSaid : Prop := Claim7.holds Tryz.pinned (.plain (OpenSpec.upto momentHeadersSpec)) momentHeadersUptoCard
end Rows
end Go.Proofs.YtckdmbeokajdjaaGreatDoor

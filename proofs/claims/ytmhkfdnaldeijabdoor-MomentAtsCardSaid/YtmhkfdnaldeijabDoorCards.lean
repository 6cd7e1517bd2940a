/-
  DERIVED. GIVEN WITH THE SEED: THE CARDS: each row of YtmhkfdnaldeijabDoorRows.lean that lists a variable, with what it lists TIED to the program's text (the seventh form; the later family's looks); each row that meets fmt, with fmt's text TOLD by the authors' own Lean function (tested against real Go, not proved from fmt's source: count such statements apart). THE CARD IS WHAT COUNTS. Prove the row's statement (the work); the ties are given (YtmhkfdnaldeijabDoorTie.lean); close each card by the builder's one call (the guide's Derived/Test/ToyasCard.lean, 'card_holds'). Laid BY PROGRAM, IN A SANDBOX (cutbox-door.mjs). By AI agents, Wed Nov 11 2026. No macro, syntax, notation, axiom, sorry.
-/
import Derived.Test.YtmhkfdnaldeijabDoorRows
import GoSem.ClaimSeven
namespace Go.Proofs.YtmhkfdnaldeijabDoor
namespace Rows

/-- THE TIED CARD OF 'postbaglaw2.MomentAts'. -/
def momentAtsCard : Claim7 := { stood := { row := momentAtsRow, standIns := [], harness := (true, "a99a6003177318630c0fdb98851a91e234d7ef3ae5c2d783cb00834a946af5ce"), looks := false }, kinds := [], alts := [], laidByText := true, laidKinds := [.data, .data, .data, .data, .data, .data, .data, .pinned, .pinned], laidTests := true, laidLooks := .later }
def MomentAtsCardSaid : Prop := Claim7.holds Tryd.pinned (.plain (OpenSpec.ofChange momentAtsSpec)) momentAtsCard

/-- THE SECOND FORM's CARD OF 'postbaglaw2.MomentAts'. -/
def momentAtsUptoCard : Claim7 := { stood := { row := momentAtsUptoRow, standIns := [], harness := (true, "a99a6003177318630c0fdb98851a91e234d7ef3ae5c2d783cb00834a946af5ce"), looks := false }, kinds := [], alts := [], laidByText := true, laidKinds := [.data, .data, .data, .data, .data, .data, .data, .pinned, .pinned], laidTests := true, laidLooks := .later }
def MomentAtsUptoCardSaid : Prop := Claim7.holds Tryd.pinned (.plain (OpenSpec.upto momentAtsSpec)) momentAtsUptoCard
end Rows
end Go.Proofs.YtmhkfdnaldeijabDoor

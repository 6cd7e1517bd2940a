/-
  DERIVED. GIVEN WITH THE SEED: THE CARDS: each row of YtlmlbcnjohjnlaaDoorRows.lean that lists a variable, with what it lists TIED to the program's text (the seventh form; the later family's looks); each row that meets fmt, with fmt's text TOLD by the authors' own Lean function (tested against real Go, not proved from fmt's source: count such statements apart). THE CARD IS WHAT COUNTS. Prove the row's statement (the work); the ties are given (YtlmlbcnjohjnlaaDoorTie.lean); close each card by the builder's one call (the guide's Derived/Test/ToyasCard.lean, 'card_holds'). Laid BY PROGRAM, IN A SANDBOX (cutbox-door.mjs). By AI agents, Wed Nov 11 2026. No macro, syntax, notation, axiom, sorry.
-/
import Derived.Test.YtlmlbcnjohjnlaaDoorRows
import GoSem.ClaimSeven
namespace Go.Proofs.YtlmlbcnjohjnlaaDoor
namespace Rows

/-- THE TIED CARD OF 'postbaglaw19.MirrorNothing'. -/
def mirrorNothingCard : Claim7 := { stood := { row := mirrorNothingRow, standIns := [], harness := (true, "a7ff0accd21129582338c439b68c53918758bc5d7d5c27d6d6620893e5459ccd"), looks := false }, kinds := [], alts := [], laidByText := true, laidKinds := [.data, .data, .data], laidTests := true, laidLooks := .later }
def MirrorNothingCardSaid : Prop := Claim7.holds Tryd.pinned (.plain (OpenSpec.ofChange mirrorNothingSpec)) mirrorNothingCard

/-- THE TIED CARD OF 'postbaglaw19.MirrorRows'. -/
def mirrorRowsCard : Claim7 := { stood := { row := mirrorRowsRow, standIns := [], harness := (true, "a7ff0accd21129582338c439b68c53918758bc5d7d5c27d6d6620893e5459ccd"), looks := false }, kinds := [], alts := [], laidByText := true, laidKinds := [.data, .data, .data], laidTests := true, laidLooks := .later }
def MirrorRowsCardSaid : Prop := Claim7.holds Tryd.pinned (.plain (OpenSpec.ofChange mirrorRowsSpec)) mirrorRowsCard

/-- THE TIED CARD OF 'postbaglaw19.MirrorIgnores'. -/
def mirrorIgnoresCard : Claim7 := { stood := { row := mirrorIgnoresRow, standIns := [], harness := (true, "a7ff0accd21129582338c439b68c53918758bc5d7d5c27d6d6620893e5459ccd"), looks := false }, kinds := [], alts := [], laidByText := true, laidKinds := [.data, .data, .data], laidTests := true, laidLooks := .later }
def MirrorIgnoresCardSaid : Prop := Claim7.holds Tryd.pinned (.plain (OpenSpec.ofChange mirrorIgnoresSpec)) mirrorIgnoresCard

/-- THE SECOND FORM's CARD OF 'postbaglaw19.MirrorNothing'. -/
def mirrorNothingUptoCard : Claim7 := { stood := { row := mirrorNothingUptoRow, standIns := [], harness := (true, "a7ff0accd21129582338c439b68c53918758bc5d7d5c27d6d6620893e5459ccd"), looks := false }, kinds := [], alts := [], laidByText := true, laidKinds := [.data, .data, .data], laidTests := true, laidLooks := .later }
def MirrorNothingUptoCardSaid : Prop := Claim7.holds Tryd.pinned (.plain (OpenSpec.upto mirrorNothingSpec)) mirrorNothingUptoCard

/-- THE SECOND FORM's CARD OF 'postbaglaw19.MirrorRows'. -/
def mirrorRowsUptoCard : Claim7 := { stood := { row := mirrorRowsUptoRow, standIns := [], harness := (true, "a7ff0accd21129582338c439b68c53918758bc5d7d5c27d6d6620893e5459ccd"), looks := false }, kinds := [], alts := [], laidByText := true, laidKinds := [.data, .data, .data], laidTests := true, laidLooks := .later }
def MirrorRowsUptoCardSaid : Prop := Claim7.holds Tryd.pinned (.plain (OpenSpec.upto mirrorRowsSpec)) mirrorRowsUptoCard

/-- THE SECOND FORM's CARD OF 'postbaglaw19.MirrorIgnores'. -/
def mirrorIgnoresUptoCard : Claim7 := { stood := { row := mirrorIgnoresUptoRow, standIns := [], harness := (true, "a7ff0accd21129582338c439b68c53918758bc5d7d5c27d6d6620893e5459ccd"), looks := false }, kinds := [], alts := [], laidByText := true, laidKinds := [.data, .data, .data], laidTests := true, laidLooks := .later }
def MirrorIgnoresUptoCardSaid : Prop := Claim7.holds Tryd.pinned (.plain (OpenSpec.upto mirrorIgnoresSpec)) mirrorIgnoresUptoCard
end Rows
end Go.Proofs.YtlmlbcnjohjnlaaDoor

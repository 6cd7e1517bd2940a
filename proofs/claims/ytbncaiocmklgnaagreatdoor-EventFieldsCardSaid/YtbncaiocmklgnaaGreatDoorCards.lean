/-
  DERIVED. GIVEN WITH THE SEED: THE CARDS: each row of YtbncaiocmklgnaaGreatDoorRows.lean that lists a variable, with what it lists TIED to the program's text (the seventh form; the later family's looks); each row that meets fmt, with fmt's text TOLD by the authors' own Lean function (tested against real Go, not proved from fmt's source: count such statements apart). THE CARD IS WHAT COUNTS. Prove the row's statement (the work); the ties are given (YtbncaiocmklgnaaGreatDoorTie.lean); close each card by the builder's one call (the guide's Derived/Test/ToyasCard.lean, 'card_holds'). Laid BY PROGRAM, IN A SANDBOX (cutbox-door.mjs). By AI agents, Wed Nov 11 2026. No macro, syntax, notation, axiom, sorry.
-/
import Derived.Test.YtbncaiocmklgnaaGreatDoorRows
import GoSem.ClaimSeven
namespace Go.Proofs.YtbncaiocmklgnaaGreatDoor
namespace Rows

/-- THE TIED CARD OF 'postbaglaw11.EventFormed'. -/
def eventFormedCard : Claim7 := { stood := { row := eventFormedRow, standIns := [], harness := (true, "9799320d7ceb0935dfeb9fef1a54ad0ee1bc5777797fd8eb0b44e69d73a0e024"), looks := false }, kinds := [], alts := [], laidByText := true, laidKinds := [.data, .data, .data, .pinned], laidTests := true, laidLooks := .later }
def EventFormedCardSaid : Prop := Claim7.holds Tryz.pinned (.plain (OpenSpec.ofChange eventFormedSpec)) eventFormedCard

/-- THE TIED CARD OF 'postbaglaw11.EventFields'. -/
def eventFieldsCard : Claim7 := { stood := { row := eventFieldsRow, standIns := [], harness := (true, "9799320d7ceb0935dfeb9fef1a54ad0ee1bc5777797fd8eb0b44e69d73a0e024"), looks := false }, kinds := [], alts := [], laidByText := true, laidKinds := [.data, .data, .data, .pinned], laidTests := true, laidLooks := .later }
def EventFieldsCardSaid : Prop := Claim7.holds Tryz.pinned (.plain (OpenSpec.ofChange eventFieldsSpec)) eventFieldsCard

/-- THE TIED CARD OF 'postbaglaw11.EventFlags'. -/
def eventFlagsCard : Claim7 := { stood := { row := eventFlagsRow, standIns := [], harness := (true, "9799320d7ceb0935dfeb9fef1a54ad0ee1bc5777797fd8eb0b44e69d73a0e024"), looks := false }, kinds := [], alts := [], laidByText := true, laidKinds := [.data, .data, .data, .pinned], laidTests := true, laidLooks := .later }
def EventFlagsCardSaid : Prop := Claim7.holds Tryz.pinned (.plain (OpenSpec.ofChange eventFlagsSpec)) eventFlagsCard

/-- THE SECOND FORM's CARD OF 'postbaglaw11.EventFormed'. -/
def eventFormedUptoCard : Claim7 := { stood := { row := eventFormedUptoRow, standIns := [], harness := (true, "9799320d7ceb0935dfeb9fef1a54ad0ee1bc5777797fd8eb0b44e69d73a0e024"), looks := false }, kinds := [], alts := [], laidByText := true, laidKinds := [.data, .data, .data, .pinned], laidTests := true, laidLooks := .later }
def EventFormedUptoCardSaid : Prop := Claim7.holds Tryz.pinned (.plain (OpenSpec.upto eventFormedSpec)) eventFormedUptoCard

/-- THE SECOND FORM's CARD OF 'postbaglaw11.EventFields'. -/
def eventFieldsUptoCard : Claim7 := { stood := { row := eventFieldsUptoRow, standIns := [], harness := (true, "9799320d7ceb0935dfeb9fef1a54ad0ee1bc5777797fd8eb0b44e69d73a0e024"), looks := false }, kinds := [], alts := [], laidByText := true, laidKinds := [.data, .data, .data, .pinned], laidTests := true, laidLooks := .later }
def EventFieldsUptoCardSaid : Prop := Claim7.holds Tryz.pinned (.plain (OpenSpec.upto eventFieldsSpec)) eventFieldsUptoCard

/-- THE SECOND FORM's CARD OF 'postbaglaw11.EventFlags'. -/
def eventFlagsUptoCard : Claim7 := { stood := { row := eventFlagsUptoRow, standIns := [], harness := (true, "9799320d7ceb0935dfeb9fef1a54ad0ee1bc5777797fd8eb0b44e69d73a0e024"), looks := false }, kinds := [], alts := [], laidByText := true, laidKinds := [.data, .data, .data, .pinned], laidTests := true, laidLooks := .later }
def EventFlagsUptoCardSaid : Prop := Claim7.holds Tryz.pinned (.plain (OpenSpec.upto eventFlagsSpec)) eventFlagsUptoCard
end Rows
end Go.Proofs.YtbncaiocmklgnaaGreatDoor

/-
  DERIVED. GIVEN WITH THE SEED: THE CARDS: each row of YtngpejoiicpnkaaDoorRows.lean that lists a variable, with what it lists TIED to the program's text (the seventh form; the later family's looks); each row that meets fmt, with fmt's text TOLD by the authors' own Lean function (tested against real Go, not proved from fmt's source: count such statements apart). THE CARD IS WHAT COUNTS. Prove the row's statement (the work); the ties are given (YtngpejoiicpnkaaDoorTie.lean); close each card by the builder's one call (the guide's Derived/Test/ToyasCard.lean, 'card_holds'). Laid BY PROGRAM, IN A SANDBOX (cutbox-door.mjs). By AI agents, Wed Nov 11 2026. No macro, syntax, notation, axiom, sorry.
-/
import Derived.Test.YtngpejoiicpnkaaDoorRows
import GoSem.ClaimSeven
namespace Go.Proofs.YtngpejoiicpnkaaDoor
namespace Rows

/-- THE TIED CARD OF 'postbaglaw2.MomentTomorrow'. -/
def momentTomorrowCard : Claim7 := { stood := { row := momentTomorrowRow, standIns := [], harness := (true, "36e87136158912f22a0709e0251b232d4d616106d8d1d1a46c4c8ac806614099"), looks := false }, kinds := [], alts := [], laidByText := true, laidKinds := [.data, .data, .data, .data, .data, .data, .data, .pinned, .pinned], laidTests := true, laidLooks := .later }
def MomentTomorrowCardSaid : Prop := Claim7.holds Tryd.pinned (.plain (OpenSpec.ofChange momentTomorrowSpec)) momentTomorrowCard

/-- THE TIED CARD OF 'postbaglaw2.MomentReturns'. -/
def momentReturnsCard : Claim7 := { stood := { row := momentReturnsRow, standIns := [], harness := (true, "36e87136158912f22a0709e0251b232d4d616106d8d1d1a46c4c8ac806614099"), looks := false }, kinds := [], alts := [], laidByText := true, laidKinds := [.data, .data, .data, .data, .data, .data, .data, .pinned, .pinned], laidTests := true, laidLooks := .later }
def MomentReturnsCardSaid : Prop := Claim7.holds Tryd.pinned (.plain (OpenSpec.ofChange momentReturnsSpec)) momentReturnsCard

/-- THE TIED CARD OF 'postbaglaw2.MomentPrinted'. -/
def momentPrintedCard : Claim7 := { stood := { row := momentPrintedRow, standIns := [], harness := (true, "36e87136158912f22a0709e0251b232d4d616106d8d1d1a46c4c8ac806614099"), looks := false }, kinds := [], alts := [], laidByText := true, laidKinds := [.data, .data, .data, .data, .data, .data, .data, .pinned, .pinned], laidTests := true, laidLooks := .later }
def MomentPrintedCardSaid : Prop := Claim7.holds Tryd.pinned (.plain (OpenSpec.ofChange momentPrintedSpec)) momentPrintedCard

/-- THE TIED CARD OF 'postbaglaw2.MomentRead'. -/
def momentReadCard : Claim7 := { stood := { row := momentReadRow, standIns := [], harness := (true, "36e87136158912f22a0709e0251b232d4d616106d8d1d1a46c4c8ac806614099"), looks := false }, kinds := [], alts := [], laidByText := true, laidKinds := [.data, .data, .data, .data, .data, .data, .data, .pinned, .pinned], laidTests := true, laidLooks := .later }
def MomentReadCardSaid : Prop := Claim7.holds Tryd.pinned (.plain (OpenSpec.ofChange momentReadSpec)) momentReadCard

/-- THE TIED CARD OF 'postbaglaw2.MomentGaps'. -/
def momentGapsCard : Claim7 := { stood := { row := momentGapsRow, standIns := [], harness := (true, "36e87136158912f22a0709e0251b232d4d616106d8d1d1a46c4c8ac806614099"), looks := false }, kinds := [], alts := [], laidByText := true, laidKinds := [.data, .data, .data, .data, .data, .data, .data, .pinned, .pinned], laidTests := true, laidLooks := .later }
def MomentGapsCardSaid : Prop := Claim7.holds Tryd.pinned (.plain (OpenSpec.ofChange momentGapsSpec)) momentGapsCard

/-- THE TIED CARD OF 'postbaglaw2.MomentOrdered'. -/
def momentOrderedCard : Claim7 := { stood := { row := momentOrderedRow, standIns := [], harness := (true, "36e87136158912f22a0709e0251b232d4d616106d8d1d1a46c4c8ac806614099"), looks := false }, kinds := [], alts := [], laidByText := true, laidKinds := [.data, .data, .data, .data, .data, .data, .data, .pinned, .pinned], laidTests := true, laidLooks := .later }
def MomentOrderedCardSaid : Prop := Claim7.holds Tryd.pinned (.plain (OpenSpec.ofChange momentOrderedSpec)) momentOrderedCard

/-- THE SECOND FORM's CARD OF 'postbaglaw2.MomentTomorrow'. -/
def momentTomorrowUptoCard : Claim7 := { stood := { row := momentTomorrowUptoRow, standIns := [], harness := (true, "36e87136158912f22a0709e0251b232d4d616106d8d1d1a46c4c8ac806614099"), looks := false }, kinds := [], alts := [], laidByText := true, laidKinds := [.data, .data, .data, .data, .data, .data, .data, .pinned, .pinned], laidTests := true, laidLooks := .later }
def MomentTomorrowUptoCardSaid : Prop := Claim7.holds Tryd.pinned (.plain (OpenSpec.upto momentTomorrowSpec)) momentTomorrowUptoCard

/-- THE SECOND FORM's CARD OF 'postbaglaw2.MomentReturns'. -/
def momentReturnsUptoCard : Claim7 := { stood := { row := momentReturnsUptoRow, standIns := [], harness := (true, "36e87136158912f22a0709e0251b232d4d616106d8d1d1a46c4c8ac806614099"), looks := false }, kinds := [], alts := [], laidByText := true, laidKinds := [.data, .data, .data, .data, .data, .data, .data, .pinned, .pinned], laidTests := true, laidLooks := .later }
def MomentReturnsUptoCardSaid : Prop := Claim7.holds Tryd.pinned (.plain (OpenSpec.upto momentReturnsSpec)) momentReturnsUptoCard

/-- THE SECOND FORM's CARD OF 'postbaglaw2.MomentPrinted'. -/
def momentPrintedUptoCard : Claim7 := { stood := { row := momentPrintedUptoRow, standIns := [], harness := (true, "36e87136158912f22a0709e0251b232d4d616106d8d1d1a46c4c8ac806614099"), looks := false }, kinds := [], alts := [], laidByText := true, laidKinds := [.data, .data, .data, .data, .data, .data, .data, .pinned, .pinned], laidTests := true, laidLooks := .later }
def MomentPrintedUptoCardSaid : Prop := Claim7.holds Tryd.pinned (.plain (OpenSpec.upto momentPrintedSpec)) momentPrintedUptoCard

/-- THE SECOND FORM's CARD OF 'postbaglaw2.MomentRead'. -/
def momentReadUptoCard : Claim7 := { stood := { row := momentReadUptoRow, standIns := [], harness := (true, "36e87136158912f22a0709e0251b232d4d616106d8d1d1a46c4c8ac806614099"), looks := false }, kinds := [], alts := [], laidByText := true, laidKinds := [.data, .data, .data, .data, .data, .data, .data, .pinned, .pinned], laidTests := true, laidLooks := .later }
def MomentReadUptoCardSaid : Prop := Claim7.holds Tryd.pinned (.plain (OpenSpec.upto momentReadSpec)) momentReadUptoCard

/-- THE SECOND FORM's CARD OF 'postbaglaw2.MomentGaps'. -/
def momentGapsUptoCard : Claim7 := { stood := { row := momentGapsUptoRow, standIns := [], harness := (true, "36e87136158912f22a0709e0251b232d4d616106d8d1d1a46c4c8ac806614099"), looks := false }, kinds := [], alts := [], laidByText := true, laidKinds := [.data, .data, .data, .data, .data, .data, .data, .pinned, .pinned], laidTests := true, laidLooks := .later }
def MomentGapsUptoCardSaid : Prop := Claim7.holds Tryd.pinned (.plain (OpenSpec.upto momentGapsSpec)) momentGapsUptoCard

/-- THE SECOND FORM's CARD OF 'postbaglaw2.MomentOrdered'. -/
def momentOrderedUptoCard : Claim7 := { stood := { row := momentOrderedUptoRow, standIns := [], harness := (true, "36e87136158912f22a0709e0251b232d4d616106d8d1d1a46c4c8ac806614099"), looks := false }, kinds := [], alts := [], laidByText := true, laidKinds := [.data, .data, .data, .data, .data, .data, .data, .pinned, .pinned], laidTests := true, laidLooks := .later }
def MomentOrderedUptoCardSaid : Prop := Claim7.holds Tryd.pinned (.plain (OpenSpec.upto momentOrderedSpec)) momentOrderedUptoCard
end Rows
end Go.Proofs.YtngpejoiicpnkaaDoor

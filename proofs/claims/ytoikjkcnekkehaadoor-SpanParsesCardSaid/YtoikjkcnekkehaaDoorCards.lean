/-
  DERIVED. GIVEN WITH THE SEED: THE CARDS: each row of YtoikjkcnekkehaaDoorRows.lean that lists a variable, with what it lists TIED to the program's text (the seventh form; the later family's looks); each row that meets fmt, with fmt's text TOLD by the authors' own Lean function (tested against real Go, not proved from fmt's source: count such statements apart). THE CARD IS WHAT COUNTS. Prove the row's statement (the work); the ties are given (YtoikjkcnekkehaaDoorTie.lean); close each card by the builder's one call (the guide's Derived/Test/ToyasCard.lean, 'card_holds'). Laid BY PROGRAM, IN A SANDBOX (cutbox-door.mjs). By AI agents, Wed Nov 11 2026. No macro, syntax, notation, axiom, sorry.
-/
import Derived.Test.YtoikjkcnekkehaaDoorRows
import GoSem.ClaimSeven
namespace Go.Proofs.YtoikjkcnekkehaaDoor
namespace Rows

/-- THE TIED CARD OF 'postbaglaw4.SpanEither'. -/
def spanEitherCard : Claim7 := { stood := { row := spanEitherRow, standIns := [], harness := (true, "0124605b3cc8a9a55bd8668904fc30396aef9b2b96861fb9b7f7597717a045cb"), looks := true }, kinds := [], alts := [], laidByText := true, laidKinds := [.data, .data, .data, .sentinel, .sentinel], laidTests := true, laidLooks := .later }
def SpanEitherCardSaid : Prop := Claim7.holds Tryd.pinned (.plain (OpenSpec.ofChange spanEitherSpec)) spanEitherCard

/-- THE TIED CARD OF 'postbaglaw4.SpanMeans'. -/
def spanMeansCard : Claim7 := { stood := { row := spanMeansRow, standIns := [], harness := (true, "0124605b3cc8a9a55bd8668904fc30396aef9b2b96861fb9b7f7597717a045cb"), looks := true }, kinds := [], alts := [], laidByText := true, laidKinds := [.data, .data, .data, .sentinel, .sentinel], laidTests := true, laidLooks := .later }
def SpanMeansCardSaid : Prop := Claim7.holds Tryd.pinned (.plain (OpenSpec.ofChange spanMeansSpec)) spanMeansCard

/-- THE TIED CARD OF 'postbaglaw4.SpanBack'. -/
def spanBackCard : Claim7 := { stood := { row := spanBackRow, standIns := [], harness := (true, "0124605b3cc8a9a55bd8668904fc30396aef9b2b96861fb9b7f7597717a045cb"), looks := true }, kinds := [], alts := [], laidByText := true, laidKinds := [.data, .data, .data, .sentinel, .sentinel], laidTests := true, laidLooks := .later }
def SpanBackCardSaid : Prop := Claim7.holds Tryd.pinned (.plain (OpenSpec.ofChange spanBackSpec)) spanBackCard

/-- THE TIED CARD OF 'postbaglaw4.SpanForm'. -/
def spanFormCard : Claim7 := { stood := { row := spanFormRow, standIns := [], harness := (true, "0124605b3cc8a9a55bd8668904fc30396aef9b2b96861fb9b7f7597717a045cb"), looks := true }, kinds := [], alts := [], laidByText := true, laidKinds := [.data, .data, .data, .sentinel, .sentinel], laidTests := true, laidLooks := .later }
def SpanFormCardSaid : Prop := Claim7.holds Tryd.pinned (.plain (OpenSpec.ofChange spanFormSpec)) spanFormCard

/-- THE TIED CARD OF 'postbaglaw4.SpanCounts'. -/
def spanCountsCard : Claim7 := { stood := { row := spanCountsRow, standIns := [], harness := (true, "0124605b3cc8a9a55bd8668904fc30396aef9b2b96861fb9b7f7597717a045cb"), looks := true }, kinds := [], alts := [], laidByText := true, laidKinds := [.data, .data, .data, .sentinel, .sentinel], laidTests := true, laidLooks := .later }
def SpanCountsCardSaid : Prop := Claim7.holds Tryd.pinned (.plain (OpenSpec.ofChange spanCountsSpec)) spanCountsCard

/-- THE TIED CARD OF 'postbaglaw4.SpanParses'. -/
def spanParsesCard : Claim7 := { stood := { row := spanParsesRow, standIns := [], harness := (true, "0124605b3cc8a9a55bd8668904fc30396aef9b2b96861fb9b7f7597717a045cb"), looks := true }, kinds := [], alts := [], laidByText := true, laidKinds := [.data, .data, .data, .sentinel, .sentinel], laidTests := true, laidLooks := .later }
def SpanParsesCardSaid : Prop := Claim7.holds Tryd.pinned (.plain (OpenSpec.ofChange spanParsesSpec)) spanParsesCard

/-- THE SECOND FORM's CARD OF 'postbaglaw4.SpanEither'. -/
def spanEitherUptoCard : Claim7 := { stood := { row := spanEitherUptoRow, standIns := [], harness := (true, "0124605b3cc8a9a55bd8668904fc30396aef9b2b96861fb9b7f7597717a045cb"), looks := true }, kinds := [], alts := [], laidByText := true, laidKinds := [.data, .data, .data, .sentinel, .sentinel], laidTests := true, laidLooks := .later }
def SpanEitherUptoCardSaid : Prop := Claim7.holds Tryd.pinned (.plain (OpenSpec.upto spanEitherSpec)) spanEitherUptoCard

/-- THE SECOND FORM's CARD OF 'postbaglaw4.SpanMeans'. -/
def spanMeansUptoCard : Claim7 := { stood := { row := spanMeansUptoRow, standIns := [], harness := (true, "0124605b3cc8a9a55bd8668904fc30396aef9b2b96861fb9b7f7597717a045cb"), looks := true }, kinds := [], alts := [], laidByText := true, laidKinds := [.data, .data, .data, .sentinel, .sentinel], laidTests := true, laidLooks := .later }
def SpanMeansUptoCardSaid : Prop := Claim7.holds Tryd.pinned (.plain (OpenSpec.upto spanMeansSpec)) spanMeansUptoCard

/-- THE SECOND FORM's CARD OF 'postbaglaw4.SpanBack'. -/
def spanBackUptoCard : Claim7 := { stood := { row := spanBackUptoRow, standIns := [], harness := (true, "0124605b3cc8a9a55bd8668904fc30396aef9b2b96861fb9b7f7597717a045cb"), looks := true }, kinds := [], alts := [], laidByText := true, laidKinds := [.data, .data, .data, .sentinel, .sentinel], laidTests := true, laidLooks := .later }
def SpanBackUptoCardSaid : Prop := Claim7.holds Tryd.pinned (.plain (OpenSpec.upto spanBackSpec)) spanBackUptoCard

/-- THE SECOND FORM's CARD OF 'postbaglaw4.SpanForm'. -/
def spanFormUptoCard : Claim7 := { stood := { row := spanFormUptoRow, standIns := [], harness := (true, "0124605b3cc8a9a55bd8668904fc30396aef9b2b96861fb9b7f7597717a045cb"), looks := true }, kinds := [], alts := [], laidByText := true, laidKinds := [.data, .data, .data, .sentinel, .sentinel], laidTests := true, laidLooks := .later }
def SpanFormUptoCardSaid : Prop := Claim7.holds Tryd.pinned (.plain (OpenSpec.upto spanFormSpec)) spanFormUptoCard

/-- THE SECOND FORM's CARD OF 'postbaglaw4.SpanCounts'. -/
def spanCountsUptoCard : Claim7 := { stood := { row := spanCountsUptoRow, standIns := [], harness := (true, "0124605b3cc8a9a55bd8668904fc30396aef9b2b96861fb9b7f7597717a045cb"), looks := true }, kinds := [], alts := [], laidByText := true, laidKinds := [.data, .data, .data, .sentinel, .sentinel], laidTests := true, laidLooks := .later }
def SpanCountsUptoCardSaid : Prop := Claim7.holds Tryd.pinned (.plain (OpenSpec.upto spanCountsSpec)) spanCountsUptoCard

/-- THE SECOND FORM's CARD OF 'postbaglaw4.SpanParses'. -/
def spanParsesUptoCard : Claim7 := { stood := { row := spanParsesUptoRow, standIns := [], harness := (true, "0124605b3cc8a9a55bd8668904fc30396aef9b2b96861fb9b7f7597717a045cb"), looks := true }, kinds := [], alts := [], laidByText := true, laidKinds := [.data, .data, .data, .sentinel, .sentinel], laidTests := true, laidLooks := .later }
def SpanParsesUptoCardSaid : Prop := Claim7.holds Tryd.pinned (.plain (OpenSpec.upto spanParsesSpec)) spanParsesUptoCard
end Rows
end Go.Proofs.YtoikjkcnekkehaaDoor

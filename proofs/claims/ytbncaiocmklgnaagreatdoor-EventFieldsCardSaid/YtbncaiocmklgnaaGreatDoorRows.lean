/-
  NARROWER THAN 'FOR EVERY INPUT', by the rows' own cells (each row's printed sentence says how): EventFormed: laid · EventFields: laid · EventFlags: laid.
  DERIVED. THE GIVEN ROWS OF THIS SEAT. 3 by the template 'for every input the law returns true; each argument reads behind the call as it read before'; 0 by the template 'total and deterministic' (their statements: YtbncaiocmklgnaaGreatDoorTotals.lean).
  GIVEN WITH THE SEED: the statements are not yours to turn. If you find one false, say at which input.
  Laid BY PROGRAM, IN A SANDBOX (cutbox-rows.mjs): the forced cells as the released guide's own fill.sh prints them over the translation 7cc1b374acbd796a… (all of the seat's roots in one cut). By AI agents, Wed Nov 11 2026. No macro, syntax, notation, axiom, sorry.
-/
import Derived.Test.YtbncaiocmklgnaaGreatDoorChecked
import GoSem.PinnedTables
import GoSem.Claim
import GoSem.ClaimJoined
import GoSem.ClaimMapViews
import Derived.JoinedTies
import Derived.KernelRfl
namespace Go.Proofs.YtbncaiocmklgnaaGreatDoor
/- THE CELL 'sum', in the pinned program and in every row, IS THE sha256 OF THE DUMP (.gsa) THAT YtbncaiocmklgnaaGreatDoorProg.lean LOADS. Nothing in Lean hashes anything: it is a label: what it is worth is what the hold of that sum in a sandbox is worth. -/
noncomputable def Tryz.pinned : Pinned := { name := "ytbncaiocmklgnaagreatdoor", sum := "7cc1b374acbd796a118d4ffb86e7f7e40d3b650227ad9a5393d315921e2befe8", checked := Tryz.checked }
namespace Rows
def none {H : Type} : Left H := { results := [], args := [] }

/- WHAT THE LISTED PACKAGE-LEVEL VARIABLES READ AS WHEN THE CALL BEGINS. Each datum BY PROGRAM (the guide's laid-datum.mjs) off the statement by which the dump's own 'gosem.cut.vars' lays the variable. In a bare row this is a premise. The card (YtbncaiocmklgnaaGreatDoorCards.lean) ties it to the program's text. -/
def laid_unicode_utf8_acceptRanges {H : Type} : DataW H := .agg [.agg [.lit (.int .u8 128), .lit (.int .u8 191)], .agg [.lit (.int .u8 160), .lit (.int .u8 191)], .agg [.lit (.int .u8 128), .lit (.int .u8 159)], .agg [.lit (.int .u8 144), .lit (.int .u8 191)], .agg [.lit (.int .u8 128), .lit (.int .u8 143)], .agg [.lit (.int .u8 0), .lit (.int .u8 0)], .agg [.lit (.int .u8 0), .lit (.int .u8 0)], .agg [.lit (.int .u8 0), .lit (.int .u8 0)], .agg [.lit (.int .u8 0), .lit (.int .u8 0)], .agg [.lit (.int .u8 0), .lit (.int .u8 0)], .agg [.lit (.int .u8 0), .lit (.int .u8 0)], .agg [.lit (.int .u8 0), .lit (.int .u8 0)], .agg [.lit (.int .u8 0), .lit (.int .u8 0)], .agg [.lit (.int .u8 0), .lit (.int .u8 0)], .agg [.lit (.int .u8 0), .lit (.int .u8 0)], .agg [.lit (.int .u8 0), .lit (.int .u8 0)]]
def laid_postbag_moment_monthLengths {H : Type} : DataW H := .agg [.lit (.int .i64 31), .lit (.int .i64 28), .lit (.int .i64 31), .lit (.int .i64 30), .lit (.int .i64 31), .lit (.int .i64 30), .lit (.int .i64 31), .lit (.int .i64 31), .lit (.int .i64 30), .lit (.int .i64 31), .lit (.int .i64 30), .lit (.int .i64 31)]
def laid_postbag_event_systemFlags {H : Type} : DataW H := .agg [.agg [.lit (.string [92, 65, 110, 115, 119, 101, 114, 101, 100]), .lit (.int .i64 1)], .agg [.lit (.string [92, 68, 101, 108, 101, 116, 101, 100]), .lit (.int .i64 2)], .agg [.lit (.string [92, 68, 114, 97, 102, 116]), .lit (.int .i64 4)], .agg [.lit (.string [92, 70, 108, 97, 103, 103, 101, 100]), .lit (.int .i64 8)], .agg [.lit (.string [92, 83, 101, 101, 110]), .lit (.int .i64 16)]]
/-- One of Go's own tables, pinned by name: the form's constant. -/
def laid_unicode_utf8_first : DataW Unit := Go.Pinned.utf8First

/-- 'postbaglaw11.EventFormed': WHATEVER THE INPUT: true; the input reads as it did. -/
def eventFormedSpec : ChangeSpec := { name := "eventFormed", fn := fun _ => fun
  | [d1, d2] => { results := [.lit (.bool true)], args := [d1, d2] }
  | _ => none }
def eventFormedRow : OpenClaim := { program := "ytbncaiocmklgnaagreatdoor", sum := "7cc1b374acbd796a118d4ffb86e7f7e40d3b650227ad9a5393d315921e2befe8", func := "postbag/postbaglaw11.EventFormed", spec := "eventFormed", inPlace := ["internal/bytealg.IndexByteString", "internal/bytealg.IndexString", "internal/bytealg.abigen_runtime_cmpstring"], unfollowed := true, recurses := true, named := ["unicode/utf8.first", "unicode/utf8.acceptRanges", "internal/bytealg.MaxLen", "postbag/event.systemFlags", "postbag/moment.monthLengths"], apart := false, laid := [("unicode/utf8.acceptRanges", laid_unicode_utf8_acceptRanges), ("postbag/moment.monthLengths", laid_postbag_moment_monthLengths), ("postbag/event.systemFlags", laid_postbag_event_systemFlags), ("unicode/utf8.first", laid_unicode_utf8_first)] }
def EventFormedSaid : Prop := eventFormedRow.holds Tryz.pinned (OpenSpec.ofChange eventFormedSpec)

/-- ITS FALSE NEIGHBOUR: 'it returns false'. Refute it at one input. -/
def eventFormedWrong : ChangeSpec := { name := "eventFormed", fn := fun _ => fun
  | [d1, d2] => { results := [.lit (.bool false)], args := [d1, d2] }
  | _ => none }
def EventFormedWrongFalsely : Prop := eventFormedRow.holds Tryz.pinned (OpenSpec.ofChange eventFormedWrong)

/-- 'postbaglaw11.EventFields': WHATEVER THE INPUT: true; the input reads as it did. -/
def eventFieldsSpec : ChangeSpec := { name := "eventFields", fn := fun _ => fun
  | [d1, d2] => { results := [.lit (.bool true)], args := [d1, d2] }
  | _ => none }
def eventFieldsRow : OpenClaim := { program := "ytbncaiocmklgnaagreatdoor", sum := "7cc1b374acbd796a118d4ffb86e7f7e40d3b650227ad9a5393d315921e2befe8", func := "postbag/postbaglaw11.EventFields", spec := "eventFields", inPlace := ["internal/bytealg.IndexByteString", "internal/bytealg.IndexString", "internal/bytealg.abigen_runtime_cmpstring"], unfollowed := true, recurses := true, named := ["unicode/utf8.first", "unicode/utf8.acceptRanges", "internal/bytealg.MaxLen", "postbag/event.systemFlags", "postbag/moment.monthLengths"], apart := false, laid := [("unicode/utf8.acceptRanges", laid_unicode_utf8_acceptRanges), ("postbag/moment.monthLengths", laid_postbag_moment_monthLengths), ("postbag/event.systemFlags", laid_postbag_event_systemFlags), ("unicode/utf8.first", laid_unicode_utf8_first)] }
def EventFieldsSaid : Prop := eventFieldsRow.holds Tryz.pinned (OpenSpec.ofChange eventFieldsSpec)

/-- ITS FALSE NEIGHBOUR: 'it returns false'. Refute it at one input. -/
def eventFieldsWrong : ChangeSpec := { name := "eventFields", fn := fun _ => fun
  | [d1, d2] => { results := [.lit (.bool false)], args := [d1, d2] }
  | _ => none }
def EventFieldsWrongFalsely : Prop := eventFieldsRow.holds Tryz.pinned (OpenSpec.ofChange eventFieldsWrong)

/-- 'postbaglaw11.EventFlags': WHATEVER THE INPUT: true; the input reads as it did. -/
def eventFlagsSpec : ChangeSpec := { name := "eventFlags", fn := fun _ => fun
  | [d1, d2] => { results := [.lit (.bool true)], args := [d1, d2] }
  | _ => none }
def eventFlagsRow : OpenClaim := { program := "ytbncaiocmklgnaagreatdoor", sum := "7cc1b374acbd796a118d4ffb86e7f7e40d3b650227ad9a5393d315921e2befe8", func := "postbag/postbaglaw11.EventFlags", spec := "eventFlags", inPlace := ["internal/bytealg.IndexByteString", "internal/bytealg.abigen_runtime_cmpstring", "internal/bytealg.IndexString"], unfollowed := true, recurses := true, named := ["postbag/event.systemFlags", "unicode/utf8.first", "unicode/utf8.acceptRanges", "internal/bytealg.MaxLen", "postbag/moment.monthLengths"], apart := false, laid := [("unicode/utf8.acceptRanges", laid_unicode_utf8_acceptRanges), ("postbag/moment.monthLengths", laid_postbag_moment_monthLengths), ("postbag/event.systemFlags", laid_postbag_event_systemFlags), ("unicode/utf8.first", laid_unicode_utf8_first)] }
def EventFlagsSaid : Prop := eventFlagsRow.holds Tryz.pinned (OpenSpec.ofChange eventFlagsSpec)

/-- ITS FALSE NEIGHBOUR: 'it returns false'. Refute it at one input. -/
def eventFlagsWrong : ChangeSpec := { name := "eventFlags", fn := fun _ => fun
  | [d1, d2] => { results := [.lit (.bool false)], args := [d1, d2] }
  | _ => none }
def EventFlagsWrongFalsely : Prop := eventFlagsRow.holds Tryz.pinned (OpenSpec.ofChange eventFlagsWrong)

/- THE SECOND FORM. 'bulk': how many values and letters a reading holds, each counted each time it is reached (what is shared counts as often as it is met; a slice's spare places count too). A statement '..UptoSaid' is the law's where the arguments, and the package variables that the reading takes, are together of bulk at most 1048576: NARROWER than '..Said'. Prove '..Said' where nothing that the law and all that it calls make is longer than what came in: it says more and counts as full. Else prove '..UptoSaid'. A law counts once. -/
mutual
def uptoBulk {H : Type} : DataW H → Nat
  | .lit (.string bytes) => bytes.length + 1
  | .lit _ => 1
  | .nil => 1
  | .ptr d => uptoBulk d + 1
  | .slice elems spare => uptoBulkAll elems + uptoBulkAll spare + 1
  | .agg parts => uptoBulkAll parts + 1
  | .iface _ d => uptoBulk d + 1
  | .map entries => uptoBulkEntries entries + 1
  | .held _ => 1
def uptoBulkAll {H : Type} : List (DataW H) → Nat
  | [] => 0
  | d :: r => uptoBulk d + uptoBulkAll r
def uptoBulkEntries {H : Type} : List (Lit × DataW H) → Nat
  | [] => 0
  | x :: r => uptoBulkEntry x + uptoBulkEntries r
def uptoBulkEntry {H : Type} : Lit × DataW H → Nat
  | (.string bytes, d) => bytes.length + uptoBulk d + 1
  | (_, d) => uptoBulk d + 1
 end
def uptoSmall : (H : Type) → List (DataW H) → Bool := fun _ ds => decide (uptoBulkAll ds ≤ 1048576)
def OpenSpec.upto (s : _root_.Go.ChangeSpec) : _root_.Go.OpenSpec := { _root_.Go.OpenSpec.ofChange s with cond := some uptoSmall }

/-- 'postbaglaw11.EventFormed', WHERE WHAT IT READS IS OF BULK AT MOST 1048576: true; the input reads as it did. -/
def eventFormedUptoRow : OpenClaim := { program := "ytbncaiocmklgnaagreatdoor", sum := "7cc1b374acbd796a118d4ffb86e7f7e40d3b650227ad9a5393d315921e2befe8", func := "postbag/postbaglaw11.EventFormed", spec := "eventFormed", inPlace := ["internal/bytealg.IndexByteString", "internal/bytealg.IndexString", "internal/bytealg.abigen_runtime_cmpstring"], unfollowed := true, recurses := true, named := ["unicode/utf8.first", "unicode/utf8.acceptRanges", "internal/bytealg.MaxLen", "postbag/event.systemFlags", "postbag/moment.monthLengths"], apart := false, laid := [("unicode/utf8.acceptRanges", laid_unicode_utf8_acceptRanges), ("postbag/moment.monthLengths", laid_postbag_moment_monthLengths), ("postbag/event.systemFlags", laid_postbag_event_systemFlags), ("unicode/utf8.first", laid_unicode_utf8_first)], narrowed := true }
def EventFormedUptoSaid : Prop := eventFormedUptoRow.holds Tryz.pinned (OpenSpec.upto eventFormedSpec)

/-- 'postbaglaw11.EventFields', WHERE WHAT IT READS IS OF BULK AT MOST 1048576: true; the input reads as it did. -/
def eventFieldsUptoRow : OpenClaim := { program := "ytbncaiocmklgnaagreatdoor", sum := "7cc1b374acbd796a118d4ffb86e7f7e40d3b650227ad9a5393d315921e2befe8", func := "postbag/postbaglaw11.EventFields", spec := "eventFields", inPlace := ["internal/bytealg.IndexByteString", "internal/bytealg.IndexString", "internal/bytealg.abigen_runtime_cmpstring"], unfollowed := true, recurses := true, named := ["unicode/utf8.first", "unicode/utf8.acceptRanges", "internal/bytealg.MaxLen", "postbag/event.systemFlags", "postbag/moment.monthLengths"], apart := false, laid := [("unicode/utf8.acceptRanges", laid_unicode_utf8_acceptRanges), ("postbag/moment.monthLengths", laid_postbag_moment_monthLengths), ("postbag/event.systemFlags", laid_postbag_event_systemFlags), ("unicode/utf8.first", laid_unicode_utf8_first)], narrowed := true }
def EventFieldsUptoSaid : Prop := eventFieldsUptoRow.holds Tryz.pinned (OpenSpec.upto eventFieldsSpec)

/-- 'postbaglaw11.EventFlags', WHERE WHAT IT READS IS OF BULK AT MOST 1048576: true; the input reads as it did. -/
def eventFlagsUptoRow : OpenClaim := { program := "ytbncaiocmklgnaagreatdoor", sum := "7cc1b374acbd796a118d4ffb86e7f7e40d3b650227ad9a5393d315921e2befe8", func := "postbag/postbaglaw11.EventFlags", spec := "eventFlags", inPlace := ["internal/bytealg.IndexByteString", "internal/bytealg.abigen_runtime_cmpstring", "internal/bytealg.IndexString"], unfollowed := true, recurses := true, named := ["postbag/event.systemFlags", "unicode/utf8.first", "unicode/utf8.acceptRanges", "internal/bytealg.MaxLen", "postbag/moment.monthLengths"], apart := false, laid := [("unicode/utf8.acceptRanges", laid_unicode_utf8_acceptRanges), ("postbag/moment.monthLengths", laid_postbag_moment_monthLengths), ("postbag/event.systemFlags", laid_postbag_event_systemFlags), ("unicode/utf8.first", laid_unicode_utf8_first)], narrowed := true }
def EventFlagsUptoSaid : Prop := eventFlagsUptoRow.holds Tryz.pinned (OpenSpec.upto eventFlagsSpec)

end Rows
end Go.Proofs.YtbncaiocmklgnaaGreatDoor

/-
  NARROWER THAN 'FOR EVERY INPUT', by the rows' own cells (each row's printed sentence says how): OctetBack: laid · OctetPads: laid · OctetWires: laid · OctetLevels: laid · OctetThrough: laid · OctetCases: laid.
  DERIVED. THE GIVEN ROWS OF THIS SEAT. 6 by the template 'for every input the law returns true; each argument reads behind the call as it read before'; 0 by the template 'total and deterministic' (their statements: YtclegocofiigiaaDoorTotals.lean).
  GIVEN WITH THE SEED: the statements are not yours to turn. If you find one false, say at which input.
  Laid BY PROGRAM, IN A SANDBOX (cutbox-rows.mjs): the forced cells as the released guide's own fill.sh prints them over the translation 86226042e28ee883… (all of the seat's roots in one cut). By AI agents, Wed Nov 11 2026. No macro, syntax, notation, axiom, sorry.
-/
import Derived.Test.YtclegocofiigiaaDoorChecked
import GoSem.PinnedTables
import GoSem.Claim
import GoSem.ClaimJoined
import GoSem.ClaimMapViews
import Derived.JoinedTies
import Derived.KernelRfl
namespace Go.Proofs.YtclegocofiigiaaDoor
/- THE CELL 'sum', in the pinned program and in every row, IS THE sha256 OF THE DUMP (.gsa) THAT YtclegocofiigiaaDoorProg.lean LOADS. Nothing in Lean hashes anything: it is a label: what it is worth is what the hold of that sum in a sandbox is worth. -/
noncomputable def Tryd.pinned : Pinned := { name := "ytclegocofiigiaadoor", sum := "86226042e28ee883ccf622e3a99a7e9abd0649ad7f682fd41b41e80a519da5b7", checked := Tryd.checked }
namespace Rows
def none {H : Type} : Left H := { results := [], args := [] }

/- WHAT THE LISTED PACKAGE-LEVEL VARIABLES READ AS WHEN THE CALL BEGINS. Each datum BY PROGRAM (the guide's laid-datum.mjs) off the statement by which the dump's own 'gosem.cut.vars' lays the variable. In a bare row this is a premise. The card (YtclegocofiigiaaDoorCards.lean) ties it to the program's text. -/
def laid_unicode_utf8_acceptRanges {H : Type} : DataW H := .agg [.agg [.lit (.int .u8 128), .lit (.int .u8 191)], .agg [.lit (.int .u8 160), .lit (.int .u8 191)], .agg [.lit (.int .u8 128), .lit (.int .u8 159)], .agg [.lit (.int .u8 144), .lit (.int .u8 191)], .agg [.lit (.int .u8 128), .lit (.int .u8 143)], .agg [.lit (.int .u8 0), .lit (.int .u8 0)], .agg [.lit (.int .u8 0), .lit (.int .u8 0)], .agg [.lit (.int .u8 0), .lit (.int .u8 0)], .agg [.lit (.int .u8 0), .lit (.int .u8 0)], .agg [.lit (.int .u8 0), .lit (.int .u8 0)], .agg [.lit (.int .u8 0), .lit (.int .u8 0)], .agg [.lit (.int .u8 0), .lit (.int .u8 0)], .agg [.lit (.int .u8 0), .lit (.int .u8 0)], .agg [.lit (.int .u8 0), .lit (.int .u8 0)], .agg [.lit (.int .u8 0), .lit (.int .u8 0)], .agg [.lit (.int .u8 0), .lit (.int .u8 0)]]
/-- One of Go's own tables, pinned by name: the form's constant. -/
def laid_unicode_utf8_first : DataW Unit := Go.Pinned.utf8First

/-- 'postbaglaw1.OctetBack': WHATEVER THE INPUT: true; the input reads as it did. -/
def octetBackSpec : ChangeSpec := { name := "octetBack", fn := fun _ => fun
  | [d1, d2, d3] => { results := [.lit (.bool true)], args := [d1, d2, d3] }
  | _ => none }
def octetBackRow : OpenClaim := { program := "ytclegocofiigiaadoor", sum := "86226042e28ee883ccf622e3a99a7e9abd0649ad7f682fd41b41e80a519da5b7", func := "postbag/postbaglaw1.OctetBack", spec := "octetBack", inPlace := ["internal/bytealg.IndexByteString", "internal/bytealg.IndexString"], named := ["internal/bytealg.MaxLen", "unicode/utf8.first", "unicode/utf8.acceptRanges"], apart := false, laid := [("unicode/utf8.acceptRanges", laid_unicode_utf8_acceptRanges), ("unicode/utf8.first", laid_unicode_utf8_first)] }
def OctetBackSaid : Prop := octetBackRow.holds Tryd.pinned (OpenSpec.ofChange octetBackSpec)

/-- ITS FALSE NEIGHBOUR: 'it returns false'. Refute it at one input. -/
def octetBackWrong : ChangeSpec := { name := "octetBack", fn := fun _ => fun
  | [d1, d2, d3] => { results := [.lit (.bool false)], args := [d1, d2, d3] }
  | _ => none }
def OctetBackWrongFalsely : Prop := octetBackRow.holds Tryd.pinned (OpenSpec.ofChange octetBackWrong)

/-- 'postbaglaw1.OctetPads': WHATEVER THE INPUT: true; the input reads as it did. -/
def octetPadsSpec : ChangeSpec := { name := "octetPads", fn := fun _ => fun
  | [d1, d2] => { results := [.lit (.bool true)], args := [d1, d2] }
  | _ => none }
def octetPadsRow : OpenClaim := { program := "ytclegocofiigiaadoor", sum := "86226042e28ee883ccf622e3a99a7e9abd0649ad7f682fd41b41e80a519da5b7", func := "postbag/postbaglaw1.OctetPads", spec := "octetPads", inPlace := ["internal/bytealg.IndexByteString", "internal/bytealg.IndexString"], named := ["internal/bytealg.MaxLen", "unicode/utf8.first", "unicode/utf8.acceptRanges"], apart := false, laid := [("unicode/utf8.acceptRanges", laid_unicode_utf8_acceptRanges), ("unicode/utf8.first", laid_unicode_utf8_first)] }
def OctetPadsSaid : Prop := octetPadsRow.holds Tryd.pinned (OpenSpec.ofChange octetPadsSpec)

/-- ITS FALSE NEIGHBOUR: 'it returns false'. Refute it at one input. -/
def octetPadsWrong : ChangeSpec := { name := "octetPads", fn := fun _ => fun
  | [d1, d2] => { results := [.lit (.bool false)], args := [d1, d2] }
  | _ => none }
def OctetPadsWrongFalsely : Prop := octetPadsRow.holds Tryd.pinned (OpenSpec.ofChange octetPadsWrong)

/-- 'postbaglaw1.OctetWires': WHATEVER THE INPUT: true; the input reads as it did. -/
def octetWiresSpec : ChangeSpec := { name := "octetWires", fn := fun _ => fun
  | [d1, d2] => { results := [.lit (.bool true)], args := [d1, d2] }
  | _ => none }
def octetWiresRow : OpenClaim := { program := "ytclegocofiigiaadoor", sum := "86226042e28ee883ccf622e3a99a7e9abd0649ad7f682fd41b41e80a519da5b7", func := "postbag/postbaglaw1.OctetWires", spec := "octetWires", inPlace := ["internal/bytealg.IndexByteString", "internal/bytealg.IndexString"], named := ["unicode/utf8.first", "unicode/utf8.acceptRanges", "internal/bytealg.MaxLen"], apart := false, laid := [("unicode/utf8.acceptRanges", laid_unicode_utf8_acceptRanges), ("unicode/utf8.first", laid_unicode_utf8_first)] }
def OctetWiresSaid : Prop := octetWiresRow.holds Tryd.pinned (OpenSpec.ofChange octetWiresSpec)

/-- ITS FALSE NEIGHBOUR: 'it returns false'. Refute it at one input. -/
def octetWiresWrong : ChangeSpec := { name := "octetWires", fn := fun _ => fun
  | [d1, d2] => { results := [.lit (.bool false)], args := [d1, d2] }
  | _ => none }
def OctetWiresWrongFalsely : Prop := octetWiresRow.holds Tryd.pinned (OpenSpec.ofChange octetWiresWrong)

/-- 'postbaglaw1.OctetLevels': WHATEVER THE INPUT: true; the input reads as it did. -/
def octetLevelsSpec : ChangeSpec := { name := "octetLevels", fn := fun _ => fun
  | [d1, d2, d3] => { results := [.lit (.bool true)], args := [d1, d2, d3] }
  | _ => none }
def octetLevelsRow : OpenClaim := { program := "ytclegocofiigiaadoor", sum := "86226042e28ee883ccf622e3a99a7e9abd0649ad7f682fd41b41e80a519da5b7", func := "postbag/postbaglaw1.OctetLevels", spec := "octetLevels", inPlace := ["internal/bytealg.IndexByteString", "internal/bytealg.IndexString"], named := ["unicode/utf8.first", "unicode/utf8.acceptRanges", "internal/bytealg.MaxLen"], apart := false, laid := [("unicode/utf8.acceptRanges", laid_unicode_utf8_acceptRanges), ("unicode/utf8.first", laid_unicode_utf8_first)] }
def OctetLevelsSaid : Prop := octetLevelsRow.holds Tryd.pinned (OpenSpec.ofChange octetLevelsSpec)

/-- ITS FALSE NEIGHBOUR: 'it returns false'. Refute it at one input. -/
def octetLevelsWrong : ChangeSpec := { name := "octetLevels", fn := fun _ => fun
  | [d1, d2, d3] => { results := [.lit (.bool false)], args := [d1, d2, d3] }
  | _ => none }
def OctetLevelsWrongFalsely : Prop := octetLevelsRow.holds Tryd.pinned (OpenSpec.ofChange octetLevelsWrong)

/-- 'postbaglaw1.OctetThrough': WHATEVER THE INPUT: true; the input reads as it did. -/
def octetThroughSpec : ChangeSpec := { name := "octetThrough", fn := fun _ => fun
  | [d] => { results := [.lit (.bool true)], args := [d] }
  | _ => none }
def octetThroughRow : OpenClaim := { program := "ytclegocofiigiaadoor", sum := "86226042e28ee883ccf622e3a99a7e9abd0649ad7f682fd41b41e80a519da5b7", func := "postbag/postbaglaw1.OctetThrough", spec := "octetThrough", inPlace := ["internal/bytealg.IndexByteString", "internal/bytealg.IndexString"], unfollowed := true, recurses := true, named := ["internal/bytealg.MaxLen", "unicode/utf8.first", "unicode/utf8.acceptRanges"], apart := false, laid := [("unicode/utf8.acceptRanges", laid_unicode_utf8_acceptRanges), ("unicode/utf8.first", laid_unicode_utf8_first)] }
def OctetThroughSaid : Prop := octetThroughRow.holds Tryd.pinned (OpenSpec.ofChange octetThroughSpec)

/-- ITS FALSE NEIGHBOUR: 'it returns false'. Refute it at one input. -/
def octetThroughWrong : ChangeSpec := { name := "octetThrough", fn := fun _ => fun
  | [d] => { results := [.lit (.bool false)], args := [d] }
  | _ => none }
def OctetThroughWrongFalsely : Prop := octetThroughRow.holds Tryd.pinned (OpenSpec.ofChange octetThroughWrong)

/-- 'postbaglaw1.OctetCases': WHATEVER THE INPUT: true; the input reads as it did. -/
def octetCasesSpec : ChangeSpec := { name := "octetCases", fn := fun _ => fun
  | [d] => { results := [.lit (.bool true)], args := [d] }
  | _ => none }
def octetCasesRow : OpenClaim := { program := "ytclegocofiigiaadoor", sum := "86226042e28ee883ccf622e3a99a7e9abd0649ad7f682fd41b41e80a519da5b7", func := "postbag/postbaglaw1.OctetCases", spec := "octetCases", inPlace := ["internal/bytealg.IndexByteString", "internal/bytealg.IndexString"], named := ["internal/bytealg.MaxLen", "unicode/utf8.first", "unicode/utf8.acceptRanges"], apart := false, laid := [("unicode/utf8.acceptRanges", laid_unicode_utf8_acceptRanges), ("unicode/utf8.first", laid_unicode_utf8_first)] }
def OctetCasesSaid : Prop := octetCasesRow.holds Tryd.pinned (OpenSpec.ofChange octetCasesSpec)

/-- ITS FALSE NEIGHBOUR: 'it returns false'. Refute it at one input. -/
def octetCasesWrong : ChangeSpec := { name := "octetCases", fn := fun _ => fun
  | [d] => { results := [.lit (.bool false)], args := [d] }
  | _ => none }
def OctetCasesWrongFalsely : Prop := octetCasesRow.holds Tryd.pinned (OpenSpec.ofChange octetCasesWrong)

/- THE SECOND FORM. 'bulk': how many values and letters a reading holds, each counted each time it is reached (what is shared counts as often as it is met; a slice's spare places count too). A statement '..UptoSaid' is the law's where the arguments, and the package variables that the reading takes, are together of bulk at most 1048576: NARROWER than '..Said'. Prove '..Said' where nothing that the law and all that it calls make is longer than what came in: it says more and counts as full. Else prove '..UptoSaid'. A law counts once. -/
mutual
def uptoBulk {H : Type} : DataW H → Nat
  | .lit (.string bytes) => bytes.length + 1
  | .lit _ => 1
  | .nil => 1
  | .ptr d => uptoBulk d + 1
  | .slice elems spare => uptoBulkAll elems + uptoBulkAll spare + 1
  | .agg parts => uptoBulkAll parts + 1
  | .iface _ d => uptoBulk d + 1
  | .map entries => uptoBulkEntries entries + 1
  | .held _ => 1
def uptoBulkAll {H : Type} : List (DataW H) → Nat
  | [] => 0
  | d :: r => uptoBulk d + uptoBulkAll r
def uptoBulkEntries {H : Type} : List (Lit × DataW H) → Nat
  | [] => 0
  | x :: r => uptoBulkEntry x + uptoBulkEntries r
def uptoBulkEntry {H : Type} : Lit × DataW H → Nat
  | (.string bytes, d) => bytes.length + uptoBulk d + 1
  | (_, d) => uptoBulk d + 1
 end
def uptoSmall : (H : Type) → List (DataW H) → Bool := fun _ ds => decide (uptoBulkAll ds ≤ 1048576)
def OpenSpec.upto (s : _root_.Go.ChangeSpec) : _root_.Go.OpenSpec := { _root_.Go.OpenSpec.ofChange s with cond := some uptoSmall }

/-- 'postbaglaw1.OctetBack', WHERE WHAT IT READS IS OF BULK AT MOST 1048576: true; the input reads as it did. -/
def octetBackUptoRow : OpenClaim := { program := "ytclegocofiigiaadoor", sum := "86226042e28ee883ccf622e3a99a7e9abd0649ad7f682fd41b41e80a519da5b7", func := "postbag/postbaglaw1.OctetBack", spec := "octetBack", inPlace := ["internal/bytealg.IndexByteString", "internal/bytealg.IndexString"], named := ["internal/bytealg.MaxLen", "unicode/utf8.first", "unicode/utf8.acceptRanges"], apart := false, laid := [("unicode/utf8.acceptRanges", laid_unicode_utf8_acceptRanges), ("unicode/utf8.first", laid_unicode_utf8_first)], narrowed := true }
def OctetBackUptoSaid : Prop := octetBackUptoRow.holds Tryd.pinned (OpenSpec.upto octetBackSpec)

/-- 'postbaglaw1.OctetPads', WHERE WHAT IT READS IS OF BULK AT MOST 1048576: true; the input reads as it did. -/
def octetPadsUptoRow : OpenClaim := { program := "ytclegocofiigiaadoor", sum := "86226042e28ee883ccf622e3a99a7e9abd0649ad7f682fd41b41e80a519da5b7", func := "postbag/postbaglaw1.OctetPads", spec := "octetPads", inPlace := ["internal/bytealg.IndexByteString", "internal/bytealg.IndexString"], named := ["internal/bytealg.MaxLen", "unicode/utf8.first", "unicode/utf8.acceptRanges"], apart := false, laid := [("unicode/utf8.acceptRanges", laid_unicode_utf8_acceptRanges), ("unicode/utf8.first", laid_unicode_utf8_first)], narrowed := true }
def OctetPadsUptoSaid : Prop := octetPadsUptoRow.holds Tryd.pinned (OpenSpec.upto octetPadsSpec)

/-- 'postbaglaw1.OctetWires', WHERE WHAT IT READS IS OF BULK AT MOST 1048576: true; the input reads as it did. -/
def octetWiresUptoRow : OpenClaim := { program := "ytclegocofiigiaadoor", sum := "86226042e28ee883ccf622e3a99a7e9abd0649ad7f682fd41b41e80a519da5b7", func := "postbag/postbaglaw1.OctetWires", spec := "octetWires", inPlace := ["internal/bytealg.IndexByteString", "internal/bytealg.IndexString"], named := ["unicode/utf8.first", "unicode/utf8.acceptRanges", "internal/bytealg.MaxLen"], apart := false, laid := [("unicode/utf8.acceptRanges", laid_unicode_utf8_acceptRanges), ("unicode/utf8.first", laid_unicode_utf8_first)], narrowed := true }
def OctetWiresUptoSaid : Prop := octetWiresUptoRow.holds Tryd.pinned (OpenSpec.upto octetWiresSpec)

/-- 'postbaglaw1.OctetLevels', WHERE WHAT IT READS IS OF BULK AT MOST 1048576: true; the input reads as it did. -/
def octetLevelsUptoRow : OpenClaim := { program := "ytclegocofiigiaadoor", sum := "86226042e28ee883ccf622e3a99a7e9abd0649ad7f682fd41b41e80a519da5b7", func := "postbag/postbaglaw1.OctetLevels", spec := "octetLevels", inPlace := ["internal/bytealg.IndexByteString", "internal/bytealg.IndexString"], named := ["unicode/utf8.first", "unicode/utf8.acceptRanges", "internal/bytealg.MaxLen"], apart := false, laid := [("unicode/utf8.acceptRanges", laid_unicode_utf8_acceptRanges), ("unicode/utf8.first", laid_unicode_utf8_first)], narrowed := true }
def OctetLevelsUptoSaid : Prop := octetLevelsUptoRow.holds Tryd.pinned (OpenSpec.upto octetLevelsSpec)

/-- 'postbaglaw1.OctetThrough', WHERE WHAT IT READS IS OF BULK AT MOST 1048576: true; the input reads as it did. -/
def octetThroughUptoRow : OpenClaim := { program := "ytclegocofiigiaadoor", sum := "86226042e28ee883ccf622e3a99a7e9abd0649ad7f682fd41b41e80a519da5b7", func := "postbag/postbaglaw1.OctetThrough", spec := "octetThrough", inPlace := ["internal/bytealg.IndexByteString", "internal/bytealg.IndexString"], unfollowed := true, recurses := true, named := ["internal/bytealg.MaxLen", "unicode/utf8.first", "unicode/utf8.acceptRanges"], apart := false, laid := [("unicode/utf8.acceptRanges", laid_unicode_utf8_acceptRanges), ("unicode/utf8.first", laid_unicode_utf8_first)], narrowed := true }
def OctetThroughUptoSaid : Prop := octetThroughUptoRow.holds Tryd.pinned (OpenSpec.upto octetThroughSpec)

/-- 'postbaglaw1.OctetCases', WHERE WHAT IT READS IS OF BULK AT MOST 1048576: true; the input reads as it did. -/
def octetCasesUptoRow : OpenClaim := { program := "ytclegocofiigiaadoor", sum := "86226042e28ee883ccf622e3a99a7e9abd0649ad7f682fd41b41e80a519da5b7", func := "postbag/postbaglaw1.OctetCases", spec := "octetCases", inPlace := ["internal/bytealg.IndexByteString", "internal/bytealg.IndexString"], named := ["internal/bytealg.MaxLen", "unicode/utf8.first", "unicode/utf8.acceptRanges"], apart := false, laid := [("unicode/utf8.acceptRanges", laid_unicode_utf8_acceptRanges), ("unicode/utf8.first", laid_unicode_utf8_first)], narrowed := true }
def OctetCasesUptoSaid : Prop := octetCasesUptoRow.holds Tryd.pinned (OpenSpec.upto octetCasesSpec)

end Rows
end Go.Proofs.YtclegocofiigiaaDoor

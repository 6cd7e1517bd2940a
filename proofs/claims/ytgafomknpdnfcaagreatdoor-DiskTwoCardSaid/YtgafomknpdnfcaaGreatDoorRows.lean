/-
  NARROWER THAN 'FOR EVERY INPUT', by the rows' own cells (each row's printed sentence says how): DiskPlays: laid · DiskTwo: laid.
  DERIVED. THE GIVEN ROWS OF THIS SEAT. 2 by the template 'for every input the law returns true; each argument reads behind the call as it read before'; 0 by the template 'total and deterministic' (their statements: YtgafomknpdnfcaaGreatDoorTotals.lean).
  GIVEN WITH THE SEED: the statements are not yours to turn. If you find one false, say at which input.
  Laid BY PROGRAM, IN A SANDBOX (cutbox-rows.mjs): the forced cells as the released guide's own fill.sh prints them over the translation 4255e26f8f4dce42… (all of the seat's roots in one cut). By AI agents, Wed Nov 11 2026. No macro, syntax, notation, axiom, sorry.
-/
import Derived.Test.YtgafomknpdnfcaaGreatDoorChecked
import GoSem.Claim
import GoSem.ClaimJoined
import GoSem.ClaimMapViews
import Derived.JoinedTies
import Derived.KernelRfl
namespace Go.Proofs.YtgafomknpdnfcaaGreatDoor
/- THE CELL 'sum', in the pinned program and in every row, IS THE sha256 OF THE DUMP (.gsa) THAT YtgafomknpdnfcaaGreatDoorProg.lean LOADS. Nothing in Lean hashes anything: it is a label: what it is worth is what the hold of that sum in a sandbox is worth. -/
noncomputable def Tryz.pinned : Pinned := { name := "ytgafomknpdnfcaagreatdoor", sum := "4255e26f8f4dce42f17e5576297188dea9bb1e7c49dfc5ba44e4d7e73d2c0d1e", checked := Tryz.checked }
namespace Rows
def none {H : Type} : Left H := { results := [], args := [] }

/- WHAT THE LISTED PACKAGE-LEVEL VARIABLES READ AS WHEN THE CALL BEGINS. Each datum BY PROGRAM (the guide's laid-datum.mjs) off the statement by which the dump's own 'gosem.cut.vars' lays the variable. In a bare row this is a premise. The card (YtgafomknpdnfcaaGreatDoorCards.lean) ties it to the program's text. -/
def laid_errors_errorType {H : Type} : DataW H := .iface "internal/reflectlite.rtype" (.agg [.ptr (.lit (.string [101, 114, 114, 111, 114]))])
def laid_postbag_api_WhyName {H : Type} : DataW H := .iface "*errors.errorString" (.ptr (.agg [.lit (.string [110, 111, 32, 115, 117, 99, 104, 32, 110, 97, 109, 101])]))
def laid_postbag_api_WhyMissing {H : Type} : DataW H := .iface "*errors.errorString" (.ptr (.agg [.lit (.string [110, 111, 32, 115, 117, 99, 104, 32, 102, 105, 108, 101])]))
def laid_postbag_api_WhyQuota {H : Type} : DataW H := .iface "*errors.errorString" (.ptr (.agg [.lit (.string [116, 104, 101, 32, 100, 105, 115, 107, 32, 105, 115, 32, 102, 117, 108, 108])]))
def laid_postbag_api_WhyDown {H : Type} : DataW H := .iface "*errors.errorString" (.ptr (.agg [.lit (.string [116, 104, 101, 32, 109, 97, 99, 104, 105, 110, 101, 32, 104, 97, 115, 32, 115, 116, 111, 112, 112, 101, 100])]))
def laid_postbag_api_WhyRefused {H : Type} : DataW H := .iface "*errors.errorString" (.ptr (.agg [.lit (.string [114, 101, 102, 117, 115, 101, 100])]))

/-- 'postbaglaw9.DiskPlays': WHATEVER THE INPUT: true; the input reads as it did. -/
def diskPlaysSpec : ChangeSpec := { name := "diskPlays", fn := fun _ => fun
  | [d1, d2] => { results := [.lit (.bool true)], args := [d1, d2] }
  | _ => none }
def diskPlaysRow : OpenClaim := { program := "ytgafomknpdnfcaagreatdoor", sum := "4255e26f8f4dce42f17e5576297188dea9bb1e7c49dfc5ba44e4d7e73d2c0d1e", func := "postbag/postbaglaw9.DiskPlays", spec := "diskPlays", inPlace := ["internal/reflectlite.TypeOf", "internal/reflectlite.ValueOf", "(internal/reflectlite.Value).Type", "(internal/reflectlite.Value).IsNil", "(internal/reflectlite.Value).Elem", "(internal/reflectlite.Value).Set"], unfollowed := true, recurses := true, named := ["postbag/api.WhyName", "postbag/api.WhyMissing", "postbag/api.WhyQuota", "postbag/api.WhyDown", "postbag/api.WhyRefused", "errors.errorType"], apart := false, laid := [("errors.errorType", laid_errors_errorType), ("postbag/api.WhyName", laid_postbag_api_WhyName), ("postbag/api.WhyMissing", laid_postbag_api_WhyMissing), ("postbag/api.WhyQuota", laid_postbag_api_WhyQuota), ("postbag/api.WhyDown", laid_postbag_api_WhyDown), ("postbag/api.WhyRefused", laid_postbag_api_WhyRefused)] }
def DiskPlaysSaid : Prop := diskPlaysRow.holds Tryz.pinned (OpenSpec.ofChange diskPlaysSpec)

/-- ITS FALSE NEIGHBOUR: 'it returns false'. Refute it at one input. -/
def diskPlaysWrong : ChangeSpec := { name := "diskPlays", fn := fun _ => fun
  | [d1, d2] => { results := [.lit (.bool false)], args := [d1, d2] }
  | _ => none }
def DiskPlaysWrongFalsely : Prop := diskPlaysRow.holds Tryz.pinned (OpenSpec.ofChange diskPlaysWrong)

/-- 'postbaglaw9.DiskTwo': WHATEVER THE INPUT: true; the input reads as it did. -/
def diskTwoSpec : ChangeSpec := { name := "diskTwo", fn := fun _ => fun
  | [d1, d2, d3] => { results := [.lit (.bool true)], args := [d1, d2, d3] }
  | _ => none }
def diskTwoRow : OpenClaim := { program := "ytgafomknpdnfcaagreatdoor", sum := "4255e26f8f4dce42f17e5576297188dea9bb1e7c49dfc5ba44e4d7e73d2c0d1e", func := "postbag/postbaglaw9.DiskTwo", spec := "diskTwo", inPlace := ["internal/reflectlite.TypeOf", "internal/reflectlite.ValueOf", "(internal/reflectlite.Value).Type", "(internal/reflectlite.Value).IsNil", "(internal/reflectlite.Value).Elem", "(internal/reflectlite.Value).Set"], unfollowed := true, recurses := true, named := ["postbag/api.WhyName", "postbag/api.WhyMissing", "postbag/api.WhyQuota", "postbag/api.WhyDown", "postbag/api.WhyRefused", "errors.errorType"], apart := false, laid := [("errors.errorType", laid_errors_errorType), ("postbag/api.WhyName", laid_postbag_api_WhyName), ("postbag/api.WhyMissing", laid_postbag_api_WhyMissing), ("postbag/api.WhyQuota", laid_postbag_api_WhyQuota), ("postbag/api.WhyDown", laid_postbag_api_WhyDown), ("postbag/api.WhyRefused", laid_postbag_api_WhyRefused)] }
def DiskTwoSaid : Prop := diskTwoRow.holds Tryz.pinned (OpenSpec.ofChange diskTwoSpec)

/-- ITS FALSE NEIGHBOUR: 'it returns false'. Refute it at one input. -/
def diskTwoWrong : ChangeSpec := { name := "diskTwo", fn := fun _ => fun
  | [d1, d2, d3] => { results := [.lit (.bool false)], args := [d1, d2, d3] }
  | _ => none }
def DiskTwoWrongFalsely : Prop := diskTwoRow.holds Tryz.pinned (OpenSpec.ofChange diskTwoWrong)

/- THE SECOND FORM. 'bulk': how many values and letters a reading holds, each counted each time it is reached (what is shared counts as often as it is met; a slice's spare places count too). A statement '..UptoSaid' is the law's where the arguments, and the package variables that the reading takes, are together of bulk at most 1048576: NARROWER than '..Said'. Prove '..Said' where nothing that the law and all that it calls make is longer than what came in: it says more and counts as full. Else prove '..UptoSaid'. A law counts once. -/
mutual
def uptoBulk {H : Type} : DataW H → Nat
  | .lit (.string bytes) => bytes.length + 1
  | .lit _ => 1
  | .nil => 1
  | .ptr d => uptoBulk d + 1
  | .slice elems spare => uptoBulkAll elems + uptoBulkAll spare + 1
  | .agg parts => uptoBulkAll parts + 1
  | .iface _ d => uptoBulk d + 1
  | .map entries => uptoBulkEntries entries + 1
  | .held _ => 1
def uptoBulkAll {H : Type} : List (DataW H) → Nat
  | [] => 0
  | d :: r => uptoBulk d + uptoBulkAll r
def uptoBulkEntries {H : Type} : List (Lit × DataW H) → Nat
  | [] => 0
  | x :: r => uptoBulkEntry x + uptoBulkEntries r
def uptoBulkEntry {H : Type} : Lit × DataW H → Nat
  | (.string bytes, d) => bytes.length + uptoBulk d + 1
  | (_, d) => uptoBulk d + 1
 end
def uptoSmall : (H : Type) → List (DataW H) → Bool := fun _ ds => decide (uptoBulkAll ds ≤ 1048576)
def OpenSpec.upto (s : _root_.Go.ChangeSpec) : _root_.Go.OpenSpec := { _root_.Go.OpenSpec.ofChange s with cond := some uptoSmall }

/-- 'postbaglaw9.DiskPlays', WHERE WHAT IT READS IS OF BULK AT MOST 1048576: true; the input reads as it did. -/
def diskPlaysUptoRow : OpenClaim := { program := "ytgafomknpdnfcaagreatdoor", sum := "4255e26f8f4dce42f17e5576297188dea9bb1e7c49dfc5ba44e4d7e73d2c0d1e", func := "postbag/postbaglaw9.DiskPlays", spec := "diskPlays", inPlace := ["internal/reflectlite.TypeOf", "internal/reflectlite.ValueOf", "(internal/reflectlite.Value).Type", "(internal/reflectlite.Value).IsNil", "(internal/reflectlite.Value).Elem", "(internal/reflectlite.Value).Set"], unfollowed := true, recurses := true, named := ["postbag/api.WhyName", "postbag/api.WhyMissing", "postbag/api.WhyQuota", "postbag/api.WhyDown", "postbag/api.WhyRefused", "errors.errorType"], apart := false, laid := [("errors.errorType", laid_errors_errorType), ("postbag/api.WhyName", laid_postbag_api_WhyName), ("postbag/api.WhyMissing", laid_postbag_api_WhyMissing), ("postbag/api.WhyQuota", laid_postbag_api_WhyQuota), ("postbag/api.WhyDown", laid_postbag_api_WhyDown), ("postbag/api.WhyRefused", laid_postbag_api_WhyRefused)], narrowed := true }
def DiskPlaysUptoSaid : Prop := diskPlaysUptoRow.holds Tryz.pinned (OpenSpec.upto diskPlaysSpec)

/-- 'postbaglaw9.DiskTwo', WHERE WHAT IT READS IS OF BULK AT MOST 1048576: true; the input reads as it did. -/
def diskTwoUptoRow : OpenClaim := { program := "ytgafomknpdnfcaagreatdoor", sum := "4255e26f8f4dce42f17e5576297188dea9bb1e7c49dfc5ba44e4d7e73d2c0d1e", func := "postbag/postbaglaw9.DiskTwo", spec := "diskTwo", inPlace := ["internal/reflectlite.TypeOf", "internal/reflectlite.ValueOf", "(internal/reflectlite.Value).Type", "(internal/reflectlite.Value).IsNil", "(internal/reflectlite.Value).Elem", "(internal/reflectlite.Value).Set"], unfollowed := true, recurses := true, named := ["postbag/api.WhyName", "postbag/api.WhyMissing", "postbag/api.WhyQuota", "postbag/api.WhyDown", "postbag/api.WhyRefused", "errors.errorType"], apart := false, laid := [("errors.errorType", laid_errors_errorType), ("postbag/api.WhyName", laid_postbag_api_WhyName), ("postbag/api.WhyMissing", laid_postbag_api_WhyMissing), ("postbag/api.WhyQuota", laid_postbag_api_WhyQuota), ("postbag/api.WhyDown", laid_postbag_api_WhyDown), ("postbag/api.WhyRefused", laid_postbag_api_WhyRefused)], narrowed := true }
def DiskTwoUptoSaid : Prop := diskTwoUptoRow.holds Tryz.pinned (OpenSpec.upto diskTwoSpec)

end Rows
end Go.Proofs.YtgafomknpdnfcaaGreatDoor

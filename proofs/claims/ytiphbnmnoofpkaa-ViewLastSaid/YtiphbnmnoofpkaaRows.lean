/-
  No cell of these rows narrows 'for every input' (looked for: loops, veiled, ifaces, maps, wideKeys, modest, calm, conditions, laid).
  DERIVED. THE GIVEN ROWS OF THIS SEAT. 5 by the template 'for every input the law returns true; each argument reads behind the call as it read before'; 0 by the template 'total and deterministic' (their statements: YtiphbnmnoofpkaaTotals.lean).
  GIVEN WITH THE SEED: the statements are not yours to turn. If you find one false, say at which input.
  Laid BY PROGRAM, IN A SANDBOX (cutbox-rows.mjs): the forced cells as the released guide's own fill.sh prints them over the translation 870e3778241cd1b4… (all of the seat's roots in one cut). By AI agents, Wed Nov 11 2026. No macro, syntax, notation, axiom, sorry.
-/
import Derived.Test.YtiphbnmnoofpkaaChecked
import GoSem.Claim
import GoSem.ClaimJoined
import GoSem.ClaimMapViews
import Derived.JoinedTies
import Derived.KernelRfl
namespace Go.Proofs.Ytiphbnmnoofpkaa
/- THE CELL 'sum', in the pinned program and in every row, IS THE sha256 OF THE DUMP (.gsa) THAT YtiphbnmnoofpkaaProg.lean LOADS. Nothing in Lean hashes anything: it is a label: what it is worth is what the hold of that sum in a sandbox is worth. -/
noncomputable def Try.pinned : Pinned := { name := "ytiphbnmnoofpkaa", sum := "870e3778241cd1b4ef54b91fd3ebf5cfadd83ed47a903d2346d9cfc4625011fb", checked := Try.checked }
namespace Rows
def none {H : Type} : Left H := { results := [], args := [] }

/-- 'postbaglaw16.ViewList': WHATEVER THE INPUT: true; the input reads as it did. -/
def viewListSpec : ChangeSpec := { name := "viewList", fn := fun _ => fun
  | [d1, d2, d3, d4] => { results := [.lit (.bool true)], args := [d1, d2, d3, d4] }
  | _ => none }
def viewListRow : OpenClaim := { program := "ytiphbnmnoofpkaa", sum := "870e3778241cd1b4ef54b91fd3ebf5cfadd83ed47a903d2346d9cfc4625011fb", func := "postbag/postbaglaw16.ViewList", spec := "viewList", unfollowed := true, recurses := true, apart := false }
def ViewListSaid : Prop := viewListRow.holds Try.pinned (OpenSpec.ofChange viewListSpec)

/-- ITS FALSE NEIGHBOUR: 'it returns false'. Refute it at one input. -/
def viewListWrong : ChangeSpec := { name := "viewList", fn := fun _ => fun
  | [d1, d2, d3, d4] => { results := [.lit (.bool false)], args := [d1, d2, d3, d4] }
  | _ => none }
def ViewListWrongFalsely : Prop := viewListRow.holds Try.pinned (OpenSpec.ofChange viewListWrong)

/-- 'postbaglaw16.ViewNumbers': WHATEVER THE INPUT: true; the input reads as it did. -/
def viewNumbersSpec : ChangeSpec := { name := "viewNumbers", fn := fun _ => fun
  | [d1, d2, d3, d4] => { results := [.lit (.bool true)], args := [d1, d2, d3, d4] }
  | _ => none }
def viewNumbersRow : OpenClaim := { program := "ytiphbnmnoofpkaa", sum := "870e3778241cd1b4ef54b91fd3ebf5cfadd83ed47a903d2346d9cfc4625011fb", func := "postbag/postbaglaw16.ViewNumbers", spec := "viewNumbers", unfollowed := true, recurses := true, apart := false }
def ViewNumbersSaid : Prop := viewNumbersRow.holds Try.pinned (OpenSpec.ofChange viewNumbersSpec)

/-- ITS FALSE NEIGHBOUR: 'it returns false'. Refute it at one input. -/
def viewNumbersWrong : ChangeSpec := { name := "viewNumbers", fn := fun _ => fun
  | [d1, d2, d3, d4] => { results := [.lit (.bool false)], args := [d1, d2, d3, d4] }
  | _ => none }
def ViewNumbersWrongFalsely : Prop := viewNumbersRow.holds Try.pinned (OpenSpec.ofChange viewNumbersWrong)

/-- 'postbaglaw16.ViewSettles': WHATEVER THE INPUT: true; the input reads as it did. -/
def viewSettlesSpec : ChangeSpec := { name := "viewSettles", fn := fun _ => fun
  | [d1, d2, d3, d4] => { results := [.lit (.bool true)], args := [d1, d2, d3, d4] }
  | _ => none }
def viewSettlesRow : OpenClaim := { program := "ytiphbnmnoofpkaa", sum := "870e3778241cd1b4ef54b91fd3ebf5cfadd83ed47a903d2346d9cfc4625011fb", func := "postbag/postbaglaw16.ViewSettles", spec := "viewSettles", unfollowed := true, recurses := true, apart := false }
def ViewSettlesSaid : Prop := viewSettlesRow.holds Try.pinned (OpenSpec.ofChange viewSettlesSpec)

/-- ITS FALSE NEIGHBOUR: 'it returns false'. Refute it at one input. -/
def viewSettlesWrong : ChangeSpec := { name := "viewSettles", fn := fun _ => fun
  | [d1, d2, d3, d4] => { results := [.lit (.bool false)], args := [d1, d2, d3, d4] }
  | _ => none }
def ViewSettlesWrongFalsely : Prop := viewSettlesRow.holds Try.pinned (OpenSpec.ofChange viewSettlesWrong)

/-- 'postbaglaw16.ViewLast': WHATEVER THE INPUT: true; the input reads as it did. -/
def viewLastSpec : ChangeSpec := { name := "viewLast", fn := fun _ => fun
  | [d1, d2, d3, d4, d5, d6, d7] => { results := [.lit (.bool true)], args := [d1, d2, d3, d4, d5, d6, d7] }
  | _ => none }
def viewLastRow : OpenClaim := { program := "ytiphbnmnoofpkaa", sum := "870e3778241cd1b4ef54b91fd3ebf5cfadd83ed47a903d2346d9cfc4625011fb", func := "postbag/postbaglaw16.ViewLast", spec := "viewLast", unfollowed := true, recurses := true, apart := false }
def ViewLastSaid : Prop := viewLastRow.holds Try.pinned (OpenSpec.ofChange viewLastSpec)

/-- ITS FALSE NEIGHBOUR: 'it returns false'. Refute it at one input. -/
def viewLastWrong : ChangeSpec := { name := "viewLast", fn := fun _ => fun
  | [d1, d2, d3, d4, d5, d6, d7] => { results := [.lit (.bool false)], args := [d1, d2, d3, d4, d5, d6, d7] }
  | _ => none }
def ViewLastWrongFalsely : Prop := viewLastRow.holds Try.pinned (OpenSpec.ofChange viewLastWrong)

/-- 'postbaglaw16.ViewStar': WHATEVER THE INPUT: true; the input reads as it did. -/
def viewStarSpec : ChangeSpec := { name := "viewStar", fn := fun _ => fun
  | [d1, d2, d3, d4, d5] => { results := [.lit (.bool true)], args := [d1, d2, d3, d4, d5] }
  | _ => none }
def viewStarRow : OpenClaim := { program := "ytiphbnmnoofpkaa", sum := "870e3778241cd1b4ef54b91fd3ebf5cfadd83ed47a903d2346d9cfc4625011fb", func := "postbag/postbaglaw16.ViewStar", spec := "viewStar", unfollowed := true, recurses := true, apart := false }
def ViewStarSaid : Prop := viewStarRow.holds Try.pinned (OpenSpec.ofChange viewStarSpec)

/-- ITS FALSE NEIGHBOUR: 'it returns false'. Refute it at one input. -/
def viewStarWrong : ChangeSpec := { name := "viewStar", fn := fun _ => fun
  | [d1, d2, d3, d4, d5] => { results := [.lit (.bool false)], args := [d1, d2, d3, d4, d5] }
  | _ => none }
def ViewStarWrongFalsely : Prop := viewStarRow.holds Try.pinned (OpenSpec.ofChange viewStarWrong)

/- THE SECOND FORM. 'bulk': how many values and letters a reading holds, each counted each time it is reached (what is shared counts as often as it is met; a slice's spare places count too). A statement '..UptoSaid' is the law's where the arguments, and the package variables that the reading takes, are together of bulk at most 1048576: NARROWER than '..Said'. Prove '..Said' where nothing that the law and all that it calls make is longer than what came in: it says more and counts as full. Else prove '..UptoSaid'. A law counts once. -/
mutual
def uptoBulk {H : Type} : DataW H → Nat
  | .lit (.string bytes) => bytes.length + 1
  | .lit _ => 1
  | .nil => 1
  | .ptr d => uptoBulk d + 1
  | .slice elems spare => uptoBulkAll elems + uptoBulkAll spare + 1
  | .agg parts => uptoBulkAll parts + 1
  | .iface _ d => uptoBulk d + 1
  | .map entries => uptoBulkEntries entries + 1
  | .held _ => 1
def uptoBulkAll {H : Type} : List (DataW H) → Nat
  | [] => 0
  | d :: r => uptoBulk d + uptoBulkAll r
def uptoBulkEntries {H : Type} : List (Lit × DataW H) → Nat
  | [] => 0
  | x :: r => uptoBulkEntry x + uptoBulkEntries r
def uptoBulkEntry {H : Type} : Lit × DataW H → Nat
  | (.string bytes, d) => bytes.length + uptoBulk d + 1
  | (_, d) => uptoBulk d + 1
 end
def uptoSmall : (H : Type) → List (DataW H) → Bool := fun _ ds => decide (uptoBulkAll ds ≤ 1048576)
def OpenSpec.upto (s : _root_.Go.ChangeSpec) : _root_.Go.OpenSpec := { _root_.Go.OpenSpec.ofChange s with cond := some uptoSmall }

/-- 'postbaglaw16.ViewList', WHERE WHAT IT READS IS OF BULK AT MOST 1048576: true; the input reads as it did. -/
def viewListUptoRow : OpenClaim := { program := "ytiphbnmnoofpkaa", sum := "870e3778241cd1b4ef54b91fd3ebf5cfadd83ed47a903d2346d9cfc4625011fb", func := "postbag/postbaglaw16.ViewList", spec := "viewList", unfollowed := true, recurses := true, apart := false, narrowed := true }
def ViewListUptoSaid : Prop := viewListUptoRow.holds Try.pinned (OpenSpec.upto viewListSpec)

/-- 'postbaglaw16.ViewNumbers', WHERE WHAT IT READS IS OF BULK AT MOST 1048576: true; the input reads as it did. -/
def viewNumbersUptoRow : OpenClaim := { program := "ytiphbnmnoofpkaa", sum := "870e3778241cd1b4ef54b91fd3ebf5cfadd83ed47a903d2346d9cfc4625011fb", func := "postbag/postbaglaw16.ViewNumbers", spec := "viewNumbers", unfollowed := true, recurses := true, apart := false, narrowed := true }
def ViewNumbersUptoSaid : Prop := viewNumbersUptoRow.holds Try.pinned (OpenSpec.upto viewNumbersSpec)

/-- 'postbaglaw16.ViewSettles', WHERE WHAT IT READS IS OF BULK AT MOST 1048576: true; the input reads as it did. -/
def viewSettlesUptoRow : OpenClaim := { program := "ytiphbnmnoofpkaa", sum := "870e3778241cd1b4ef54b91fd3ebf5cfadd83ed47a903d2346d9cfc4625011fb", func := "postbag/postbaglaw16.ViewSettles", spec := "viewSettles", unfollowed := true, recurses := true, apart := false, narrowed := true }
def ViewSettlesUptoSaid : Prop := viewSettlesUptoRow.holds Try.pinned (OpenSpec.upto viewSettlesSpec)

/-- 'postbaglaw16.ViewLast', WHERE WHAT IT READS IS OF BULK AT MOST 1048576: true; the input reads as it did. -/
def viewLastUptoRow : OpenClaim := { program := "ytiphbnmnoofpkaa", sum := "870e3778241cd1b4ef54b91fd3ebf5cfadd83ed47a903d2346d9cfc4625011fb", func := "postbag/postbaglaw16.ViewLast", spec := "viewLast", unfollowed := true, recurses := true, apart := false, narrowed := true }
def ViewLastUptoSaid : Prop := viewLastUptoRow.holds Try.pinned (OpenSpec.upto viewLastSpec)

/-- 'postbaglaw16.ViewStar', WHERE WHAT IT READS IS OF BULK AT MOST 1048576: true; the input reads as it did. -/
def viewStarUptoRow : OpenClaim := { program := "ytiphbnmnoofpkaa", sum := "870e3778241cd1b4ef54b91fd3ebf5cfadd83ed47a903d2346d9cfc4625011fb", func := "postbag/postbaglaw16.ViewStar", spec := "viewStar", unfollowed := true, recurses := true, apart := false, narrowed := true }
def ViewStarUptoSaid : Prop := viewStarUptoRow.holds Try.pinned (OpenSpec.upto viewStarSpec)

end Rows
end Go.Proofs.Ytiphbnmnoofpkaa

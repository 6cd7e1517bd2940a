/-
  No cell of these rows narrows 'for every input' (looked for: loops, veiled, ifaces, maps, wideKeys, modest, calm, conditions, laid).
  DERIVED. THE GIVEN ROWS OF THIS SEAT. 6 by the template 'for every input the law returns true; each argument reads behind the call as it read before'; 0 by the template 'total and deterministic' (their statements: YtmedpcldfpfpnaaGreatTotals.lean).
  GIVEN WITH THE SEED: the statements are not yours to turn. If you find one false, say at which input.
  Laid BY PROGRAM, IN A SANDBOX (cutbox-rows.mjs): the forced cells as the released guide's own fill.sh prints them over the translation 12df51c526100747… (all of the seat's roots in one cut). By AI agents, Wed Nov 11 2026. No macro, syntax, notation, axiom, sorry.
-/
import Derived.Test.YtmedpcldfpfpnaaGreatChecked
import GoSem.Claim
import GoSem.ClaimJoined
import GoSem.ClaimMapViews
import Derived.JoinedTies
import Derived.KernelRfl
namespace Go.Proofs.YtmedpcldfpfpnaaGreat
/- THE CELL 'sum', in the pinned program and in every row, IS THE sha256 OF THE DUMP (.gsa) THAT YtmedpcldfpfpnaaGreatProg.lean LOADS. Nothing in Lean hashes anything: it is a label: what it is worth is what the hold of that sum in a sandbox is worth. -/
noncomputable def Tryz.pinned : Pinned := { name := "ytmedpcldfpfpnaagreat", sum := "12df51c5261007474e62ebf408da821091e0cd884836b1332897626129affe80", checked := Tryz.checked }
namespace Rows
def none {H : Type} : Left H := { results := [], args := [] }

/-- 'postbaglaw16.ViewTwo': WHATEVER THE INPUT: true; the input reads as it did. -/
def viewTwoSpec : ChangeSpec := { name := "viewTwo", fn := fun _ => fun
  | [d1, d2, d3, d4, d5] => { results := [.lit (.bool true)], args := [d1, d2, d3, d4, d5] }
  | _ => none }
def viewTwoRow : OpenClaim := { program := "ytmedpcldfpfpnaagreat", sum := "12df51c5261007474e62ebf408da821091e0cd884836b1332897626129affe80", func := "postbag/postbaglaw16.ViewTwo", spec := "viewTwo", unfollowed := true, recurses := true, apart := false }
def ViewTwoSaid : Prop := viewTwoRow.holds Tryz.pinned (OpenSpec.ofChange viewTwoSpec)

/-- ITS FALSE NEIGHBOUR: 'it returns false'. Refute it at one input. -/
def viewTwoWrong : ChangeSpec := { name := "viewTwo", fn := fun _ => fun
  | [d1, d2, d3, d4, d5] => { results := [.lit (.bool false)], args := [d1, d2, d3, d4, d5] }
  | _ => none }
def ViewTwoWrongFalsely : Prop := viewTwoRow.holds Tryz.pinned (OpenSpec.ofChange viewTwoWrong)

/-- 'postbaglaw16.ViewHears': WHATEVER THE INPUT: true; the input reads as it did. -/
def viewHearsSpec : ChangeSpec := { name := "viewHears", fn := fun _ => fun
  | [d1, d2, d3, d4] => { results := [.lit (.bool true)], args := [d1, d2, d3, d4] }
  | _ => none }
def viewHearsRow : OpenClaim := { program := "ytmedpcldfpfpnaagreat", sum := "12df51c5261007474e62ebf408da821091e0cd884836b1332897626129affe80", func := "postbag/postbaglaw16.ViewHears", spec := "viewHears", unfollowed := true, recurses := true, apart := false }
def ViewHearsSaid : Prop := viewHearsRow.holds Tryz.pinned (OpenSpec.ofChange viewHearsSpec)

/-- ITS FALSE NEIGHBOUR: 'it returns false'. Refute it at one input. -/
def viewHearsWrong : ChangeSpec := { name := "viewHears", fn := fun _ => fun
  | [d1, d2, d3, d4] => { results := [.lit (.bool false)], args := [d1, d2, d3, d4] }
  | _ => none }
def ViewHearsWrongFalsely : Prop := viewHearsRow.holds Tryz.pinned (OpenSpec.ofChange viewHearsWrong)

/-- 'postbaglaw16.ViewTakes': WHATEVER THE INPUT: true; the input reads as it did. -/
def viewTakesSpec : ChangeSpec := { name := "viewTakes", fn := fun _ => fun
  | [d1, d2, d3, d4] => { results := [.lit (.bool true)], args := [d1, d2, d3, d4] }
  | _ => none }
def viewTakesRow : OpenClaim := { program := "ytmedpcldfpfpnaagreat", sum := "12df51c5261007474e62ebf408da821091e0cd884836b1332897626129affe80", func := "postbag/postbaglaw16.ViewTakes", spec := "viewTakes", unfollowed := true, recurses := true, apart := false }
def ViewTakesSaid : Prop := viewTakesRow.holds Tryz.pinned (OpenSpec.ofChange viewTakesSpec)

/-- ITS FALSE NEIGHBOUR: 'it returns false'. Refute it at one input. -/
def viewTakesWrong : ChangeSpec := { name := "viewTakes", fn := fun _ => fun
  | [d1, d2, d3, d4] => { results := [.lit (.bool false)], args := [d1, d2, d3, d4] }
  | _ => none }
def ViewTakesWrongFalsely : Prop := viewTakesRow.holds Tryz.pinned (OpenSpec.ofChange viewTakesWrong)

/-- 'postbaglaw16.ViewFinds': WHATEVER THE INPUT: true; the input reads as it did. -/
def viewFindsSpec : ChangeSpec := { name := "viewFinds", fn := fun _ => fun
  | [d1, d2, d3, d4] => { results := [.lit (.bool true)], args := [d1, d2, d3, d4] }
  | _ => none }
def viewFindsRow : OpenClaim := { program := "ytmedpcldfpfpnaagreat", sum := "12df51c5261007474e62ebf408da821091e0cd884836b1332897626129affe80", func := "postbag/postbaglaw16.ViewFinds", spec := "viewFinds", unfollowed := true, recurses := true, apart := false }
def ViewFindsSaid : Prop := viewFindsRow.holds Tryz.pinned (OpenSpec.ofChange viewFindsSpec)

/-- ITS FALSE NEIGHBOUR: 'it returns false'. Refute it at one input. -/
def viewFindsWrong : ChangeSpec := { name := "viewFinds", fn := fun _ => fun
  | [d1, d2, d3, d4] => { results := [.lit (.bool false)], args := [d1, d2, d3, d4] }
  | _ => none }
def ViewFindsWrongFalsely : Prop := viewFindsRow.holds Tryz.pinned (OpenSpec.ofChange viewFindsWrong)

/-- 'postbaglaw16.ViewTells': WHATEVER THE INPUT: true; the input reads as it did. -/
def viewTellsSpec : ChangeSpec := { name := "viewTells", fn := fun _ => fun
  | [d1, d2, d3, d4] => { results := [.lit (.bool true)], args := [d1, d2, d3, d4] }
  | _ => none }
def viewTellsRow : OpenClaim := { program := "ytmedpcldfpfpnaagreat", sum := "12df51c5261007474e62ebf408da821091e0cd884836b1332897626129affe80", func := "postbag/postbaglaw16.ViewTells", spec := "viewTells", unfollowed := true, recurses := true, apart := false }
def ViewTellsSaid : Prop := viewTellsRow.holds Tryz.pinned (OpenSpec.ofChange viewTellsSpec)

/-- ITS FALSE NEIGHBOUR: 'it returns false'. Refute it at one input. -/
def viewTellsWrong : ChangeSpec := { name := "viewTells", fn := fun _ => fun
  | [d1, d2, d3, d4] => { results := [.lit (.bool false)], args := [d1, d2, d3, d4] }
  | _ => none }
def ViewTellsWrongFalsely : Prop := viewTellsRow.holds Tryz.pinned (OpenSpec.ofChange viewTellsWrong)

/-- 'postbaglaw16.ViewGoes': WHATEVER THE INPUT: true; the input reads as it did. -/
def viewGoesSpec : ChangeSpec := { name := "viewGoes", fn := fun _ => fun
  | [d1, d2, d3, d4] => { results := [.lit (.bool true)], args := [d1, d2, d3, d4] }
  | _ => none }
def viewGoesRow : OpenClaim := { program := "ytmedpcldfpfpnaagreat", sum := "12df51c5261007474e62ebf408da821091e0cd884836b1332897626129affe80", func := "postbag/postbaglaw16.ViewGoes", spec := "viewGoes", unfollowed := true, recurses := true, apart := false }
def ViewGoesSaid : Prop := viewGoesRow.holds Tryz.pinned (OpenSpec.ofChange viewGoesSpec)

/-- ITS FALSE NEIGHBOUR: 'it returns false'. Refute it at one input. -/
def viewGoesWrong : ChangeSpec := { name := "viewGoes", fn := fun _ => fun
  | [d1, d2, d3, d4] => { results := [.lit (.bool false)], args := [d1, d2, d3, d4] }
  | _ => none }
def ViewGoesWrongFalsely : Prop := viewGoesRow.holds Tryz.pinned (OpenSpec.ofChange viewGoesWrong)

/- THE SECOND FORM. 'bulk': how many values and letters a reading holds, each counted each time it is reached (what is shared counts as often as it is met; a slice's spare places count too). A statement '..UptoSaid' is the law's where the arguments, and the package variables that the reading takes, are together of bulk at most 1048576: NARROWER than '..Said'. Prove '..Said' where nothing that the law and all that it calls make is longer than what came in: it says more and counts as full. Else prove '..UptoSaid'. A law counts once. -/
mutual
def uptoBulk {H : Type} : DataW H → Nat
  | .lit (.string bytes) => bytes.length + 1
  | .lit _ => 1
  | .nil => 1
  | .ptr d => uptoBulk d + 1
  | .slice elems spare => uptoBulkAll elems + uptoBulkAll spare + 1
  | .agg parts => uptoBulkAll parts + 1
  | .iface _ d => uptoBulk d + 1
  | .map entries => uptoBulkEntries entries + 1
  | .held _ => 1
def uptoBulkAll {H : Type} : List (DataW H) → Nat
  | [] => 0
  | d :: r => uptoBulk d + uptoBulkAll r
def uptoBulkEntries {H : Type} : List (Lit × DataW H) → Nat
  | [] => 0
  | x :: r => uptoBulkEntry x + uptoBulkEntries r
def uptoBulkEntry {H : Type} : Lit × DataW H → Nat
  | (.string bytes, d) => bytes.length + uptoBulk d + 1
  | (_, d) => uptoBulk d + 1
 end
def uptoSmall : (H : Type) → List (DataW H) → Bool := fun _ ds => decide (uptoBulkAll ds ≤ 1048576)
def OpenSpec.upto (s : _root_.Go.ChangeSpec) : _root_.Go.OpenSpec := { _root_.Go.OpenSpec.ofChange s with cond := some uptoSmall }

/-- 'postbaglaw16.ViewTwo', WHERE WHAT IT READS IS OF BULK AT MOST 1048576: true; the input reads as it did. -/
def viewTwoUptoRow : OpenClaim := { program := "ytmedpcldfpfpnaagreat", sum := "12df51c5261007474e62ebf408da821091e0cd884836b1332897626129affe80", func := "postbag/postbaglaw16.ViewTwo", spec := "viewTwo", unfollowed := true, recurses := true, apart := false, narrowed := true }
def ViewTwoUptoSaid : Prop := viewTwoUptoRow.holds Tryz.pinned (OpenSpec.upto viewTwoSpec)

/-- 'postbaglaw16.ViewHears', WHERE WHAT IT READS IS OF BULK AT MOST 1048576: true; the input reads as it did. -/
def viewHearsUptoRow : OpenClaim := { program := "ytmedpcldfpfpnaagreat", sum := "12df51c5261007474e62ebf408da821091e0cd884836b1332897626129affe80", func := "postbag/postbaglaw16.ViewHears", spec := "viewHears", unfollowed := true, recurses := true, apart := false, narrowed := true }
def ViewHearsUptoSaid : Prop := viewHearsUptoRow.holds Tryz.pinned (OpenSpec.upto viewHearsSpec)

/-- 'postbaglaw16.ViewTakes', WHERE WHAT IT READS IS OF BULK AT MOST 1048576: true; the input reads as it did. -/
def viewTakesUptoRow : OpenClaim := { program := "ytmedpcldfpfpnaagreat", sum := "12df51c5261007474e62ebf408da821091e0cd884836b1332897626129affe80", func := "postbag/postbaglaw16.ViewTakes", spec := "viewTakes", unfollowed := true, recurses := true, apart := false, narrowed := true }
def ViewTakesUptoSaid : Prop := viewTakesUptoRow.holds Tryz.pinned (OpenSpec.upto viewTakesSpec)

/-- 'postbaglaw16.ViewFinds', WHERE WHAT IT READS IS OF BULK AT MOST 1048576: true; the input reads as it did. -/
def viewFindsUptoRow : OpenClaim := { program := "ytmedpcldfpfpnaagreat", sum := "12df51c5261007474e62ebf408da821091e0cd884836b1332897626129affe80", func := "postbag/postbaglaw16.ViewFinds", spec := "viewFinds", unfollowed := true, recurses := true, apart := false, narrowed := true }
def ViewFindsUptoSaid : Prop := viewFindsUptoRow.holds Tryz.pinned (OpenSpec.upto viewFindsSpec)

/-- 'postbaglaw16.ViewTells', WHERE WHAT IT READS IS OF BULK AT MOST 1048576: true; the input reads as it did. -/
def viewTellsUptoRow : OpenClaim := { program := "ytmedpcldfpfpnaagreat", sum := "12df51c5261007474e62ebf408da821091e0cd884836b1332897626129affe80", func := "postbag/postbaglaw16.ViewTells", spec := "viewTells", unfollowed := true, recurses := true, apart := false, narrowed := true }
def ViewTellsUptoSaid : Prop := viewTellsUptoRow.holds Tryz.pinned (OpenSpec.upto viewTellsSpec)

/-- 'postbaglaw16.ViewGoes', WHERE WHAT IT READS IS OF BULK AT MOST 1048576: true; the input reads as it did. -/
def viewGoesUptoRow : OpenClaim := { program := "ytmedpcldfpfpnaagreat", sum := "12df51c5261007474e62ebf408da821091e0cd884836b1332897626129affe80", func := "postbag/postbaglaw16.ViewGoes", spec := "viewGoes", unfollowed := true, recurses := true, apart := false, narrowed := true }
def ViewGoesUptoSaid : Prop := viewGoesUptoRow.holds Tryz.pinned (OpenSpec.upto viewGoesSpec)

end Rows
end Go.Proofs.YtmedpcldfpfpnaaGreat

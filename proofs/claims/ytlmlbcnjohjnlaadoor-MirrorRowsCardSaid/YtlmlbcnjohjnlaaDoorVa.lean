/- Plain mathematics of sets of pieces: what they cover, their one form. Nothing of the program. -/
import Derived.WalkKit
namespace Go.Proofs.YtlmlbcnjohjnlaaDoor

abbrev Rg := Int × Int
def endB (x : Int) : Bool := decide (0 ≤ x) && decide (x ≤ 4294967295)
def pieceB (p : Rg) : Bool := endB p.1 && endB p.2
def starI (x g : Int) : Int := if x = 0 then g else x
def setl (p : Rg) (g : Int) : Rg := (min (starI p.1 g) (starI p.2 g), max (starI p.1 g) (starI p.2 g))
def inB (p : Rg) (n : Int) : Bool := decide (p.1 ≤ n) && decide (n ≤ p.2)
def hasB (l : List Rg) (n g : Int) : Bool := decide (1 ≤ g) && l.any (fun p => pieceB p && inB (setl p g) n)

end Go.Proofs.YtlmlbcnjohjnlaaDoor

/- span: Has. -/
import Derived.Test.YtflkhnmggmfhfaaGreatVb
import Derived.Deep.RegionHeld3
import Derived.Deep.RegionWith
import Derived.Deep.LoopGhost
namespace Go.Proofs.YtflkhnmggmfhfaaGreat
open Go.RowKit

def hitB (a b n g : Int) : Bool := pieceB (a, b) && inB (setl (a, b) g) n
theorem side_zero (p : Rg) (n : Int) : (sideI p.1 p.2 n == 0) = inB p n := by
  unfold sideI inB
  by_cases h1 : p.2 < n
  · rw [if_pos h1]; simp; omega
  · rw [if_neg h1]
    by_cases h2 : n < p.1
    · rw [if_pos h2]; simp; omega
    · rw [if_neg h2]; simp; omega
end Go.Proofs.YtflkhnmggmfhfaaGreat

/- span: lists of numbers in memory; Least. -/
import Derived.Test.YtiphbnmnoofpkaaVg
import Derived.Test.YtiphbnmnoofpkaaVx
namespace Go.Proofs.Ytiphbnmnoofpkaa
open Go.RowKit

def okN (n : Int) : Bool := decide (1 ≤ n) && decide (n ≤ 4294967295)
def ones (l : List Int) : List Rg := (l.filter okN).map fun n => (n, n)
theorem ones_append (a b : List Int) : ones (a ++ b) = ones a ++ ones b := by simp [ones]
theorem ones_mem {l : List Int} {p : Rg} (h : p ∈ ones l) : 1 ≤ p.1 ∧ p.1 ≤ 4294967295 ∧ p.1 = p.2 ∧ p.1 ∈ l := by
  unfold ones at h
  obtain ⟨n, hn, rfl⟩ := List.mem_map.1 h
  have := List.mem_filter.1 hn
  simp [okN] at this
  exact ⟨this.2.1, this.2.2, rfl, this.1⟩
theorem ones_length (l : List Int) : (ones l).length ≤ l.length := by
  unfold ones; rw [List.length_map]; exact List.length_filter_le _ _
def leastL (l : List Int) : List Rg := tog (ones l)
end Go.Proofs.Ytiphbnmnoofpkaa

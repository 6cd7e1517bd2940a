/- span: rows of numbers that the call has made; withStar. -/
import Derived.Test.YtiphbnmnoofpkaaVh
namespace Go.Proofs.Ytiphbnmnoofpkaa
open Go.RowKit

def starL (l : List Rg) (a b : Int) : List Rg := tog (if a < b then l ++ [(a, b)] else l) ++ [(a, 0)]
theorem tog_length {l : List Rg} : (tog l).length ≤ l.length := by
  have key : ∀ (l acc : List Rg), (l.foldl (fun acc p => putR acc p) acc).length ≤ acc.length + l.length := by
    intro l
    induction l with
    | nil => intro acc; simp
    | cons p r ih =>
      intro acc
      have h1 := ih (putR acc p)
      have h2 : (putR acc p).length ≤ acc.length + 1 := by
        clear ih h1
        induction acc generalizing p with
        | nil => simp [putR]
        | cons q s ih =>
          unfold putR
          split
          · have := ih p; simp; omega
          · split
            · simp
            · have := ih (min p.1 q.1, max p.2 q.2); simp; omega
      simp only [List.foldl_cons, List.length_cons]
      omega
  have := key l []
  simpa [tog] using this
end Go.Proofs.Ytiphbnmnoofpkaa

/- span: Join. -/
import Derived.Test.YtiphbnmnoofpkaaVj
namespace Go.Proofs.Ytiphbnmnoofpkaa
open Go.RowKit

/-- What Join holds in a round. -/
structure JW (B : Nat) (W0 : World) (st : JS) (v3 v4 : Value) (w : World) : Prop where
  r : OwnR B v3 st.1 W0 w
  n : OwnI B v4 st.2.1 W0 w
theorem JW.on {B : Nat} {W0 w w' : World} {st : JS} {v3 v4 : Value} (h : JW B W0 st v3 v4 w) (hb : Below w.heap.size w w') : JW B W0 st v3 v4 w' := ⟨h.r.on hb, h.n.on hb⟩
theorem JW.alloc {B : Nat} {W0 w : World} {st : JS} {v3 v4 : Value} (h : JW B W0 st v3 v4 w) (o : Obj) : JW B W0 st v3 v4 (w.alloc o) := ⟨h.r.alloc o, h.n.alloc o⟩
theorem own_shapeI {B : Nat} {v : Value} {l : List Int} {W0 w : World} (h : OwnI B v l W0 w) : ∃ ao cap, v = .slice ao l.length cap ∧ (l ≠ [] → ∃ g, ao = some ⟨g, 0, none⟩ ∧ ∀ i, i < l.length → w.cell? ⟨g, 0 + i, none⟩ = some (.int .i64 (l.getD i 0))) := by
  rcases h.row.2 with ⟨rfl, h0⟩ | ⟨g, cap, cur, rfl, hB, hg, rest⟩
  · have : l = [] := List.eq_nil_of_length_eq_zero h0
    subst this
    exact ⟨none, 0, rfl, fun h => absurd rfl h⟩
  · refine ⟨_, _, rfl, fun _ => ⟨g, rfl, fun i hi => ?_⟩⟩
    have c1 := h.row.cells (g := g) rfl i _ (ic_at l i hi)
    rw [Addr.add_lit] at c1
    exact c1

end Go.Proofs.Ytiphbnmnoofpkaa

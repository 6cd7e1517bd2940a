/- What the program's variables hold, where a seat has names but no base64: the search's bound, and the tables of UTF-8. -/
import Derived.Test.YtbncaiocmklgnaaGreatDoorPd
import Derived.Test.YtbncaiocmklgnaaGreatDoorSh
namespace Go.Proofs.YtbncaiocmklgnaaGreatDoor
open Go.RowKit Go.Shelf

theorem Own.shape {B : Nat} {v : Value} {l : List UInt8} {W0 w : World} (h : Own B v l W0 w) : ∃ ad cap, v = .slice ad l.length cap := by
  rcases h.row.2 with ⟨rfl, h0⟩ | ⟨g, cap, cur, rfl, _⟩
  · exact ⟨none, 0, by rw [h0]⟩
  · exact ⟨_, _, rfl⟩
theorem pk_len_le (l t : List UInt8) : (pack l t).length ≤ 2 * l.length + 1 := by
  unfold pack pkSix
  have := six_len l l.length
  rw [List.length_map]
  unfold pkEnd
  split
  · omega
  · rw [List.length_append, List.length_singleton]; omega
theorem cut_le (l sep : List UInt8) : (Lib.cut l sep).1.length ≤ l.length := by
  unfold Lib.cut
  split
  · exact List.length_take_le' _ _
  · exact Nat.le_refl _
structure Env (w : World) : Prop where
  most : ∃ m, w.cell? ⟨1, 0, none⟩ = some (.int .i64 m)
  tabs : Lib.Utf8Tabs (Tryz.lays196_ren.g 3) (Tryz.lays196_ren.g 4) w
  base : 1 < w.heap.size
end Go.Proofs.YtbncaiocmklgnaaGreatDoor

/- frame: the reference's four, Size, Laid, Encode. -/
import Derived.Test.YtkdmicpfinjpgaaF10k
namespace Go.Proofs.Ytkdmicpfinjpgaa
open Go.RowKit

theorem conv_row (w : World) (l : List UInt8) (cs : Array Value) (n : Nat) (hcs : cs = (bc l).toArray) (hn : n = l.length) :
    (convert 56 9 (.slice (some ⟨w.heap.size, 0, none⟩) n n)).run Try.prog (w.alloc (.cells cs 5)) = .ok (.string (S l)) (w.alloc (.cells cs 5)) := by
  subst hcs hn
  refine back_row (P := Try.prog) _ 56 9 5 w.heap.size l.length l.length l rfl Try.underlying56 Try.underlying5 Try.underlying9 ?_
  intro j hj
  rw [cell_of_row _ _ j _ _ _ (heap_alloc_last w _)]
  simp [bc, bt, hj]
theorem conv_at (X : World) (b : Nat) (l : List UInt8) (cs : Array Value) (n : Nat) (hcs : cs = (bc l).toArray) (hn : n = l.length) (h : X.heap[b]? = some (.cells cs 5)) :
    (convert 56 9 (.slice (some ⟨b, 0, none⟩) n n)).run Try.prog X = .ok (.string (S l)) X := by
  subst hcs hn
  refine back_row (P := Try.prog) _ 56 9 5 b l.length l.length l rfl Try.underlying56 Try.underlying5 Try.underlying9 ?_
  intro j hj
  rw [cell_of_row _ _ j _ _ _ h]
  simp [bc, bt, hj]
set_option maxHeartbeats 1000000 in
theorem four_any (n : Nat) (w : World) (hn : n < 4294967296) :
    Calls Try.prog 29 #[.int .i64 (n : Int)] w fun e w' => e = .returned (.string (S (be4 n))) ∧ Below w.heap.size w w' := by
  have hcs : #[Value.int .u8 ((n : Int) / 16777216 % 256), .int .u8 ((n : Int) / 65536 % 256), .int .u8 ((n : Int) / 256 % 256), .int .u8 ((n : Int) % 256)] = (bc (be4 n)).toArray := by
    simp only [bc, be4, List.map_cons, List.map_nil, u8_toNat]
    rfl
  have hcv := conv_row w (be4 n) _ 4 hcs rfl
  go_enter Try.func29, Try.ntmps29
  clear hcs
  go_wp2
  go_ret
  exact ⟨rfl, (Below.refl _ _).alloc (Nat.le_refl _) _⟩
theorem refSize_any (n : Int) (w : World) :
    Calls Try.prog 11 #[.int .i64 n] w fun e w' => e = .returned (.int .i64 (if 0 ≤ n ∧ n ≤ 2097152 then n + 18 else 0)) ∧ w' = w := by
  by_cases h1 : n < 0
  · go_enter Try.func11, Try.ntmps11
    go_wp2
    go_ret
    exact ⟨rfl, rfl⟩
  by_cases h2 : n > 2097152
  · go_enter Try.func11, Try.ntmps11
    go_wp2
    go_ret
    exact ⟨rfl, rfl⟩
  · go_enter Try.func11, Try.ntmps11
    go_wp2
    go_ret
    exact ⟨rfl, rfl⟩
theorem S_append (l : List UInt8) (b : ByteArray) : S l ++ b = S (l ++ L b) := by
  apply ByteArray.ext
  unfold S L
  simp [ByteArray.data_append]
end Go.Proofs.Ytkdmicpfinjpgaa

/- frame: isSummed, decode. -/
import Derived.Test.YtkdmicpfinjpgaaF10f
namespace Go.Proofs.Ytkdmicpfinjpgaa
open Go.RowKit

theorem L_extract (s : ByteArray) (i j : Nat) : L (s.extract i j) = ((L s).take j).drop i := by
  unfold L
  simp [ByteArray.data_extract, List.drop_take]
theorem L_upto (s : ByteArray) (j : Nat) : L (s.extract 0 j) = (L s).take j := by rw [L_extract]; rfl
theorem size_extract' (s : ByteArray) (i j : Nat) (h : j ≤ s.size) : (s.extract i j).size = j - i := by
  rw [ByteArray.size_extract]; omega
theorem int_beq (a b : Nat) : ((a : Int) == (b : Int)) = decide (a = b) := by
  rw [Bool.eq_iff_iff]
  simp
  exact Int.natCast_inj
set_option maxHeartbeats 1000000 in
theorem isSummed_any (s : ByteArray) (T : Nat) (w : World) (h4 : 4 ≤ s.size) (hs : s.size ≤ 140737488355328) (hT : w.heap[T]? = some (.cells (tabC 256) 54)) :
    Calls Try.prog 34 #[.pointer (some ⟨T, 0, none⟩), .string s] w fun e w' => e = .returned (.bool (decide (crc ((L s).take (s.size - 4)) = w4 (L s) (s.size - 4)))) ∧ ∃ n, w' = w.drewN n := by
  have HT := Lib.hid (fun n => show (w.drewN n).heap[T]? = some (.cells (tabC 256) 54) from hT)
  obtain ⟨m, hm⟩ : ∃ m, s.size = m + 4 := ⟨s.size - 4, by omega⟩
  have hm2 : s.size - 4 = m := by omega
  have hsub : (s.size : Int) - 4 = (m : Int) := by omega
  have hle : m ≤ s.size := by omega
  rw [hm2]
  clear hT hm2
  go_enter Try.func34, Try.ntmps34
  go_wp2_with fail
  refine (sum_any (s.extract 0 m) T _ (by rw [size_extract' _ _ _ hle]; omega) (HT.out 0)).mono ?_
  rintro e w1 ⟨rfl, n, rfl⟩
  rw [L_upto]
  go_wp2_with fail
  refine (word_any s m _ (by omega) hs).mono ?_
  rintro e w2 ⟨rfl, n2, rfl⟩
  go_wp2_with fail
  go_ret
  exact ⟨ret_bool (int_beq _ _), n + n2, rfl⟩
/-- A frame as a value. -/
def frV (k n i : Nat) (b : ByteArray) : Value := .agg #[.int .i64 (k : Int), .int .i64 (n : Int), .int .i64 (i : Int), .string b]
theorem isF_size {l : List UInt8} (h : isF l) : 18 ≤ l.length := h.1
theorem lift_world {P : World → Prop} {W : World} (F : World → Prop) (hF : F W) (h : ∀ X, F X → P X) : P W := h W hF
/-- What decode has made when it has read kind and number. -/
structure Dc (w : World) (k n : Int) (b : ByteArray) (X : World) : Prop where
  below : Below w.heap.size w X
  out : X.heap[w.heap.size]? = some (.cells #[.int .i64 0, .int .i64 0, .int .i64 0, .string ⟨#[]⟩] 47)
  fr : X.heap[w.heap.size + 1]? = some (.cells #[.int .i64 k, .int .i64 n, .int .i64 0, .string b] 47)
theorem Dc.late (w : World) (k n : Int) (m : Nat) : Dc w k n ⟨#[]⟩ (((w.alloc (.cells #[.int .i64 0, .int .i64 0, .int .i64 0, .string ⟨#[]⟩] 47)).drewN m).alloc (.cells #[.int .i64 k, .int .i64 n, .int .i64 0, .string ⟨#[]⟩] 47)) := by
  refine ⟨(below_drewN ((Below.refl _ _).alloc (Nat.le_refl _) _) m).alloc (by simp [World.drewN]) _, ?_, ?_⟩
  · show ((w.heap.push _).push _)[w.heap.size]? = _
    simp [Array.getElem?_push]
  · have e : w.heap.size + 1 = ((w.alloc (.cells #[.int .i64 0, .int .i64 0, .int .i64 0, .string ⟨#[]⟩] 47)).drewN m).heap.size := by simp
    rw [e]
    exact heap_alloc_last _ _
theorem Dc.early (w : World) (k n : Int) (m : Nat) : Dc w k n ⟨#[]⟩ (((((((w.alloc (.cells #[.int .i64 0, .int .i64 0, .int .i64 0, .string ⟨#[]⟩] 47)).alloc (.cells #[.int .i64 0, .int .i64 0, .int .i64 0, .string ⟨#[]⟩] 47)).drewN m).setCell ⟨w.heap.size + 1, 0, none⟩ (.int .i64 k)).setCell ⟨w.heap.size + 1, 1, none⟩ (.int .i64 n)).setCell ⟨w.heap.size + 1, 2, none⟩ (.int .i64 0)).setCell ⟨w.heap.size + 1, 3, none⟩ (.string ⟨#[]⟩)) := by
  have e : ((w.alloc (.cells #[.int .i64 0, .int .i64 0, .int .i64 0, .string ⟨#[]⟩] 47)).alloc (.cells #[.int .i64 0, .int .i64 0, .int .i64 0, .string ⟨#[]⟩] 47)).drewN m = ((w.alloc (.cells #[.int .i64 0, .int .i64 0, .int .i64 0, .string ⟨#[]⟩] 47)).drewN m).alloc (.cells #[.int .i64 0, .int .i64 0, .int .i64 0, .string ⟨#[]⟩] 47) := rfl
  have hsz : w.heap.size + 1 = ((w.alloc (.cells #[.int .i64 0, .int .i64 0, .int .i64 0, .string ⟨#[]⟩] 47)).drewN m).heap.size := by simp
  rw [e, World.setCell_alloc_at _ _ _ _ _ hsz, World.setCell_alloc_at _ _ _ _ _ hsz, World.setCell_alloc_at _ _ _ _ _ hsz, World.setCell_alloc_at _ _ _ _ _ hsz]
  exact Dc.late w k n m
theorem Dc.drewN {w : World} {k n : Int} {b : ByteArray} {X : World} (h : Dc w k n b X) (m : Nat) : Dc w k n b (X.drewN m) := ⟨below_drewN h.below m, h.out, h.fr⟩
theorem Dc.cells {w : World} {k n : Int} {b : ByteArray} {X : World} (h : Dc w k n b X) :
    X.cell? ⟨w.heap.size + 1, 0, none⟩ = some (.int .i64 k) ∧ X.cell? ⟨w.heap.size + 1, 1, none⟩ = some (.int .i64 n) ∧ X.cell? ⟨w.heap.size + 1, 2, none⟩ = some (.int .i64 0) ∧ X.cell? ⟨w.heap.size + 1, 3, none⟩ = some (.string b) ∧
    X.frozen? ⟨w.heap.size + 1, 3, none⟩ = false ∧
    X.cell? ⟨w.heap.size, 0, none⟩ = some (.int .i64 0) ∧ X.cell? ⟨w.heap.size, 1, none⟩ = some (.int .i64 0) ∧ X.cell? ⟨w.heap.size, 2, none⟩ = some (.int .i64 0) ∧ X.cell? ⟨w.heap.size, 3, none⟩ = some (.string ⟨#[]⟩) ∧
    X.frozen? ⟨w.heap.size, 0, none⟩ = false ∧ X.frozen? ⟨w.heap.size, 1, none⟩ = false ∧ X.frozen? ⟨w.heap.size, 2, none⟩ = false ∧ X.frozen? ⟨w.heap.size, 3, none⟩ = false := by
  refine ⟨cell_of_row _ _ 0 _ _ _ h.fr, cell_of_row _ _ 1 _ _ _ h.fr, cell_of_row _ _ 2 _ _ _ h.fr, cell_of_row _ _ 3 _ _ _ h.fr, frozen_of_row _ _ 3 _ _ h.fr, cell_of_row _ _ 0 _ _ _ h.out, cell_of_row _ _ 1 _ _ _ h.out, cell_of_row _ _ 2 _ _ _ h.out, cell_of_row _ _ 3 _ _ _ h.out, frozen_of_row _ _ 0 _ _ h.out, frozen_of_row _ _ 1 _ _ h.out, frozen_of_row _ _ 2 _ _ h.out, frozen_of_row _ _ 3 _ _ h.out⟩
end Go.Proofs.Ytkdmicpfinjpgaa

/- moment: Stamp, Order. -/
import Derived.Test.YtckdmbeokajdjaaGreatDoorDc
namespace Go.Proofs.YtckdmbeokajdjaaGreatDoor
open Go.RowKit

/-- The seven cells of a box. -/
structure Cells7 (b : Nat) (y m d h n s z : Int) (X : World) : Prop where
  c0 : X.cell? ⟨b, 0, none⟩ = some (.int .i64 y)
  c1 : X.cell? ⟨b, 1, none⟩ = some (.int .i64 m)
  c2 : X.cell? ⟨b, 2, none⟩ = some (.int .i64 d)
  c3 : X.cell? ⟨b, 3, none⟩ = some (.int .i64 h)
  c4 : X.cell? ⟨b, 4, none⟩ = some (.int .i64 n)
  c5 : X.cell? ⟨b, 5, none⟩ = some (.int .i64 s)
  c6 : X.cell? ⟨b, 6, none⟩ = some (.int .i64 z)
theorem Cells7.on {b : Nat} {y m d h n s z : Int} {X X' : World} (k : Cells7 b y m d h n s z X) (hb : Below X.heap.size X X') : Cells7 b y m d h n s z X' := by
  refine ⟨?_, ?_, ?_, ?_, ?_, ?_, ?_⟩
  · rw [hb.cell (p := ⟨b, 0, none⟩) (block_lt_of_cell k.c0)]; exact k.c0
  · rw [hb.cell (p := ⟨b, 1, none⟩) (block_lt_of_cell k.c1)]; exact k.c1
  · rw [hb.cell (p := ⟨b, 2, none⟩) (block_lt_of_cell k.c2)]; exact k.c2
  · rw [hb.cell (p := ⟨b, 3, none⟩) (block_lt_of_cell k.c3)]; exact k.c3
  · rw [hb.cell (p := ⟨b, 4, none⟩) (block_lt_of_cell k.c4)]; exact k.c4
  · rw [hb.cell (p := ⟨b, 5, none⟩) (block_lt_of_cell k.c5)]; exact k.c5
  · rw [hb.cell (p := ⟨b, 6, none⟩) (block_lt_of_cell k.c6)]; exact k.c6
theorem cells7_new (w : World) (y m d h n s z : Int) (t : TypeId) : Cells7 w.heap.size y m d h n s z (w.alloc (.cells #[.int .i64 y, .int .i64 m, .int .i64 d, .int .i64 h, .int .i64 n, .int .i64 s, .int .i64 z] t)) :=
  ⟨cell_of_row _ _ 0 _ _ _ (heap_alloc_new w _), cell_of_row _ _ 1 _ _ _ (heap_alloc_new w _), cell_of_row _ _ 2 _ _ _ (heap_alloc_new w _), cell_of_row _ _ 3 _ _ _ (heap_alloc_new w _), cell_of_row _ _ 4 _ _ _ (heap_alloc_new w _), cell_of_row _ _ 5 _ _ _ (heap_alloc_new w _), cell_of_row _ _ 6 _ _ _ (heap_alloc_new w _)⟩

/-- What a drawn region over one box keeps. -/
def S1 (w : World) (b : Nat) (y m d h n s z : Int) (X : World) : Prop :=
  X.cell? ⟨b, 0, none⟩ = some (.int .i64 y) ∧ X.cell? ⟨b, 1, none⟩ = some (.int .i64 m) ∧ X.cell? ⟨b, 2, none⟩ = some (.int .i64 d) ∧ X.cell? ⟨b, 3, none⟩ = some (.int .i64 h) ∧ X.cell? ⟨b, 4, none⟩ = some (.int .i64 n) ∧ X.cell? ⟨b, 5, none⟩ = some (.int .i64 s) ∧ X.cell? ⟨b, 6, none⟩ = some (.int .i64 z) ∧ Env X ∧ Below w.heap.size w X
theorem S1.mk' {w : World} {b : Nat} {y m d h n s z : Int} {X : World} (k : Cells7 b y m d h n s z X) (he : Env X) (hb : Below w.heap.size w X) : S1 w b y m d h n s z X := ⟨k.c0, k.c1, k.c2, k.c3, k.c4, k.c5, k.c6, he, hb⟩
theorem S1.on {w : World} {b : Nat} {y m d h n s z : Int} {X X' : World} (k : S1 w b y m d h n s z X) (hb : Below X.heap.size X X') : S1 w b y m d h n s z X' := by
  obtain ⟨a0, a1, a2, a3, a4, a5, a6, he, hw⟩ := k
  exact S1.mk' (Cells7.on ⟨a0, a1, a2, a3, a4, a5, a6⟩ hb) (he.on hb) (hw.trans (hb.mono hw.size))

def S2 (w : World) (b c : Nat) (y m d h n s z y' m' d' h' n' s' z' : Int) (X : World) : Prop :=
  X.cell? ⟨b, 0, none⟩ = some (.int .i64 y) ∧ X.cell? ⟨b, 1, none⟩ = some (.int .i64 m) ∧ X.cell? ⟨b, 2, none⟩ = some (.int .i64 d) ∧ X.cell? ⟨b, 3, none⟩ = some (.int .i64 h) ∧ X.cell? ⟨b, 4, none⟩ = some (.int .i64 n) ∧ X.cell? ⟨b, 5, none⟩ = some (.int .i64 s) ∧ X.cell? ⟨b, 6, none⟩ = some (.int .i64 z) ∧ X.cell? ⟨c, 0, none⟩ = some (.int .i64 y') ∧ X.cell? ⟨c, 1, none⟩ = some (.int .i64 m') ∧ X.cell? ⟨c, 2, none⟩ = some (.int .i64 d') ∧ X.cell? ⟨c, 3, none⟩ = some (.int .i64 h') ∧ X.cell? ⟨c, 4, none⟩ = some (.int .i64 n') ∧ X.cell? ⟨c, 5, none⟩ = some (.int .i64 s') ∧ X.cell? ⟨c, 6, none⟩ = some (.int .i64 z') ∧ Env X ∧ Below w.heap.size w X
theorem S2.mk' {w : World} {b c : Nat} {y m d h n s z y' m' d' h' n' s' z' : Int} {X : World} (k : Cells7 b y m d h n s z X) (k' : Cells7 c y' m' d' h' n' s' z' X) (he : Env X) (hb : Below w.heap.size w X) : S2 w b c y m d h n s z y' m' d' h' n' s' z' X := ⟨k.c0, k.c1, k.c2, k.c3, k.c4, k.c5, k.c6, k'.c0, k'.c1, k'.c2, k'.c3, k'.c4, k'.c5, k'.c6, he, hb⟩
theorem S2.env {w : World} {b c : Nat} {y m d h n s z y' m' d' h' n' s' z' : Int} {X : World} (k : S2 w b c y m d h n s z y' m' d' h' n' s' z' X) : Env X ∧ Below w.heap.size w X := by
  obtain ⟨_, _, _, _, _, _, _, _, _, _, _, _, _, _, he, hw⟩ := k
  exact ⟨he, hw⟩
theorem S2.on {w : World} {b c : Nat} {y m d h n s z y' m' d' h' n' s' z' : Int} {X X' : World} (k : S2 w b c y m d h n s z y' m' d' h' n' s' z' X) (hb : Below X.heap.size X X') : S2 w b c y m d h n s z y' m' d' h' n' s' z' X' := by
  obtain ⟨a0, a1, a2, a3, a4, a5, a6, b0, b1, b2, b3, b4, b5, b6, he, hw⟩ := k
  exact S2.mk' (Cells7.on ⟨a0, a1, a2, a3, a4, a5, a6⟩ hb) (Cells7.on ⟨b0, b1, b2, b3, b4, b5, b6⟩ hb) (he.on hb) (hw.trans (hb.mono hw.size))
end Go.Proofs.YtckdmbeokajdjaaGreatDoor

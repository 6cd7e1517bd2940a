/- disk: Plan. -/
import Derived.Test.YtgadmfbilmlnkabGreatDoorD9y
import Derived.Maps.AppendAt
namespace Go.Proofs.YtgadmfbilmlnkabGreatDoor
open Go.RowKit Go.Lib

/-- Stops that were handed over. -/
def StopsIn (w : World) (g o n : Nat) (l : List (Int × Int × Int)) : Prop := ∀ i, i < n → ∀ s, l[i]? = some s → w.cell? ⟨g, o + 3 * i, none⟩ = some (.int .i64 s.1) ∧ w.cell? ⟨g, o + 3 * i + 1, none⟩ = some (.int .i64 s.2.1) ∧ w.cell? ⟨g, o + 3 * i + 2, none⟩ = some (.int .i64 s.2.2)
def planP (l : List (Int × Int × Int)) : List (Int × Int × Int) := l.filter fun s => decide (1 ≤ s.1)
theorem Tryz.infoStop : (Tryz.prog.info? 61).map (fun i => (i.zero, i.size, i.bytes)) = some (some (.agg #[.int .i64 0, .int .i64 0, .int .i64 0]), 3, 24) := by kernel_rfl
/-- The plan as it grows. -/
structure Planning (B d m clk : Nat) (sv : Value) (S : DS) (F : List FE) (w : World) (v : Value) (acc : List (Int × Int × Int)) (X : World) : Prop where
  row : X.ownsRow w.heap.size 61 3 v acc.length (stopCells acc)
  blk : svBlk v = v.ownBlock
  disk : DiskAt B d m clk v { S with stops := acc } F X
  stays : Stays (fpOf d m sv F) w X
  fp : ∀ b, b ∈ fpOf d m v F → b ∈ fpOf d m sv F ∨ w.heap.size ≤ b
theorem stopsAt_own {w : World} {B : Nat} {v : Value} {l : List (Int × Int × Int)} (h : w.ownsRow B 61 3 v l.length (stopCells l)) : StopsAt w v l := by
  rcases h.2 with ⟨rfl, h0⟩ | ⟨g, cap, cur, rfl, _, hg, hnc, _, _, ht⟩
  · have : l = [] := List.eq_nil_of_length_eq_zero h0
    subst this
    exact ⟨none, 0, rfl, .inl rfl⟩
  · exact ⟨_, cap, rfl, .inr ⟨g, 0, cur, rfl, hnc, hg, by rw [List.drop_zero, Nat.mul_comm]; exact ht⟩⟩
theorem plan_nil {B d m clk : Nat} {sv : Value} {S : DS} {F : List FE} {w : World} (h : DiskAt B d m clk sv S F w) : Planning B d m clk sv S F w (.slice none 0 0) [] (w.setCell ⟨d, 4, none⟩ (.slice none 0 0)) := by
  obtain ⟨hD, hM⟩ := h.restop (sv' := .slice none 0 0) (S' := { S with stops := [] }) (w' := w.setCell ⟨d, 4, none⟩ (.slice none 0 0)) rfl h.steps (by
    have hs := h.self
    unfold selfObj at hs
    rw [heap_setCell_at _ hs]
    rfl) ⟨none, 0, rfl, .inl rfl⟩ (fun b e => by cases e) (by simp [World.setCell]) (fun b _ hb _ => Below.heap_setCell _ _ _ _ hb)
  exact ⟨World.ownsRow_nil _ _ _ _, rfl, hD, Stays.setCell (p := ⟨d, 4, none⟩) (Stays.refl _ _) (.inl mem_fp_self) _, hM⟩
theorem stopCells_snoc (l : List (Int × Int × Int)) (s : Int × Int × Int) : stopCells (l ++ [s]) = stopCells l ++ [.int .i64 s.1, .int .i64 s.2.1, .int .i64 s.2.2] := by simp [stopCells]
/-- One more stop: what its append leaves. -/
theorem plan_put {B d m clk : Nat} {sv : Value} {S : DS} {F : List FE} {w : World} {v : Value} {acc : List (Int × Int × Int)} {X Y : World} (h : Planning B d m clk sv S F w v acc X) (s : Int × Int × Int) (hacc : acc.length ≤ 5864062014634) (hXY : Below X.heap.size X Y) :
    ∃ a n c W3, (Builtin.append_ #[25, 25] 25 #[v, .slice (some ⟨Y.heap.size, 0, none⟩) 1 1]).run Tryz.prog (Y.alloc (.cells #[.int .i64 s.1, .int .i64 s.2.1, .int .i64 s.2.2] 61)) = .ok (.slice a n c) W3 ∧
      W3.cell? ⟨d, 4, none⟩ = some v ∧ W3.frozen? ⟨d, 4, none⟩ = false ∧ (∀ b, b < X.heap.size → v.ownBlock ≠ some b → W3.heap[b]? = X.heap[b]?) ∧ (∀ b, b < Y.heap.size → v.ownBlock ≠ some b → W3.heap[b]? = Y.heap[b]?) ∧ (∀ b, v.ownBlock = some b → b < X.heap.size) ∧
      Planning B d m clk sv S F w (.slice a n c) (acc ++ [s]) (W3.setCell ⟨d, 4, none⟩ (.slice a n c)) := by
  have hD := h.disk
  have hz := hXY.size
  have hsw := h.stays.size
  obtain ⟨i0, hi, hz0, hz1, hz2⟩ := info_parts' Tryz.infoStop
  have hrowY : (Y.alloc (.cells #[.int .i64 s.1, .int .i64 s.2.1, .int .i64 s.2.2] 61)).ownsRow w.heap.size 61 3 v acc.length (stopCells acc) := (ownsRow_same h.row (fun b hb => hXY.block b (h.row.lt b hb).2)).alloc _
  have hnew : (Y.alloc (.cells #[.int .i64 s.1, .int .i64 s.2.1, .int .i64 s.2.2] 61)).heap[Y.heap.size]? = some (.cells #[.int .i64 s.1, .int .i64 s.2.1, .int .i64 s.2.2] 61 (0, 0)) := heap_alloc_new Y _
  obtain ⟨v', W3, hrun, hrow3, hgr, _, hat⟩ := run_append_own_at (P := Tryz.prog) (Y.alloc (.cells #[.int .i64 s.1, .int .i64 s.2.1, .int .i64 s.2.2] 61)) w.heap.size 25 25 61 i0 _ 3 24 Tryz.underlying25 hi hz0 hz1 hz2 rfl (by decide) v acc.length (stopCells acc) hrowY ⟨Y.heap.size, 0, none⟩ 1 1 [.int .i64 s.1, .int .i64 s.2.1, .int .i64 s.2.2] rfl (by
      intro j u hj
      match j, hj with
      | 0, hj => simp at hj; subst hj; exact cell_of hnew 0
      | 1, hj => simp at hj; subst hj; exact cell_of hnew 1
      | 2, hj => simp at hj; subst hj; exact cell_of hnew 2
      | (j + 3), hj => simp at hj) (by
      intro u hu
      simp at hu
      rcases hu with rfl | rfl | rfl <;> rfl) (by unfold maxLen; omega) (by omega) (by simp; omega)
  rw [← stopCells_snoc] at hrow3
  have hrow4 : W3.ownsRow w.heap.size 61 3 v' (acc ++ [s]).length (stopCells (acc ++ [s])) := by rw [List.length_append]; exact hrow3
  obtain ⟨a, c, rfl⟩ := ownsRow_shape hrow3
  have hblk : svBlk (.slice a (acc.length + 1) c) = (Value.slice a (acc.length + 1) c).ownBlock := by cases a <;> rfl
  have hdown : v.ownBlock ≠ some d := fun e => by
    have hap := hD.apart
    rw [← h.blk] at e
    simp only [fpOf, List.nodup_cons, List.mem_cons, List.mem_append, Option.mem_toList] at hap
    exact hap.1 (.inr (.inl e))
  have hold : ∀ b, b < X.heap.size → v.ownBlock ≠ some b → W3.heap[b]? = X.heap[b]? := fun b hb hne => by
    rw [hgr.block b (by simp; omega) (fun e => hne e.symm), Below.heap_alloc _ _ _ (by omega), hXY.block b hb]
  have hdl := lt_of_heap hD.self
  have hd3 : W3.heap[d]? = some (selfObj { S with stops := acc } (usedF F) v m) := by rw [hold d hdl hdown]; exact hD.self
  have hd3' := hd3
  unfold selfObj at hd3'
  have hgs := hgr.size
  have hown : ∀ b, (Value.slice a (acc.length + 1) c).ownBlock = some b → v.ownBlock = some b ∨ X.heap.size ≤ b := by
    intro b e
    rcases hat with hat | hat
    · exact .inl (by rw [← hat]; exact e)
    · rw [hat] at e; simp at e; exact .inr (by omega)
  have hv'd : (Value.slice a (acc.length + 1) c).ownBlock ≠ some d := fun e => by
    rcases hown d e with e' | e'
    · exact hdown e'
    · omega
  have hrow5 : (W3.setCell ⟨d, 4, none⟩ (.slice a (acc.length + 1) c)).ownsRow w.heap.size 61 3 (.slice a (acc.length + 1) c) (acc ++ [s]).length (stopCells (acc ++ [s])) := ownsRow_same hrow4 (fun b e => Below.heap_setCell _ _ _ _ (fun x => hv'd (by rw [e, x])))
  obtain ⟨hD5, hM5⟩ := hD.restop (sv' := .slice a (acc.length + 1) c) (S' := { S with stops := acc ++ [s] }) (w' := W3.setCell ⟨d, 4, none⟩ (.slice a (acc.length + 1) c)) rfl hD.steps (by rw [heap_setCell_at _ hd3']; rfl) (stopsAt_own hrow5) (fun b e => by
      rw [hblk] at e
      rcases hown b e with e' | e'
      · exact .inl (by rw [h.blk]; exact e')
      · exact .inr e') (by simp [World.setCell]; simp at hgs; omega) (fun b hb h1 h2 => by
      rw [Below.heap_setCell _ _ _ _ h1, hold b (hD.lt hb) (by rw [← h.blk]; exact h2)])
  refine ⟨a, _, c, W3, hrun, cell_of hd3' 4, frozen_of hd3' 4, hold, fun b hb hne => by rw [hgr.block b (by simp; omega) (fun e => hne e.symm), Below.heap_alloc _ _ _ hb], fun b e => (h.row.lt b e).2, hrow5, hblk, hD5, ?_, ?_⟩
  · have hS1 : Stays (fpOf d m v F) X (Y.alloc (.cells #[.int .i64 s.1, .int .i64 s.2.1, .int .i64 s.2.2] 61)) := (Stays.ofBelow hXY).alloc _
    have hS2 : Stays (fpOf d m v F) X W3 := hS1.trans (Stays.ofGrown (fp := fpOf d m v F) hgr (fun b e => mem_fp_sv (by rw [h.blk]; exact e))) (fun b hb => .inl hb)
    exact Stays.setCell (p := ⟨d, 4, none⟩) (h.stays.trans hS2 h.fp) (.inl mem_fp_self) _
  · intro b hb
    rcases hM5 b hb with e | e
    · exact h.fp b e
    · exact .inr (by omega)
end Go.Proofs.YtgadmfbilmlnkabGreatDoor

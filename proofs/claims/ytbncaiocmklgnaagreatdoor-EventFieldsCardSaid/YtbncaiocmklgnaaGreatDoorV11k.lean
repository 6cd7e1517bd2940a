/- event: hasJust, held, of events with a name. -/
import Derived.Test.YtbncaiocmklgnaaGreatDoorV11j
namespace Go.Proofs.YtbncaiocmklgnaaGreatDoor
open Go.RowKit Go.Lib

abbrev ev0 : Array Value := #[.int .i64 0, .int .i64 0, .int .i64 0, .int .i64 0, .int .i64 0, .string ⟨#[]⟩, .slice none 0 0, .slice none 0 0, .slice none 0 0, .slice none 0 0, .int .i64 0, .int .i64 0, .int .i64 0, .int .i64 0, .int .i64 0, .int .i64 0, .int .i64 0, .string ⟨#[]⟩]
/-- A new block, then all of it written. -/
theorem below_boxed {w W : World} (h : Below w.heap.size w W) (o : Obj) (cs : Array Value) : Below w.heap.size w ((W.alloc o).setRow W.heap.size cs) := below_setRow (below_box h o) h.size cs
theorem boxed_self (W : World) (old cs : Array Value) (t : TypeId) : ((W.alloc (.cells old t)).setRow W.heap.size cs).heap[W.heap.size]? = some (.cells cs t (0, 0)) := setRow_heap _ _ _ _ _ _ (heap_new _ _)
theorem boxed_old (W : World) (o : Obj) (cs : Array Value) {b : Nat} {x : Obj} (h : W.heap[b]? = some x) : ((W.alloc o).setRow W.heap.size cs).heap[b]? = some x := by
  rw [setRow_other _ _ _ _ (Nat.ne_of_lt (lt_of_heap h)), Below.heap_alloc _ _ _ (lt_of_heap h)]; exact h
set_option maxHeartbeats 4000000 in
set_option maxRecDepth 20000 in
theorem hasJust_name (eb : Nat) (n k : Int) (s : ByteArray) (v0 v1 v2 v3 : Value) (W0 w : World) (h : w.heap[eb]? = some (.cells (evV n k s none 0 0) 35 (0, 0))) (hp : NamePart W0 v0 v1 v2 v3 w) :
    Calls Tryz.prog 47 #[ptr eb, .agg #[v0, v1, v2, v3]] w fun e w' => e = .returned (.bool true) ∧ Below w.heap.size w w' := by
  obtain ⟨p, q, rfl, rfl, rfl, rfl, hp1, hq1, _⟩ := hp
  obtain ⟨W1, hW1⟩ : ∃ W1, w.alloc (.cells #[fnV 87 #[ptr q, ptr p], fnV 88 #[ptr p], fnV 90 #[ptr p], fnV 92 #[ptr p]] 64) = W1 := ⟨_, rfl⟩
  have h1 : W1.heap[w.heap.size]? = some (.cells #[fnV 87 #[ptr q, ptr p], fnV 88 #[ptr p], fnV 90 #[ptr p], fnV 92 #[ptr p]] 64 (0, 0)) := by rw [← hW1]; exact heap_new _ _
  have hb1 : Below w.heap.size w W1 := by rw [← hW1]; exact below_box (Below.refl _ _) _
  have he1 : W1.heap[eb]? = some (.cells (evV n k s none 0 0) 35 (0, 0)) := by rw [hb1.block _ (lt_of_heap h)]; exact h
  have hp1' : W1.heap[p]? = some (.cells #[fnV 70 #[]] 106 (0, 0)) := by rw [hb1.block _ (lt_of_heap hp1)]; exact hp1
  obtain ⟨W2, hW2⟩ : ∃ W2, (W1.alloc (.cells ev0 35)).setRow W1.heap.size (evV n k s none 0 0) = W2 := ⟨_, rfl⟩
  have h2 : W2.heap[W1.heap.size]? = some (.cells (evV n k s none 0 0) 35 (0, 0)) := by rw [← hW2]; exact boxed_self _ _ _ _
  have h21 : W2.heap[w.heap.size]? = some (.cells #[fnV 87 #[ptr q, ptr p], fnV 88 #[ptr p], fnV 90 #[ptr p], fnV 92 #[ptr p]] 64 (0, 0)) := by rw [← hW2]; exact boxed_old _ _ _ h1
  have hp2 : W2.heap[p]? = some (.cells #[fnV 70 #[]] 106 (0, 0)) := by rw [← hW2]; exact boxed_old _ _ _ hp1'
  have hb2 : Below w.heap.size w W2 := by rw [← hW2]; exact below_boxed hb1 _ _
  have HD := Lib.hid (name_drop W1.heap.size p s W2 hp2 (ev_cells h2).2.2.2.2.2.1 (frozen_of h2 5))
  have h3 : (W2.setCell ⟨W1.heap.size, 5, none⟩ (.string ⟨#[]⟩)).heap[W1.heap.size]? = some (.cells (evV n k ⟨#[]⟩ none 0 0) 35 (0, 0)) := by
    rw [heap_setCell_at _ h2]; rfl
  have hb3 : Below w.heap.size w (W2.setCell ⟨W1.heap.size, 5, none⟩ (.string ⟨#[]⟩)) := hb2.setCell (p := ⟨W1.heap.size, 5, none⟩) hb1.size _
  obtain ⟨W3, hW3⟩ : ∃ W3, W2.setCell ⟨W1.heap.size, 5, none⟩ (.string ⟨#[]⟩) = W3 := ⟨_, rfl⟩
  rw [hW3] at h3 hb3 HD
  have k3 := (part_cells h21).2.2.2
  have HW1 := Lib.hid hW1
  have HW2 := Lib.hid hW2
  have HE1 := Lib.hid he1
  have H3 := Lib.hid h3
  have HB := Lib.hid hb3
  clear hW1 hW2 hW3 h1 hb1 h2 hb2 h21 hp2 h3 hb3 hp1 hq1 h he1 hp1'
  go_enter Tryz.func47, Tryz.ntmps47
  go_upto_region 1 with fail
  rw [HW1.out]
  go_upto_region 2 with (first | (refine wpList_load_row rfl 35 _ rfl eb rfl 35 _ (0, 0) _ HE1.out Tryz.underlying35 rfl (Tryz.sizeEv n k s none 0 0) ?_) | (refine wpList_store_row rfl 35 _ _ rfl W1.heap.size (evV n k s none 0 0) rfl rfl 35 _ (heap_new _ _) (Tryz.sizeEv n k s none 0 0) rfl (ev_one _ _ _ _ _ _) ?_))
  rw [HW2.out]
  go_upto_region 3 with (go_at_call 92; refine HD.out.mono ?_; rintro e w5 ⟨rfl, hw5⟩; subst w5)
  clear k3
  obtain ⟨c0, c1, c2, c3, c4, c5, c6, c7, c8, c9, c10, c11, c12, c13, c14, c15, c16, c17⟩ := ev_cells H3.out
  go_wp2_with fail
  go_ret
  exact ⟨rfl, HB.out⟩
end Go.Proofs.YtbncaiocmklgnaaGreatDoor

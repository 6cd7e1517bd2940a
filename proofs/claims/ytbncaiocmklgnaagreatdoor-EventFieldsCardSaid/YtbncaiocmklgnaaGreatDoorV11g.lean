/- event: the parts of a kind: what makes them (v11ggen.py). -/
import Derived.Test.YtbncaiocmklgnaaGreatDoorPh
import Derived.Lib.Hide
import Derived.Deep.WholeRow
import Derived.Deep.DeepCutAuto
import Derived.Laws.Tables
import Derived.Laws.Rows
namespace Go.Proofs.YtbncaiocmklgnaaGreatDoor
open Go.RowKit Go.Lib

theorem cell_of {w : World} {b : Nat} {c : Array Value} {t : TypeId} {fz : Nat × Nat} (h : w.heap[b]? = some (.cells c t fz)) (o : Nat) : w.cell? ⟨b, o, none⟩ = c[o]? := by
  simp [World.cell?, h]
theorem frozen_of {w : World} {b : Nat} {c : Array Value} {t : TypeId} (h : w.heap[b]? = some (.cells c t (0, 0))) (o : Nat) : w.frozen? ⟨b, o, none⟩ = false := by
  simp [World.frozen?, h]
theorem lt_of_heap {w : World} {b : Nat} {o : Obj} (h : w.heap[b]? = some o) : b < w.heap.size := (Array.getElem?_eq_some_iff.1 h).1
theorem heap_new (w : World) (o : Obj) : (w.alloc o).heap[w.heap.size]? = some o := heap_alloc_new w o
theorem below_box {a w : World} (h : Below a.heap.size a w) (o : Obj) : Below a.heap.size a (w.alloc o) := h.alloc h.size o
/-- Four functions over captured variables. -/
abbrev fnV (n : Nat) (caps : Array Value) : Value := .func (.func n) #[] caps
theorem Tryz.makeF (fn : Fn) (first cap : Array Value) (w : World) : (Instr.makeFunc fn first cap).run Tryz.prog w = .ok (.func fn first cap) w := rfl
theorem Tryz.storeF (a : Addr) (fn : Fn) (x y : Array Value) (m : Mode) (w : World) : (store a (.func fn x y) m).run Tryz.prog w = stored Tryz.prog w a (.func fn x y) m := run_store Tryz.prog w a _ m rfl
theorem Tryz.sizePart : (Tryz.prog.info? 64).map (·.size) = some 4 := by kernel_rfl
abbrev ptr (p : Nat) : Value := .pointer (some ⟨p, 0, none⟩)
abbrev nil4 : Array Value := #[.nilFunc, .nilFunc, .nilFunc, .nilFunc]
abbrev numbV (p : Nat) : Array Value := #[fnV 83 #[ptr p], fnV 84 #[ptr p], fnV 85 #[ptr p], fnV 86 #[ptr p]]
abbrev textV (p q : Nat) : Array Value := #[fnV 87 #[ptr q, ptr p], fnV 88 #[ptr p], fnV 90 #[ptr p], fnV 92 #[ptr p]]
abbrev rowV (p : Nat) : Array Value := #[fnV 94 #[ptr p], fnV 95 #[ptr p], fnV 96 #[ptr p], fnV 97 #[ptr p]]
set_option maxHeartbeats 1000000 in
theorem numberPart_any (f : Nat) (w : World) :
    Calls Tryz.prog 65 #[fnV f #[]] w fun e w' => ∃ p, e = .returned (.agg (numbV p)) ∧ w.heap.size ≤ p ∧ w'.heap[p]? = some (.cells #[fnV f #[]] 103 (0, 0)) ∧ Below w.heap.size w w' := by
  have hm := Tryz.makeF
  obtain ⟨W1, hW1⟩ : ∃ W1, w.alloc (.cells #[fnV f #[]] 103) = W1 := ⟨_, rfl⟩
  obtain ⟨W2, hW2⟩ : ∃ W2, W1.alloc (.cells nil4 64) = W2 := ⟨_, rfl⟩
  have h1 : W1.heap[w.heap.size]? = some (.cells #[fnV f #[]] 103 (0, 0)) := by rw [← hW1]; exact heap_new _ _
  have e1 : W1.heap.size = w.heap.size + 1 := by rw [← hW1]; simp
  have h2 : W2.heap[w.heap.size + 1]? = some (.cells nil4 64 (0, 0)) := by rw [← hW2, ← e1]; exact heap_new _ _
  have h21 : W2.heap[w.heap.size]? = some (.cells #[fnV f #[]] 103 (0, 0)) := by rw [← hW2, Below.heap_alloc _ _ _ (lt_of_heap h1)]; exact h1
  have hb : Below w.heap.size w W2 := by rw [← hW2, ← hW1]; exact below_box (below_box (Below.refl _ _) _) _
  have hW : (w.alloc (.cells #[fnV f #[]] 103)).alloc (.cells nil4 64) = W2 := by rw [hW1, hW2]
  have HW := Lib.hid hW
  have H2 := Lib.hid h2
  have HE := Lib.hid (And.intro h21 hb)
  clear hW1 hW2 h1 e1 h2 h21 hb hW
  go_enter Tryz.func65, Tryz.ntmps65
  go_upto_region 1 with fail
  rw [HW.out]
  go_wp2_with (refine wpList_store_row rfl 64 _ _ rfl (w.heap.size + 1) (numbV w.heap.size) rfl rfl 64 _ H2.out Tryz.sizePart rfl (by simp [Value.oneCell']) ?_)
  refine bodyPost_ret (v := .agg (numbV w.heap.size)) (results_cell_row Tryz.results65 _ _ (w.heap.size + 1) 64 (numbV w.heap.size) (0, 0) _ rfl (setRow_heap _ _ _ _ _ _ H2.out) Tryz.underlying64 rfl Tryz.sizePart) rfl ⟨_, rfl, Nat.le_refl _, ?_, ?_⟩
  · rw [setRow_other _ _ _ _ (by omega)]; exact HE.out.1
  · exact below_setRow HE.out.2 (by omega) _
set_option maxHeartbeats 1000000 in
theorem row_any (a : Option Addr) (n c : Nat) (w : World) :
    Calls Tryz.prog 75 #[.slice a n c] w fun e w' => ∃ p, e = .returned (.agg (rowV p)) ∧ w.heap.size ≤ p ∧ w'.heap[p]? = some (.cells #[.slice a n c] 113 (0, 0)) ∧ Below w.heap.size w w' := by
  have hm := Tryz.makeF
  obtain ⟨W1, hW1⟩ : ∃ W1, w.alloc (.cells #[.slice a n c] 113) = W1 := ⟨_, rfl⟩
  obtain ⟨W2, hW2⟩ : ∃ W2, W1.alloc (.cells nil4 64) = W2 := ⟨_, rfl⟩
  have h1 : W1.heap[w.heap.size]? = some (.cells #[.slice a n c] 113 (0, 0)) := by rw [← hW1]; exact heap_new _ _
  have e1 : W1.heap.size = w.heap.size + 1 := by rw [← hW1]; simp
  have h2 : W2.heap[w.heap.size + 1]? = some (.cells nil4 64 (0, 0)) := by rw [← hW2, ← e1]; exact heap_new _ _
  have h21 : W2.heap[w.heap.size]? = some (.cells #[.slice a n c] 113 (0, 0)) := by rw [← hW2, Below.heap_alloc _ _ _ (lt_of_heap h1)]; exact h1
  have hb : Below w.heap.size w W2 := by rw [← hW2, ← hW1]; exact below_box (below_box (Below.refl _ _) _) _
  have hW : (w.alloc (.cells #[.slice a n c] 113)).alloc (.cells nil4 64) = W2 := by rw [hW1, hW2]
  have HW := Lib.hid hW
  have H2 := Lib.hid h2
  have HE := Lib.hid (And.intro h21 hb)
  clear hW1 hW2 h1 e1 h2 h21 hb hW
  go_enter Tryz.func75, Tryz.ntmps75
  go_upto_region 1 with fail
  rw [HW.out]
  go_wp2_with (refine wpList_store_row rfl 64 _ _ rfl (w.heap.size + 1) (rowV w.heap.size) rfl rfl 64 _ H2.out Tryz.sizePart rfl (by simp [Value.oneCell']) ?_)
  refine bodyPost_ret (v := .agg (rowV w.heap.size)) (results_cell_row Tryz.results75 _ _ (w.heap.size + 1) 64 (rowV w.heap.size) (0, 0) _ rfl (setRow_heap _ _ _ _ _ _ H2.out) Tryz.underlying64 rfl Tryz.sizePart) rfl ⟨_, rfl, Nat.le_refl _, ?_, ?_⟩
  · rw [setRow_other _ _ _ _ (by omega)]; exact HE.out.1
  · exact below_setRow HE.out.2 (by omega) _
set_option maxHeartbeats 1000000 in
theorem textPart_any (f g : Nat) (w : World) :
    Calls Tryz.prog 69 #[fnV f #[], fnV g #[]] w fun e w' => ∃ p q, e = .returned (.agg (textV p q)) ∧ w'.heap[p]? = some (.cells #[fnV f #[]] 106 (0, 0)) ∧ w'.heap[q]? = some (.cells #[fnV g #[]] 89 (0, 0)) ∧ w.heap.size ≤ p ∧ w.heap.size ≤ q ∧ Below w.heap.size w w' := by
  have hm := Tryz.makeF
  obtain ⟨W1, hW1⟩ : ∃ W1, w.alloc (.cells #[fnV f #[]] 106) = W1 := ⟨_, rfl⟩
  obtain ⟨W2, hW2⟩ : ∃ W2, W1.alloc (.cells #[fnV g #[]] 89) = W2 := ⟨_, rfl⟩
  obtain ⟨W3, hW3⟩ : ∃ W3, W2.alloc (.cells nil4 64) = W3 := ⟨_, rfl⟩
  have h1 : W1.heap[w.heap.size]? = some (.cells #[fnV f #[]] 106 (0, 0)) := by rw [← hW1]; exact heap_new _ _
  have e1 : W1.heap.size = w.heap.size + 1 := by rw [← hW1]; simp
  have h2 : W2.heap[w.heap.size + 1]? = some (.cells #[fnV g #[]] 89 (0, 0)) := by rw [← hW2, ← e1]; exact heap_new _ _
  have h21 : W2.heap[w.heap.size]? = some (.cells #[fnV f #[]] 106 (0, 0)) := by rw [← hW2, Below.heap_alloc _ _ _ (lt_of_heap h1)]; exact h1
  have e2 : W2.heap.size = w.heap.size + 1 + 1 := by rw [← hW2, ← e1]; simp
  have h3 : W3.heap[w.heap.size + 1 + 1]? = some (.cells nil4 64 (0, 0)) := by rw [← hW3, ← e2]; exact heap_new _ _
  have h31 : W3.heap[w.heap.size]? = some (.cells #[fnV f #[]] 106 (0, 0)) := by rw [← hW3, Below.heap_alloc _ _ _ (lt_of_heap h21)]; exact h21
  have h32 : W3.heap[w.heap.size + 1]? = some (.cells #[fnV g #[]] 89 (0, 0)) := by rw [← hW3, Below.heap_alloc _ _ _ (lt_of_heap h2)]; exact h2
  have hb : Below w.heap.size w W3 := by rw [← hW3, ← hW2, ← hW1]; exact below_box (below_box (below_box (Below.refl _ _) _) _) _
  have hW : ((w.alloc (.cells #[fnV f #[]] 106)).alloc (.cells #[fnV g #[]] 89)).alloc (.cells nil4 64) = W3 := by rw [hW1, hW2, hW3]
  have HW := Lib.hid hW
  have H3 := Lib.hid h3
  have HE := Lib.hid (And.intro h31 (And.intro h32 hb))
  clear hW1 hW2 hW3 h1 e1 e2 h2 h21 h3 h31 h32 hb hW
  go_enter Tryz.func69, Tryz.ntmps69
  go_upto_region 1 with fail
  rw [HW.out]
  go_wp2_with (refine wpList_store_row rfl 64 _ _ rfl (w.heap.size + 1 + 1) (textV w.heap.size (w.heap.size + 1)) rfl rfl 64 _ H3.out Tryz.sizePart rfl (by simp [Value.oneCell']) ?_)
  refine bodyPost_ret (v := .agg (textV w.heap.size (w.heap.size + 1))) (results_cell_row Tryz.results69 _ _ (w.heap.size + 1 + 1) 64 (textV w.heap.size (w.heap.size + 1)) (0, 0) _ rfl (setRow_heap _ _ _ _ _ _ H3.out) Tryz.underlying64 rfl Tryz.sizePart) rfl ⟨_, _, rfl, ?_, ?_, Nat.le_refl _, Nat.le_succ _, ?_⟩
  · rw [setRow_other _ _ _ _ (by omega)]; exact HE.out.1
  · rw [setRow_other _ _ _ _ (by omega)]; exact HE.out.2.1
  · exact below_setRow HE.out.2.2 (by omega) _
set_option maxHeartbeats 1000000 in
theorem uidsPart_any (w : World) :
    Calls Tryz.prog 76 #[] w fun e w' => e = .returned (.agg #[fnV 98 #[], fnV 101 #[], fnV 102 #[], fnV 104 #[]]) ∧ Below w.heap.size w w' := by
  obtain ⟨W2, hW2⟩ : ∃ W2, w.alloc (.cells nil4 64) = W2 := ⟨_, rfl⟩
  have h2 : W2.heap[w.heap.size]? = some (.cells nil4 64 (0, 0)) := by rw [← hW2]; exact heap_new _ _
  have hb : Below w.heap.size w W2 := by rw [← hW2]; exact below_box (Below.refl _ _) _
  have HW := Lib.hid hW2
  have H2 := Lib.hid h2
  have HE := Lib.hid hb
  clear hW2 h2 hb
  go_enter Tryz.func76, Tryz.ntmps76
  go_upto_region 1 with fail
  rw [HW.out]
  go_wp2_with (refine wpList_store_row rfl 64 _ _ rfl w.heap.size #[fnV 98 #[], fnV 101 #[], fnV 102 #[], fnV 104 #[]] rfl rfl 64 _ H2.out Tryz.sizePart rfl (by simp [Value.oneCell']) ?_)
  refine bodyPost_ret (v := .agg #[fnV 98 #[], fnV 101 #[], fnV 102 #[], fnV 104 #[]]) (results_cell_row Tryz.results76 _ _ w.heap.size 64 #[fnV 98 #[], fnV 101 #[], fnV 102 #[], fnV 104 #[]] (0, 0) _ rfl (setRow_heap _ _ _ _ _ _ H2.out) Tryz.underlying64 rfl Tryz.sizePart) rfl ⟨rfl, ?_⟩
  exact below_setRow HE.out (Nat.le_refl _) _
set_option maxHeartbeats 1000000 in
theorem namesPart_any (w : World) :
    Calls Tryz.prog 77 #[] w fun e w' => e = .returned (.agg #[fnV 105 #[], fnV 108 #[], fnV 109 #[], fnV 110 #[]]) ∧ Below w.heap.size w w' := by
  obtain ⟨W2, hW2⟩ : ∃ W2, w.alloc (.cells nil4 64) = W2 := ⟨_, rfl⟩
  have h2 : W2.heap[w.heap.size]? = some (.cells nil4 64 (0, 0)) := by rw [← hW2]; exact heap_new _ _
  have hb : Below w.heap.size w W2 := by rw [← hW2]; exact below_box (Below.refl _ _) _
  have HW := Lib.hid hW2
  have H2 := Lib.hid h2
  have HE := Lib.hid hb
  clear hW2 h2 hb
  go_enter Tryz.func77, Tryz.ntmps77
  go_upto_region 1 with fail
  rw [HW.out]
  go_wp2_with (refine wpList_store_row rfl 64 _ _ rfl w.heap.size #[fnV 105 #[], fnV 108 #[], fnV 109 #[], fnV 110 #[]] rfl rfl 64 _ H2.out Tryz.sizePart rfl (by simp [Value.oneCell']) ?_)
  refine bodyPost_ret (v := .agg #[fnV 105 #[], fnV 108 #[], fnV 109 #[], fnV 110 #[]]) (results_cell_row Tryz.results77 _ _ w.heap.size 64 #[fnV 105 #[], fnV 108 #[], fnV 109 #[], fnV 110 #[]] (0, 0) _ rfl (setRow_heap _ _ _ _ _ _ H2.out) Tryz.underlying64 rfl Tryz.sizePart) rfl ⟨rfl, ?_⟩
  exact below_setRow HE.out (Nat.le_refl _) _
set_option maxHeartbeats 1000000 in
theorem datePart_any (w : World) :
    Calls Tryz.prog 79 #[] w fun e w' => e = .returned (.agg #[fnV 118 #[], fnV 120 #[], fnV 122 #[], fnV 123 #[]]) ∧ Below w.heap.size w w' := by
  obtain ⟨W2, hW2⟩ : ∃ W2, w.alloc (.cells nil4 64) = W2 := ⟨_, rfl⟩
  have h2 : W2.heap[w.heap.size]? = some (.cells nil4 64 (0, 0)) := by rw [← hW2]; exact heap_new _ _
  have hb : Below w.heap.size w W2 := by rw [← hW2]; exact below_box (Below.refl _ _) _
  have HW := Lib.hid hW2
  have H2 := Lib.hid h2
  have HE := Lib.hid hb
  clear hW2 h2 hb
  go_enter Tryz.func79, Tryz.ntmps79
  go_upto_region 1 with fail
  rw [HW.out]
  go_wp2_with (refine wpList_store_row rfl 64 _ _ rfl w.heap.size #[fnV 118 #[], fnV 120 #[], fnV 122 #[], fnV 123 #[]] rfl rfl 64 _ H2.out Tryz.sizePart rfl (by simp [Value.oneCell']) ?_)
  refine bodyPost_ret (v := .agg #[fnV 118 #[], fnV 120 #[], fnV 122 #[], fnV 123 #[]]) (results_cell_row Tryz.results79 _ _ w.heap.size 64 #[fnV 118 #[], fnV 120 #[], fnV 122 #[], fnV 123 #[]] (0, 0) _ rfl (setRow_heap _ _ _ _ _ _ H2.out) Tryz.underlying64 rfl Tryz.sizePart) rfl ⟨rfl, ?_⟩
  exact below_setRow HE.out (Nat.le_refl _) _
set_option maxHeartbeats 1000000 in
theorem markPart_any (w : World) :
    Calls Tryz.prog 78 #[] w fun e w' => e = .returned (.agg #[fnV 111 #[], fnV 113 #[], fnV 115 #[], fnV 117 #[]]) ∧ Below w.heap.size w w' := by
  obtain ⟨W2, hW2⟩ : ∃ W2, w.alloc (.cells nil4 64) = W2 := ⟨_, rfl⟩
  have h2 : W2.heap[w.heap.size]? = some (.cells nil4 64 (0, 0)) := by rw [← hW2]; exact heap_new _ _
  have hb : Below w.heap.size w W2 := by rw [← hW2]; exact below_box (Below.refl _ _) _
  have HW := Lib.hid hW2
  have H2 := Lib.hid h2
  have HE := Lib.hid hb
  clear hW2 h2 hb
  go_enter Tryz.func78, Tryz.ntmps78
  go_upto_region 1 with fail
  rw [HW.out]
  go_wp2_with (refine wpList_store_row rfl 64 _ _ rfl w.heap.size #[fnV 111 #[], fnV 113 #[], fnV 115 #[], fnV 117 #[]] rfl rfl 64 _ H2.out Tryz.sizePart rfl (by simp [Value.oneCell']) ?_)
  refine bodyPost_ret (v := .agg #[fnV 111 #[], fnV 113 #[], fnV 115 #[], fnV 117 #[]]) (results_cell_row Tryz.results78 _ _ w.heap.size 64 #[fnV 111 #[], fnV 113 #[], fnV 115 #[], fnV 117 #[]] (0, 0) _ rfl (setRow_heap _ _ _ _ _ _ H2.out) Tryz.underlying64 rfl Tryz.sizePart) rfl ⟨rfl, ?_⟩
  exact below_setRow HE.out (Nat.le_refl _) _
set_option maxHeartbeats 1000000 in
theorem marksPart_any (w : World) :
    Calls Tryz.prog 80 #[] w fun e w' => e = .returned (.agg #[fnV 124 #[], fnV 129 #[], fnV 130 #[], fnV 117 #[]]) ∧ Below w.heap.size w w' := by
  obtain ⟨W2, hW2⟩ : ∃ W2, w.alloc (.cells nil4 64) = W2 := ⟨_, rfl⟩
  have h2 : W2.heap[w.heap.size]? = some (.cells nil4 64 (0, 0)) := by rw [← hW2]; exact heap_new _ _
  have hb : Below w.heap.size w W2 := by rw [← hW2]; exact below_box (Below.refl _ _) _
  have HW := Lib.hid hW2
  have H2 := Lib.hid h2
  have HE := Lib.hid hb
  clear hW2 h2 hb
  go_enter Tryz.func80, Tryz.ntmps80
  go_upto_region 1 with fail
  rw [HW.out]
  go_wp2_with (refine wpList_store_row rfl 64 _ _ rfl w.heap.size #[fnV 124 #[], fnV 129 #[], fnV 130 #[], fnV 117 #[]] rfl rfl 64 _ H2.out Tryz.sizePart rfl (by simp [Value.oneCell']) ?_)
  refine bodyPost_ret (v := .agg #[fnV 124 #[], fnV 129 #[], fnV 130 #[], fnV 117 #[]]) (results_cell_row Tryz.results80 _ _ w.heap.size 64 #[fnV 124 #[], fnV 129 #[], fnV 130 #[], fnV 117 #[]] (0, 0) _ rfl (setRow_heap _ _ _ _ _ _ H2.out) Tryz.underlying64 rfl Tryz.sizePart) rfl ⟨rfl, ?_⟩
  exact below_setRow HE.out (Nat.le_refl _) _
end Go.Proofs.YtbncaiocmklgnaaGreatDoor

/- event: held, Check, of events with a name; of none; of too many names. -/
import Derived.Test.YtbncaiocmklgnaaGreatDoorV11k
namespace Go.Proofs.YtbncaiocmklgnaaGreatDoor
open Go.RowKit Go.Lib

theorem Env.go {w W : World} (h : Env w) (hb : Below w.heap.size w W) : Env W := h.on hb
set_option maxHeartbeats 4000000 in
set_option maxRecDepth 20000 in
theorem held_name (eb : Nat) (n : Int) (s : ByteArray) (w : World) (he : Env w) (hn : 2 ≤ n ∧ n < 4294967295) (hc : (wire (L s)).2 = 0) (h : w.heap[eb]? = some (.cells (evV n 10 s none 0 0) 35 (0, 0))) :
    Calls Tryz.prog 27 #[ptr eb] w fun e w' => ∃ v0 v1 v2 v3, e = .returned (.tuple #[.agg #[v0, v1, v2, v3], .int .i64 0]) ∧ NamePart w v0 v1 v2 v3 w' := by
  obtain ⟨W1, hW1⟩ : ∃ W1, w.alloc (.cells nil4 64) = W1 := ⟨_, rfl⟩
  have C1 : Hid (KB w [(w.heap.size, .cells nil4 64 (0, 0)), (eb, .cells (evV n 10 s none 0 0) 35 (0, 0))] W1) := Lib.hid (by rw [← hW1]; exact KB.box (KB.add ⟨Below.refl _ _, fun x hx => by cases hx⟩ h) _)
  have h1 := C1.out.kept (eb, _) (List.mem_cons_of_mem _ List.mem_cons_self)
  simp only at h1
  obtain ⟨c0, c1, _⟩ := ev_cells h1
  have HL := Lib.hid (isLong_no eb n 10 s none 0 0 W1 h1 (by decide))
  have HK := Lib.hid (kindOf_10 W1)
  have HNu := Lib.hid (fun W => isNumber_any n W ⟨by omega, hn.2⟩)
  have HEn := Lib.hid he
  have HC := Lib.hid hc
  have hn2 : ¬ n < 2 := by omega
  have hn3 : decide (n < 2) = false := decide_eq_false hn2
  clear h he hc hn h1
  go_enter Tryz.func27, Tryz.ntmps27
  go_upto_region 1 with fail
  (try rw [hW1])
  clear hW1
  go_upto_region 4 with (first | (go_at_call 44; refine HL.out.mono ?_; rintro e w2 ⟨rfl, hw2⟩; subst w2) | (go_at_call 45; refine HK.out.mono ?_; rintro e w2 ⟨v0, v1, v2, v3, rfl, p, q, rfl, rfl, rfl, rfl, hp, hq, hb⟩; have C2 := Lib.hid (((C1.out.go hb).add hp).add hq); clear hp hq hb) | (refine wpList_store_row rfl 64 _ _ rfl w2.heap.size #[fnV 87 #[ptr q, ptr p], fnV 88 #[ptr p], fnV 90 #[ptr p], fnV 92 #[ptr p]] rfl rfl 64 _ (heap_new _ _) Tryz.sizePart rfl (by simp [Value.oneCell']) ?_))
  obtain ⟨W3, hW3⟩ : ∃ W3, (w2.alloc (.cells nil4 64)).setRow w2.heap.size #[fnV 87 #[ptr q, ptr p], fnV 88 #[ptr p], fnV 90 #[ptr p], fnV 92 #[ptr p]] = W3 := ⟨_, rfl⟩
  rw [hW3]
  have C3 := Lib.hid (C2.out.boxed nil4 64 #[fnV 87 #[ptr q, ptr p], fnV 88 #[ptr p], fnV 90 #[ptr p], fnV 92 #[ptr p]])
  rw [hW3] at C3
  clear hW3 C2 c0 c1 HL HK C1
  have g1 := C3.out.kept (q, _) (List.mem_cons_of_mem _ List.mem_cons_self)
  have g2 := C3.out.kept (p, _) (List.mem_cons_of_mem _ (List.mem_cons_of_mem _ List.mem_cons_self))
  have g3 := C3.out.kept (eb, _) (List.mem_cons_of_mem _ (List.mem_cons_of_mem _ (List.mem_cons_of_mem _ (List.mem_cons_of_mem _ List.mem_cons_self))))
  simp only at g1 g2 g3
  have HH := Lib.hid (name_holds eb p q s W3 (HEn.out.go C3.out.below) HC.out g2 g1 (ev_cells g3).2.2.2.2.2.1)
  obtain ⟨c0, c1, _⟩ := ev_cells g3
  obtain ⟨k0, k1, k2, k3⟩ := part_cells (C3.out.kept (w2.heap.size, _) List.mem_cons_self)
  clear g1 g2 g3
  have HJ : Hid (∀ W, KB w [(w2.heap.size, Obj.cells #[fnV 87 #[ptr q, ptr p], fnV 88 #[ptr p], fnV 90 #[ptr p], fnV 92 #[ptr p]] 64 (0, 0)), (q, Obj.cells #[fnV 71 #[]] 89 (0, 0)), (p, Obj.cells #[fnV 70 #[]] 106 (0, 0)), (w.heap.size, Obj.cells nil4 64 (0, 0)), (eb, Obj.cells (evV n 10 s none 0 0) 35 (0, 0))] W → Calls Tryz.prog 47 #[ptr eb, .agg #[fnV 87 #[ptr q, ptr p], fnV 88 #[ptr p], fnV 90 #[ptr p], fnV 92 #[ptr p]]] W fun e w' => e = .returned (.bool true) ∧ Below W.heap.size W w') := Lib.hid (fun W hW => hasJust_name eb n 10 s _ _ _ _ W W (hW.kept (eb, _) (List.mem_cons_of_mem _ (List.mem_cons_of_mem _ (List.mem_cons_of_mem _ (List.mem_cons_of_mem _ List.mem_cons_self))))) ⟨p, q, rfl, rfl, rfl, rfl, hW.kept (p, _) (List.mem_cons_of_mem _ (List.mem_cons_of_mem _ List.mem_cons_self)), hW.kept (q, _) (List.mem_cons_of_mem _ List.mem_cons_self), Below.refl _ _⟩)
  have HR : Hid (∀ W, KB w [(w2.heap.size, Obj.cells #[fnV 87 #[ptr q, ptr p], fnV 88 #[ptr p], fnV 90 #[ptr p], fnV 92 #[ptr p]] 64 (0, 0)), (q, Obj.cells #[fnV 71 #[]] 89 (0, 0)), (p, Obj.cells #[fnV 70 #[]] 106 (0, 0)), (w.heap.size, Obj.cells nil4 64 (0, 0)), (eb, Obj.cells (evV n 10 s none 0 0) 35 (0, 0))] W → W.heap[w.heap.size]? = some (.cells nil4 64 (0, 0))) := Lib.hid (fun W hW => hW.kept (w.heap.size, _) (List.mem_cons_of_mem _ (List.mem_cons_of_mem _ (List.mem_cons_of_mem _ List.mem_cons_self))))
  go_upto_region 6 with (first | (go_at_call 46; refine (HNu.out _).mono ?_; rintro e w9 ⟨rfl, hw9⟩; subst w9) | (go_at_call 87; refine HH.out.mono ?_; rintro e w4 ⟨rfl, hb4⟩; have C4 := Lib.hid (C3.out.go hb4); obtain ⟨j0, j1, j2, j3⟩ := part_cells (C4.out.kept (w2.heap.size, _) List.mem_cons_self); clear hb4) | (go_at_call 47; refine (HJ.out _ C4.out).mono ?_; rintro e w5 ⟨rfl, hb5⟩; have C5 := Lib.hid (C4.out.go hb5); clear hb5))
  obtain ⟨i0, i1, i2, i3⟩ := part_cells (C5.out.kept (w2.heap.size, _) List.mem_cons_self)
  go_wp2_with (refine wpList_store_row rfl 64 _ _ rfl w.heap.size #[fnV 87 #[ptr q, ptr p], fnV 88 #[ptr p], fnV 90 #[ptr p], fnV 92 #[ptr p]] rfl rfl 64 _ (HR.out _ C5.out) Tryz.sizePart rfl (by simp [Value.oneCell']) ?_)
  refine bodyPost_ret (v := .tuple #[.agg #[fnV 87 #[ptr q, ptr p], fnV 88 #[ptr p], fnV 90 #[ptr p], fnV 92 #[ptr p]], .int .i64 0]) (res2c Tryz.results27 _ _ w.heap.size 64 #[fnV 87 #[ptr q, ptr p], fnV 88 #[ptr p], fnV 90 #[ptr p], fnV 92 #[ptr p]] (0, 0) _ rfl (setRow_heap _ _ _ _ _ _ (HR.out _ C5.out)) Tryz.underlying64 rfl Tryz.sizePart) rfl ⟨_, _, _, _, rfl, p, q, rfl, rfl, rfl, rfl, ?_, ?_, ?_⟩
  · rw [setRow_other _ _ _ _ (ne_obj (C5.out.kept (p, _) (List.mem_cons_of_mem _ (List.mem_cons_of_mem _ List.mem_cons_self))) (HR.out _ C5.out) (by simp [objT]))]; exact C5.out.kept (p, _) (List.mem_cons_of_mem _ (List.mem_cons_of_mem _ List.mem_cons_self))
  · rw [setRow_other _ _ _ _ (ne_obj (C5.out.kept (q, _) (List.mem_cons_of_mem _ List.mem_cons_self)) (HR.out _ C5.out) (by simp [objT]))]; exact C5.out.kept (q, _) (List.mem_cons_of_mem _ List.mem_cons_self)
  · exact below_setRow C5.out.below (Nat.le_refl _) _
set_option maxHeartbeats 4000000 in
set_option maxRecDepth 20000 in
theorem held_0 (eb : Nat) (w : World) (h : w.heap[eb]? = some (.cells (evV 0 0 ⟨#[]⟩ none 0 0) 35 (0, 0))) :
    Calls Tryz.prog 27 #[ptr eb] w fun e w' => e = .returned (.tuple #[.agg nil4, .int .i64 110]) ∧ Below w.heap.size w w' := by
  obtain ⟨W1, hW1⟩ : ∃ W1, w.alloc (.cells nil4 64) = W1 := ⟨_, rfl⟩
  have C1 : Hid (KB w [(w.heap.size, .cells nil4 64 (0, 0)), (eb, .cells (evV 0 0 ⟨#[]⟩ none 0 0) 35 (0, 0))] W1) := Lib.hid (by rw [← hW1]; exact KB.box (KB.add ⟨Below.refl _ _, fun x hx => by cases hx⟩ h) _)
  have h1 := C1.out.kept (eb, _) (List.mem_cons_of_mem _ List.mem_cons_self)
  simp only at h1
  obtain ⟨c0, c1, _⟩ := ev_cells h1
  have HL := Lib.hid (isLong_no eb 0 0 ⟨#[]⟩ none 0 0 W1 h1 (by decide))
  have HK := Lib.hid (kindOf_0 W1)
  clear h h1
  go_enter Tryz.func27, Tryz.ntmps27
  go_upto_region 1 with fail
  (try rw [hW1])
  clear hW1
  go_upto_region 4 with (first | (go_at_call 44; refine HL.out.mono ?_; rintro e w2 ⟨rfl, hw2⟩; subst w2) | (go_at_call 45; refine HK.out.mono ?_; rintro e w2 ⟨rfl, hb⟩; have C2 := Lib.hid (C1.out.go hb); clear hb) | (refine wpList_store_row rfl 64 _ _ rfl w2.heap.size nil4 rfl rfl 64 _ (heap_new _ _) Tryz.sizePart rfl (by simp [Value.oneCell']) ?_))
  obtain ⟨W3, hW3⟩ : ∃ W3, (w2.alloc (.cells nil4 64)).setRow w2.heap.size nil4 = W3 := ⟨_, rfl⟩
  rw [hW3]
  have C3 := Lib.hid (C2.out.boxed nil4 64 nil4)
  rw [hW3] at C3
  clear hW3 C2 c0 c1 HL HK C1
  go_wp2_with (refine wpList_store_row rfl 64 _ _ rfl w.heap.size nil4 rfl rfl 64 _ (C3.out.kept (w.heap.size, _) (List.mem_cons_of_mem _ List.mem_cons_self)) Tryz.sizePart rfl (by simp [Value.oneCell']) ?_)
  refine bodyPost_ret (v := .tuple #[.agg nil4, .int .i64 110]) (res2c Tryz.results27 _ _ w.heap.size 64 nil4 (0, 0) _ rfl (setRow_heap _ _ _ _ _ _ (C3.out.kept (w.heap.size, _) (List.mem_cons_of_mem _ List.mem_cons_self))) Tryz.underlying64 rfl Tryz.sizePart) rfl ⟨rfl, below_setRow C3.out.below (Nat.le_refl _) _⟩
set_option maxHeartbeats 4000000 in
theorem held_long (eb : Nat) (n k : Int) (s : ByteArray) (a : Option Addr) (l c : Nat) (w : World) (h : w.heap[eb]? = some (.cells (evV n k s a l c) 35 (0, 0))) (hl : 16 < l) :
    Calls Tryz.prog 27 #[ptr eb] w fun e w' => e = .returned (.tuple #[.agg nil4, .int .i64 2]) ∧ Below w.heap.size w w' := by
  obtain ⟨W1, hW1⟩ : ∃ W1, w.alloc (.cells nil4 64) = W1 := ⟨_, rfl⟩
  have C1 : Hid (KB w [(w.heap.size, .cells nil4 64 (0, 0)), (eb, .cells (evV n k s a l c) 35 (0, 0))] W1) := Lib.hid (by rw [← hW1]; exact KB.box (KB.add ⟨Below.refl _ _, fun x hx => by cases hx⟩ h) _)
  have h1 := C1.out.kept (eb, _) (List.mem_cons_of_mem _ List.mem_cons_self)
  simp only at h1
  have HL := Lib.hid (isLong_yes eb n k s a l c W1 h1 hl)
  clear h h1
  go_enter Tryz.func27, Tryz.ntmps27
  go_upto_region 1 with fail
  (try rw [hW1])
  clear hW1
  go_wp2_with (first | (go_at_call 44; refine HL.out.mono ?_; rintro e w2 ⟨rfl, hw2⟩; subst w2) | (refine wpList_store_row rfl 64 _ _ rfl w.heap.size nil4 rfl rfl 64 _ (C1.out.kept (w.heap.size, _) List.mem_cons_self) Tryz.sizePart rfl (by simp [Value.oneCell']) ?_))
  refine bodyPost_ret (v := .tuple #[.agg nil4, .int .i64 2]) (res2c Tryz.results27 _ _ w.heap.size 64 nil4 (0, 0) _ rfl (setRow_heap _ _ _ _ _ _ (C1.out.kept (w.heap.size, _) List.mem_cons_self)) Tryz.underlying64 rfl Tryz.sizePart) rfl ⟨rfl, below_setRow C1.out.below (Nat.le_refl _) _⟩
end Go.Proofs.YtbncaiocmklgnaaGreatDoor

/- The statement EventFields: the ways of its switch (c11ygen.py). -/
import Derived.Test.YtbncaiocmklgnaaGreatDoorC11u
namespace Go.Proofs.YtbncaiocmklgnaaGreatDoor
open Go.RowKit Go.Lib

set_option maxHeartbeats 8000000 in
set_option maxRecDepth 20000 in
theorem fields_0 (e : PE) (vn vb vu vm : Value) (w : World) (he : Env3 w) (hL : Lst w e vn vb vu vm) (hs : smallB e = true) (hc : chkE e = 0) : Calls Tryz.prog 4 #[.agg (evC e vn vb vu vm), .int .i64 0] w fun r w' => r = .returned (.bool true) ∧ Below w.heap.size w w' := by
  obtain ⟨W1, hW1⟩ : ∃ W1, w.alloc (.cells (evC e vn vb vu vm) 35) = W1 := ⟨_, rfl⟩
  have h1 : W1.heap[w.heap.size]? = some (.cells (evC e vn vb vu vm) 35 (0, 0)) := by rw [← hW1]; exact heap_new _ _
  have hb1 : Below w.heap.size w W1 := by rw [← hW1]; exact below_box (Below.refl _ _) _
  have HEv : Hid (∀ Y, Below W1.heap.size W1 Y → Y.heap[w.heap.size]? = some (.cells (evC e vn vb vu vm) 35 (0, 0))) := Lib.hid (fun Y hY => by rw [hY.block _ (lt_of_heap h1)]; exact h1)
  have HW : Hid (∀ Y, Below W1.heap.size W1 Y → Below w.heap.size w Y) := Lib.hid (fun Y hY => hb1.trans (hY.mono hb1.size))
  have HSm : Hid (∀ Y, Below W1.heap.size W1 Y → Calls Tryz.prog 10 #[.agg (evC e vn vb vu vm)] Y fun r w' => r = .returned (.bool (smallB e)) ∧ Below Y.heap.size Y w') := Lib.hid (fun Y hY => smallE_any e vn vb vu vm Y (hL.on (HW.out Y hY)))
  have HKn : Hid (∀ Y, Below W1.heap.size W1 Y → Calls Tryz.prog 6 #[] Y fun r w' => r = .returned (.bool true) ∧ Below Y.heap.size Y w') := Lib.hid (fun Y hY => known_any Y ⟨(he.on (HW.out Y hY)).e, (he.on (HW.out Y hY)).f⟩)
  have HCh : Hid (∀ Y, Below W1.heap.size W1 Y → Calls Tryz.prog 11 #[.agg (evC e vn vb vu vm)] Y fun r w' => r = .returned (.int .i64 (chkE e)) ∧ Below Y.heap.size Y w') := Lib.hid (fun Y hY => CheckE e vn vb vu vm Y (he.on (HW.out Y hY)) (hL.on (HW.out Y hY)))
  have HB1 : Hid (Below W1.heap.size W1 W1) := Lib.hid (Below.refl _ _)
  have HEn := Lib.hid he
  have HLs := Lib.hid hL
  clear h1 hb1 he hL
  obtain ⟨kk, hO⟩ := chk_ok hc
  have HO := Lib.hid hO
  rw [hs] at HSm
  rw [hc] at HCh
  clear hs hc hO
  go_enter Tryz.func4, Tryz.ntmps4
  go_upto_region 1 with fail
  (try rw [hW1])
  clear hW1
  go_upto_region 8 with (first | (go_at_call 10; refine (HSm.out _ HB1.out).mono ?_; rintro r w2 ⟨rfl, hb⟩; have HB2 := Lib.hid (HB1.out.trans (hb.mono HB1.out.size)); clear hb) | (go_at_call 6; refine (HKn.out _ HB2.out).mono ?_; rintro r w3 ⟨rfl, hb⟩; have HB3 := Lib.hid (HB2.out.trans (hb.mono HB2.out.size)); clear hb) | (go_at_call 11; refine (HCh.out _ HB3.out).mono ?_; rintro r w4 ⟨rfl, hb⟩; have HB4 := Lib.hid (HB3.out.trans (hb.mono HB3.out.size)); clear hb) | (have hq := HB4; clear hq; refine wpList_load_row rfl 35 _ rfl w.heap.size rfl 35 _ (0, 0) _ (HEv.out _ HB4.out) Tryz.underlying35 rfl (Tryz.sizeEvC e vn vb vu vm) ?_) | (have hq := HB3; clear hq; refine wpList_load_row rfl 35 _ rfl w.heap.size rfl 35 _ (0, 0) _ (HEv.out _ HB3.out) Tryz.underlying35 rfl (Tryz.sizeEvC e vn vb vu vm) ?_) | (have hq := HB1; clear hq; refine wpList_load_row rfl 35 _ rfl w.heap.size rfl 35 _ (0, 0) _ (HEv.out _ HB1.out) Tryz.underlying35 rfl (Tryz.sizeEvC e vn vb vu vm) ?_) | (refine wpList_store_row rfl 35 _ _ rfl w4.heap.size (evC e vn vb vu vm) rfl rfl 35 _ (heap_new _ _) (Tryz.sizeEvC e vn vb vu vm) rfl HLs.out.shp.one ?_))
  obtain ⟨W5, hW5⟩ : ∃ W5, (w4.alloc (.cells ev0 35)).setRow w4.heap.size (evC e vn vb vu vm) = W5 := ⟨_, rfl⟩
  rw [hW5]
  have C5 : Hid (Cpy w w4.heap.size e e vn vb vu vm vn vb vu vm W5) := Lib.hid (by
    have h0 : KB w [(w.heap.size, Obj.cells (evC e vn vb vu vm) 35 (0, 0))] w4 := ⟨HW.out _ HB4.out, fun x hx => by
      rcases List.mem_cons.1 hx with rfl | hx
      · exact HEv.out _ HB4.out
      · cases hx⟩
    have h := h0.boxed ev0 35 (evC e vn vb vu vm)
    rw [hW5] at h
    exact ⟨h, h0.below.size, Nat.ne_of_lt (lt_of_heap (h0.kept _ List.mem_cons_self))⟩)
  have HT := Lib.hid (fun b x un ub uu um X HB HE HX HL HC => fields_tail b x un ub uu um w X HB HE HX HL HC)
  clear hW5 HSm HKn HCh HEv HB1 HB2 HB3 HB4
  generalize w4.heap.size = b at *
  obtain ⟨_, _, c2, _, _, _, _, _, _, _, _, _, _, _, _, _, _, _⟩ := evC_cells (C5.out.k.kept (b, _) List.mem_cons_self)
  obtain ⟨_, _, d2, _, _, _, _, _, _, _, _, _, _, _, _, _, _, _⟩ := evC_cells (C5.out.k.kept (w.heap.size, _) (List.mem_cons_of_mem _ List.mem_cons_self))
  have z2 := frozen_of (C5.out.k.kept (b, _) List.mem_cons_self) 2
  have C1 : Hid (Cpy w b e { e with bx := 7 } vn vb vu vm vn vb vu vm (W5.setCell ⟨b, 2, none⟩ (.int .i64 7))) := Lib.hid (C5.out.set 2 (.int .i64 7) rfl)
  obtain ⟨_, _, dd2, _, _, _, _, _, _, _, _, _, _, _, _, _, _, _⟩ := evC_cells (C1.out.k.kept (w.heap.size, _) (List.mem_cons_of_mem _ List.mem_cons_self))
  by_cases h0 : e.bx = 0
  · have q0 : (e.bx == 0) = true := beq_iff_eq.2 h0
    have q1 : (e.bx != 0) = false := by rw [bne, q0]; rfl
    have H0 := Lib.hid h0
    clear h0
    have CX : Hid (Cpy w b e ({ e with bx := 7 }) vn vb vu vm vn vb vu vm _) := Lib.hid (C5.out.set 2 (.int .i64 7) rfl)
    have HCk : Hid (chkE ({ e with bx := 7 }) = 110) := Lib.hid (by have h := chk0 HO.out; unfold turn0 at h; rw [if_pos H0.out] at h; exact h)
    go_upto_region 52 with fail
    refine fields_tail b ({ e with bx := 7 }) vn vb vu vm w _ (Lib.hid CX.out.k.below) (Lib.hid (HEn.out.on CX.out.k.below)) (Lib.hid (CX.out.k.kept (b, _) List.mem_cons_self)) (Lib.hid (by have hl := HLs.out.on CX.out.k.below; exact ⟨hl.ns, hl.bs, hl.us, hl.ms, hl.cap, hl.zf⟩)) HCk _ _ _ _ _ _ _ _ _ _ _ _ _ _ _ _ _ _ _ _ _ _ _ _ _ _ _ _ _ _ _ _ _ _ _ _ _ _ _ _ _ _ _ _ _ _ _ _ _ _ _ _ _ _ _ _ _ _ _ _ _ _ _ _ _ _ _ _ _ _ _ _ _ _ _ _ _ _ _ _ _ _ _ _ _ _ _ _ _ _ _ _ _ _ _ _ _ _ _ _ _ _ _ _ _ _ _ _ _ _ _ _ _ _ _ _ _ _ _ _ _ _ _ ?_
    intro a w1 h
    apply_assumption
    exact h
  · have q0 : (e.bx == 0) = false := beq_eq_false_iff_ne.2 h0
    have q1 : (e.bx != 0) = true := by rw [bne, q0]; rfl
    have H0 := Lib.hid h0
    clear h0
    have CX : Hid (Cpy w b e ({ e with bx := 0 }) vn vb vu vm vn vb vu vm _) := Lib.hid ((C5.out.set 2 (.int .i64 7) (y := { e with bx := 7 }) (un := vn) (ub := vb) (uu := vu) (um := vm) rfl).set 2 (.int .i64 0) rfl)
    have HCk : Hid (chkE ({ e with bx := 0 }) = 110) := Lib.hid (by have h := chk0 HO.out; unfold turn0 at h; rw [if_neg H0.out] at h; exact h)
    go_upto_region 52 with fail
    refine fields_tail b ({ e with bx := 0 }) vn vb vu vm w _ (Lib.hid CX.out.k.below) (Lib.hid (HEn.out.on CX.out.k.below)) (Lib.hid (CX.out.k.kept (b, _) List.mem_cons_self)) (Lib.hid (by have hl := HLs.out.on CX.out.k.below; exact ⟨hl.ns, hl.bs, hl.us, hl.ms, hl.cap, hl.zf⟩)) HCk _ _ _ _ _ _ _ _ _ _ _ _ _ _ _ _ _ _ _ _ _ _ _ _ _ _ _ _ _ _ _ _ _ _ _ _ _ _ _ _ _ _ _ _ _ _ _ _ _ _ _ _ _ _ _ _ _ _ _ _ _ _ _ _ _ _ _ _ _ _ _ _ _ _ _ _ _ _ _ _ _ _ _ _ _ _ _ _ _ _ _ _ _ _ _ _ _ _ _ _ _ _ _ _ _ _ _ _ _ _ _ _ _ _ _ _ _ _ _ _ _ _ _ ?_
    intro a w1 h
    apply_assumption
    exact h
set_option maxHeartbeats 8000000 in
set_option maxRecDepth 20000 in
theorem fields_1 (e : PE) (vn vb vu vm : Value) (w : World) (he : Env3 w) (hL : Lst w e vn vb vu vm) (hs : smallB e = true) (hc : chkE e = 0) : Calls Tryz.prog 4 #[.agg (evC e vn vb vu vm), .int .i64 1] w fun r w' => r = .returned (.bool true) ∧ Below w.heap.size w w' := by
  obtain ⟨W1, hW1⟩ : ∃ W1, w.alloc (.cells (evC e vn vb vu vm) 35) = W1 := ⟨_, rfl⟩
  have h1 : W1.heap[w.heap.size]? = some (.cells (evC e vn vb vu vm) 35 (0, 0)) := by rw [← hW1]; exact heap_new _ _
  have hb1 : Below w.heap.size w W1 := by rw [← hW1]; exact below_box (Below.refl _ _) _
  have HEv : Hid (∀ Y, Below W1.heap.size W1 Y → Y.heap[w.heap.size]? = some (.cells (evC e vn vb vu vm) 35 (0, 0))) := Lib.hid (fun Y hY => by rw [hY.block _ (lt_of_heap h1)]; exact h1)
  have HW : Hid (∀ Y, Below W1.heap.size W1 Y → Below w.heap.size w Y) := Lib.hid (fun Y hY => hb1.trans (hY.mono hb1.size))
  have HSm : Hid (∀ Y, Below W1.heap.size W1 Y → Calls Tryz.prog 10 #[.agg (evC e vn vb vu vm)] Y fun r w' => r = .returned (.bool (smallB e)) ∧ Below Y.heap.size Y w') := Lib.hid (fun Y hY => smallE_any e vn vb vu vm Y (hL.on (HW.out Y hY)))
  have HKn : Hid (∀ Y, Below W1.heap.size W1 Y → Calls Tryz.prog 6 #[] Y fun r w' => r = .returned (.bool true) ∧ Below Y.heap.size Y w') := Lib.hid (fun Y hY => known_any Y ⟨(he.on (HW.out Y hY)).e, (he.on (HW.out Y hY)).f⟩)
  have HCh : Hid (∀ Y, Below W1.heap.size W1 Y → Calls Tryz.prog 11 #[.agg (evC e vn vb vu vm)] Y fun r w' => r = .returned (.int .i64 (chkE e)) ∧ Below Y.heap.size Y w') := Lib.hid (fun Y hY => CheckE e vn vb vu vm Y (he.on (HW.out Y hY)) (hL.on (HW.out Y hY)))
  have HB1 : Hid (Below W1.heap.size W1 W1) := Lib.hid (Below.refl _ _)
  have HEn := Lib.hid he
  have HLs := Lib.hid hL
  clear h1 hb1 he hL
  obtain ⟨kk, hO⟩ := chk_ok hc
  have HO := Lib.hid hO
  rw [hs] at HSm
  rw [hc] at HCh
  clear hs hc hO
  go_enter Tryz.func4, Tryz.ntmps4
  go_upto_region 1 with fail
  (try rw [hW1])
  clear hW1
  go_upto_region 8 with (first | (go_at_call 10; refine (HSm.out _ HB1.out).mono ?_; rintro r w2 ⟨rfl, hb⟩; have HB2 := Lib.hid (HB1.out.trans (hb.mono HB1.out.size)); clear hb) | (go_at_call 6; refine (HKn.out _ HB2.out).mono ?_; rintro r w3 ⟨rfl, hb⟩; have HB3 := Lib.hid (HB2.out.trans (hb.mono HB2.out.size)); clear hb) | (go_at_call 11; refine (HCh.out _ HB3.out).mono ?_; rintro r w4 ⟨rfl, hb⟩; have HB4 := Lib.hid (HB3.out.trans (hb.mono HB3.out.size)); clear hb) | (have hq := HB4; clear hq; refine wpList_load_row rfl 35 _ rfl w.heap.size rfl 35 _ (0, 0) _ (HEv.out _ HB4.out) Tryz.underlying35 rfl (Tryz.sizeEvC e vn vb vu vm) ?_) | (have hq := HB3; clear hq; refine wpList_load_row rfl 35 _ rfl w.heap.size rfl 35 _ (0, 0) _ (HEv.out _ HB3.out) Tryz.underlying35 rfl (Tryz.sizeEvC e vn vb vu vm) ?_) | (have hq := HB1; clear hq; refine wpList_load_row rfl 35 _ rfl w.heap.size rfl 35 _ (0, 0) _ (HEv.out _ HB1.out) Tryz.underlying35 rfl (Tryz.sizeEvC e vn vb vu vm) ?_) | (refine wpList_store_row rfl 35 _ _ rfl w4.heap.size (evC e vn vb vu vm) rfl rfl 35 _ (heap_new _ _) (Tryz.sizeEvC e vn vb vu vm) rfl HLs.out.shp.one ?_))
  obtain ⟨W5, hW5⟩ : ∃ W5, (w4.alloc (.cells ev0 35)).setRow w4.heap.size (evC e vn vb vu vm) = W5 := ⟨_, rfl⟩
  rw [hW5]
  have C5 : Hid (Cpy w w4.heap.size e e vn vb vu vm vn vb vu vm W5) := Lib.hid (by
    have h0 : KB w [(w.heap.size, Obj.cells (evC e vn vb vu vm) 35 (0, 0))] w4 := ⟨HW.out _ HB4.out, fun x hx => by
      rcases List.mem_cons.1 hx with rfl | hx
      · exact HEv.out _ HB4.out
      · cases hx⟩
    have h := h0.boxed ev0 35 (evC e vn vb vu vm)
    rw [hW5] at h
    exact ⟨h, h0.below.size, Nat.ne_of_lt (lt_of_heap (h0.kept _ List.mem_cons_self))⟩)
  have HT := Lib.hid (fun b x un ub uu um X HB HE HX HL HC => fields_tail b x un ub uu um w X HB HE HX HL HC)
  clear hW5 HSm HKn HCh HEv HB1 HB2 HB3 HB4
  generalize w4.heap.size = b at *
  obtain ⟨_, _, _, c3, _, _, _, _, _, _, _, _, _, _, _, _, _, _⟩ := evC_cells (C5.out.k.kept (b, _) List.mem_cons_self)
  obtain ⟨_, _, _, d3, _, _, _, _, _, _, _, _, _, _, _, _, _, _⟩ := evC_cells (C5.out.k.kept (w.heap.size, _) (List.mem_cons_of_mem _ List.mem_cons_self))
  have z3 := frozen_of (C5.out.k.kept (b, _) List.mem_cons_self) 3
  have C1 : Hid (Cpy w b e { e with tt := 7 } vn vb vu vm vn vb vu vm (W5.setCell ⟨b, 3, none⟩ (.int .i64 7))) := Lib.hid (C5.out.set 3 (.int .i64 7) rfl)
  obtain ⟨_, _, _, dd3, _, _, _, _, _, _, _, _, _, _, _, _, _, _⟩ := evC_cells (C1.out.k.kept (w.heap.size, _) (List.mem_cons_of_mem _ List.mem_cons_self))
  by_cases h0 : e.tt = 0
  · have q0 : (e.tt == 0) = true := beq_iff_eq.2 h0
    have q1 : (e.tt != 0) = false := by rw [bne, q0]; rfl
    have H0 := Lib.hid h0
    clear h0
    have CX : Hid (Cpy w b e ({ e with tt := 7 }) vn vb vu vm vn vb vu vm _) := Lib.hid (C5.out.set 3 (.int .i64 7) rfl)
    have HCk : Hid (chkE ({ e with tt := 7 }) = 110) := Lib.hid (by have h := chk1 HO.out; unfold turn1 at h; rw [if_pos H0.out] at h; exact h)
    go_upto_region 52 with fail
    refine fields_tail b ({ e with tt := 7 }) vn vb vu vm w _ (Lib.hid CX.out.k.below) (Lib.hid (HEn.out.on CX.out.k.below)) (Lib.hid (CX.out.k.kept (b, _) List.mem_cons_self)) (Lib.hid (by have hl := HLs.out.on CX.out.k.below; exact ⟨hl.ns, hl.bs, hl.us, hl.ms, hl.cap, hl.zf⟩)) HCk _ _ _ _ _ _ _ _ _ _ _ _ _ _ _ _ _ _ _ _ _ _ _ _ _ _ _ _ _ _ _ _ _ _ _ _ _ _ _ _ _ _ _ _ _ _ _ _ _ _ _ _ _ _ _ _ _ _ _ _ _ _ _ _ _ _ _ _ _ _ _ _ _ _ _ _ _ _ _ _ _ _ _ _ _ _ _ _ _ _ _ _ _ _ _ _ _ _ _ _ _ _ _ _ _ _ _ _ _ _ _ _ _ _ _ _ _ _ _ _ _ _ _ ?_
    intro a w1 h
    apply_assumption
    exact h
  · have q0 : (e.tt == 0) = false := beq_eq_false_iff_ne.2 h0
    have q1 : (e.tt != 0) = true := by rw [bne, q0]; rfl
    have H0 := Lib.hid h0
    clear h0
    have CX : Hid (Cpy w b e ({ e with tt := 0 }) vn vb vu vm vn vb vu vm _) := Lib.hid ((C5.out.set 3 (.int .i64 7) (y := { e with tt := 7 }) (un := vn) (ub := vb) (uu := vu) (um := vm) rfl).set 3 (.int .i64 0) rfl)
    have HCk : Hid (chkE ({ e with tt := 0 }) = 110) := Lib.hid (by have h := chk1 HO.out; unfold turn1 at h; rw [if_neg H0.out] at h; exact h)
    go_upto_region 52 with fail
    refine fields_tail b ({ e with tt := 0 }) vn vb vu vm w _ (Lib.hid CX.out.k.below) (Lib.hid (HEn.out.on CX.out.k.below)) (Lib.hid (CX.out.k.kept (b, _) List.mem_cons_self)) (Lib.hid (by have hl := HLs.out.on CX.out.k.below; exact ⟨hl.ns, hl.bs, hl.us, hl.ms, hl.cap, hl.zf⟩)) HCk _ _ _ _ _ _ _ _ _ _ _ _ _ _ _ _ _ _ _ _ _ _ _ _ _ _ _ _ _ _ _ _ _ _ _ _ _ _ _ _ _ _ _ _ _ _ _ _ _ _ _ _ _ _ _ _ _ _ _ _ _ _ _ _ _ _ _ _ _ _ _ _ _ _ _ _ _ _ _ _ _ _ _ _ _ _ _ _ _ _ _ _ _ _ _ _ _ _ _ _ _ _ _ _ _ _ _ _ _ _ _ _ _ _ _ _ _ _ _ _ _ _ _ ?_
    intro a w1 h
    apply_assumption
    exact h
set_option maxHeartbeats 8000000 in
set_option maxRecDepth 20000 in
theorem fields_2 (e : PE) (vn vb vu vm : Value) (w : World) (he : Env3 w) (hL : Lst w e vn vb vu vm) (hs : smallB e = true) (hc : chkE e = 0) : Calls Tryz.prog 4 #[.agg (evC e vn vb vu vm), .int .i64 2] w fun r w' => r = .returned (.bool true) ∧ Below w.heap.size w w' := by
  obtain ⟨W1, hW1⟩ : ∃ W1, w.alloc (.cells (evC e vn vb vu vm) 35) = W1 := ⟨_, rfl⟩
  have h1 : W1.heap[w.heap.size]? = some (.cells (evC e vn vb vu vm) 35 (0, 0)) := by rw [← hW1]; exact heap_new _ _
  have hb1 : Below w.heap.size w W1 := by rw [← hW1]; exact below_box (Below.refl _ _) _
  have HEv : Hid (∀ Y, Below W1.heap.size W1 Y → Y.heap[w.heap.size]? = some (.cells (evC e vn vb vu vm) 35 (0, 0))) := Lib.hid (fun Y hY => by rw [hY.block _ (lt_of_heap h1)]; exact h1)
  have HW : Hid (∀ Y, Below W1.heap.size W1 Y → Below w.heap.size w Y) := Lib.hid (fun Y hY => hb1.trans (hY.mono hb1.size))
  have HSm : Hid (∀ Y, Below W1.heap.size W1 Y → Calls Tryz.prog 10 #[.agg (evC e vn vb vu vm)] Y fun r w' => r = .returned (.bool (smallB e)) ∧ Below Y.heap.size Y w') := Lib.hid (fun Y hY => smallE_any e vn vb vu vm Y (hL.on (HW.out Y hY)))
  have HKn : Hid (∀ Y, Below W1.heap.size W1 Y → Calls Tryz.prog 6 #[] Y fun r w' => r = .returned (.bool true) ∧ Below Y.heap.size Y w') := Lib.hid (fun Y hY => known_any Y ⟨(he.on (HW.out Y hY)).e, (he.on (HW.out Y hY)).f⟩)
  have HCh : Hid (∀ Y, Below W1.heap.size W1 Y → Calls Tryz.prog 11 #[.agg (evC e vn vb vu vm)] Y fun r w' => r = .returned (.int .i64 (chkE e)) ∧ Below Y.heap.size Y w') := Lib.hid (fun Y hY => CheckE e vn vb vu vm Y (he.on (HW.out Y hY)) (hL.on (HW.out Y hY)))
  have HB1 : Hid (Below W1.heap.size W1 W1) := Lib.hid (Below.refl _ _)
  have HEn := Lib.hid he
  have HLs := Lib.hid hL
  clear h1 hb1 he hL
  obtain ⟨kk, hO⟩ := chk_ok hc
  have HO := Lib.hid hO
  rw [hs] at HSm
  rw [hc] at HCh
  clear hs hc hO
  go_enter Tryz.func4, Tryz.ntmps4
  go_upto_region 1 with fail
  (try rw [hW1])
  clear hW1
  go_upto_region 8 with (first | (go_at_call 10; refine (HSm.out _ HB1.out).mono ?_; rintro r w2 ⟨rfl, hb⟩; have HB2 := Lib.hid (HB1.out.trans (hb.mono HB1.out.size)); clear hb) | (go_at_call 6; refine (HKn.out _ HB2.out).mono ?_; rintro r w3 ⟨rfl, hb⟩; have HB3 := Lib.hid (HB2.out.trans (hb.mono HB2.out.size)); clear hb) | (go_at_call 11; refine (HCh.out _ HB3.out).mono ?_; rintro r w4 ⟨rfl, hb⟩; have HB4 := Lib.hid (HB3.out.trans (hb.mono HB3.out.size)); clear hb) | (have hq := HB4; clear hq; refine wpList_load_row rfl 35 _ rfl w.heap.size rfl 35 _ (0, 0) _ (HEv.out _ HB4.out) Tryz.underlying35 rfl (Tryz.sizeEvC e vn vb vu vm) ?_) | (have hq := HB3; clear hq; refine wpList_load_row rfl 35 _ rfl w.heap.size rfl 35 _ (0, 0) _ (HEv.out _ HB3.out) Tryz.underlying35 rfl (Tryz.sizeEvC e vn vb vu vm) ?_) | (have hq := HB1; clear hq; refine wpList_load_row rfl 35 _ rfl w.heap.size rfl 35 _ (0, 0) _ (HEv.out _ HB1.out) Tryz.underlying35 rfl (Tryz.sizeEvC e vn vb vu vm) ?_) | (refine wpList_store_row rfl 35 _ _ rfl w4.heap.size (evC e vn vb vu vm) rfl rfl 35 _ (heap_new _ _) (Tryz.sizeEvC e vn vb vu vm) rfl HLs.out.shp.one ?_))
  obtain ⟨W5, hW5⟩ : ∃ W5, (w4.alloc (.cells ev0 35)).setRow w4.heap.size (evC e vn vb vu vm) = W5 := ⟨_, rfl⟩
  rw [hW5]
  have C5 : Hid (Cpy w w4.heap.size e e vn vb vu vm vn vb vu vm W5) := Lib.hid (by
    have h0 : KB w [(w.heap.size, Obj.cells (evC e vn vb vu vm) 35 (0, 0))] w4 := ⟨HW.out _ HB4.out, fun x hx => by
      rcases List.mem_cons.1 hx with rfl | hx
      · exact HEv.out _ HB4.out
      · cases hx⟩
    have h := h0.boxed ev0 35 (evC e vn vb vu vm)
    rw [hW5] at h
    exact ⟨h, h0.below.size, Nat.ne_of_lt (lt_of_heap (h0.kept _ List.mem_cons_self))⟩)
  have HT := Lib.hid (fun b x un ub uu um X HB HE HX HL HC => fields_tail b x un ub uu um w X HB HE HX HL HC)
  clear hW5 HSm HKn HCh HEv HB1 HB2 HB3 HB4
  generalize w4.heap.size = b at *
  obtain ⟨_, _, _, _, _, c5, _, _, _, _, _, _, _, _, _, _, _, _⟩ := evC_cells (C5.out.k.kept (b, _) List.mem_cons_self)
  obtain ⟨_, _, _, _, _, d5, _, _, _, _, _, _, _, _, _, _, _, _⟩ := evC_cells (C5.out.k.kept (w.heap.size, _) (List.mem_cons_of_mem _ List.mem_cons_self))
  have z5 := frozen_of (C5.out.k.kept (b, _) List.mem_cons_self) 5
  have C1 : Hid (Cpy w b e { e with nm := aB } vn vb vu vm vn vb vu vm (W5.setCell ⟨b, 5, none⟩ (.string aB))) := Lib.hid (C5.out.set 5 (.string aB) rfl)
  obtain ⟨_, _, _, _, _, dd5, _, _, _, _, _, _, _, _, _, _, _, _⟩ := evC_cells (C1.out.k.kept (w.heap.size, _) (List.mem_cons_of_mem _ List.mem_cons_self))
  have HaB : (⟨#[97]⟩ : ByteArray) = aB := rfl
  cases h0 : e.nm.toList.isEmpty with
  | true =>
    have H0 := Lib.hid h0
    have CX : Hid (Cpy w b e ({ e with nm := aB }) vn vb vu vm vn vb vu vm _) := Lib.hid (C5.out.set 5 (.string aB) rfl)
    have HCk : Hid (chkE ({ e with nm := aB }) = 110) := Lib.hid (by have h := chk2 HO.out; unfold turn2 at h; rw [if_pos H0.out] at h; exact h)
    go_upto_region 52 with fail
    refine fields_tail b ({ e with nm := aB }) vn vb vu vm w _ (Lib.hid CX.out.k.below) (Lib.hid (HEn.out.on CX.out.k.below)) (Lib.hid (CX.out.k.kept (b, _) List.mem_cons_self)) (Lib.hid (by have hl := HLs.out.on CX.out.k.below; exact ⟨hl.ns, hl.bs, hl.us, hl.ms, hl.cap, hl.zf⟩)) HCk _ _ _ _ _ _ _ _ _ _ _ _ _ _ _ _ _ _ _ _ _ _ _ _ _ _ _ _ _ _ _ _ _ _ _ _ _ _ _ _ _ _ _ _ _ _ _ _ _ _ _ _ _ _ _ _ _ _ _ _ _ _ _ _ _ _ _ _ _ _ _ _ _ _ _ _ _ _ _ _ _ _ _ _ _ _ _ _ _ _ _ _ _ _ _ _ _ _ _ _ _ _ _ _ _ _ _ _ _ _ _ _ _ _ _ _ _ _ _ _ _ _ _ ?_
    intro a w1 h
    apply_assumption
    exact h
  | false =>
    have H0 := Lib.hid h0
    have CX : Hid (Cpy w b e ({ e with nm := ⟨#[]⟩ }) vn vb vu vm vn vb vu vm _) := Lib.hid ((C5.out.set 5 (.string aB) (y := { e with nm := aB }) (un := vn) (ub := vb) (uu := vu) (um := vm) rfl).set 5 (.string ⟨#[]⟩) rfl)
    have HCk : Hid (chkE ({ e with nm := ⟨#[]⟩ }) = 110) := Lib.hid (by have h := chk2 HO.out; unfold turn2 at h; rw [if_neg (by rw [H0.out]; exact Bool.false_ne_true)] at h; exact h)
    go_upto_region 52 with fail
    refine fields_tail b ({ e with nm := ⟨#[]⟩ }) vn vb vu vm w _ (Lib.hid CX.out.k.below) (Lib.hid (HEn.out.on CX.out.k.below)) (Lib.hid (CX.out.k.kept (b, _) List.mem_cons_self)) (Lib.hid (by have hl := HLs.out.on CX.out.k.below; exact ⟨hl.ns, hl.bs, hl.us, hl.ms, hl.cap, hl.zf⟩)) HCk _ _ _ _ _ _ _ _ _ _ _ _ _ _ _ _ _ _ _ _ _ _ _ _ _ _ _ _ _ _ _ _ _ _ _ _ _ _ _ _ _ _ _ _ _ _ _ _ _ _ _ _ _ _ _ _ _ _ _ _ _ _ _ _ _ _ _ _ _ _ _ _ _ _ _ _ _ _ _ _ _ _ _ _ _ _ _ _ _ _ _ _ _ _ _ _ _ _ _ _ _ _ _ _ _ _ _ _ _ _ _ _ _ _ _ _ _ _ _ _ _ _ _ ?_
    intro a w1 h
    apply_assumption
    exact h
end Go.Proofs.YtbncaiocmklgnaaGreatDoor

/- The statement EventFields: the ways of its switch (c11ygen.py). -/
namespace Go.Proofs.YtbncaiocmklgnaaGreatDoor
open Go.RowKit Go.Lib

set_option maxHeartbeats 8000000 in
set_option maxRecDepth 20000 in
theorem fields_7 (e : PE) (vn vb vu vm : Value) (w : World) (he : Env3 w) (hL : Lst w e vn vb vu vm) (hs : smallB e = true) (hc : chkE e = 0) : Calls Tryz.prog 4 #[.agg (evC e vn vb vu vm), .int .i64 7] w fun r w' => r = .returned (.bool true) ∧ Below w.heap.size w w' := by
  obtain ⟨W1, hW1⟩ : ∃ W1, w.alloc (.cells (evC e vn vb vu vm) 35) = W1 := ⟨_, rfl⟩
  have h1 : W1.heap[w.heap.size]? = some (.cells (evC e vn vb vu vm) 35 (0, 0)) := by rw [← hW1]; exact heap_new _ _
  have hb1 : Below w.heap.size w W1 := by rw [← hW1]; exact below_box (Below.refl _ _) _
  have HEv : Hid (∀ Y, Below W1.heap.size W1 Y → Y.heap[w.heap.size]? = some (.cells (evC e vn vb vu vm) 35 (0, 0))) := Lib.hid (fun Y hY => by rw [hY.block _ (lt_of_heap h1)]; exact h1)
  have HW : Hid (∀ Y, Below W1.heap.size W1 Y → Below w.heap.size w Y) := Lib.hid (fun Y hY => hb1.trans (hY.mono hb1.size))
  have HSm : Hid (∀ Y, Below W1.heap.size W1 Y → Calls Tryz.prog 10 #[.agg (evC e vn vb vu vm)] Y fun r w' => r = .returned (.bool (smallB e)) ∧ Below Y.heap.size Y w') := Lib.hid (fun Y hY => smallE_any e vn vb vu vm Y (hL.on (HW.out Y hY)))
  have HKn : Hid (∀ Y, Below W1.heap.size W1 Y → Calls Tryz.prog 6 #[] Y fun r w' => r = .returned (.bool true) ∧ Below Y.heap.size Y w') := Lib.hid (fun Y hY => known_any Y ⟨(he.on (HW.out Y hY)).e, (he.on (HW.out Y hY)).f⟩)
  have HCh : Hid (∀ Y, Below W1.heap.size W1 Y → Calls Tryz.prog 11 #[.agg (evC e vn vb vu vm)] Y fun r w' => r = .returned (.int .i64 (chkE e)) ∧ Below Y.heap.size Y w') := Lib.hid (fun Y hY => CheckE e vn vb vu vm Y (he.on (HW.out Y hY)) (hL.on (HW.out Y hY)))
  have HB1 : Hid (Below W1.heap.size W1 W1) := Lib.hid (Below.refl _ _)
  have HEn := Lib.hid he
  have HLs := Lib.hid hL
  clear h1 hb1 he hL
  obtain ⟨kk, hO⟩ := chk_ok hc
  have HO := Lib.hid hO
  rw [hs] at HSm
  rw [hc] at HCh
  clear hs hc hO
  go_enter Tryz.func4, Tryz.ntmps4
  go_upto_region 1 with fail
  (try rw [hW1])
  clear hW1
  go_upto_region 8 with (first | (go_at_call 10; refine (HSm.out _ HB1.out).mono ?_; rintro r w2 ⟨rfl, hb⟩; have HB2 := Lib.hid (HB1.out.trans (hb.mono HB1.out.size)); clear hb) | (go_at_call 6; refine (HKn.out _ HB2.out).mono ?_; rintro r w3 ⟨rfl, hb⟩; have HB3 := Lib.hid (HB2.out.trans (hb.mono HB2.out.size)); clear hb) | (go_at_call 11; refine (HCh.out _ HB3.out).mono ?_; rintro r w4 ⟨rfl, hb⟩; have HB4 := Lib.hid (HB3.out.trans (hb.mono HB3.out.size)); clear hb) | (have hq := HB4; clear hq; refine wpList_load_row rfl 35 _ rfl w.heap.size rfl 35 _ (0, 0) _ (HEv.out _ HB4.out) Tryz.underlying35 rfl (Tryz.sizeEvC e vn vb vu vm) ?_) | (have hq := HB3; clear hq; refine wpList_load_row rfl 35 _ rfl w.heap.size rfl 35 _ (0, 0) _ (HEv.out _ HB3.out) Tryz.underlying35 rfl (Tryz.sizeEvC e vn vb vu vm) ?_) | (have hq := HB1; clear hq; refine wpList_load_row rfl 35 _ rfl w.heap.size rfl 35 _ (0, 0) _ (HEv.out _ HB1.out) Tryz.underlying35 rfl (Tryz.sizeEvC e vn vb vu vm) ?_) | (refine wpList_store_row rfl 35 _ _ rfl w4.heap.size (evC e vn vb vu vm) rfl rfl 35 _ (heap_new _ _) (Tryz.sizeEvC e vn vb vu vm) rfl HLs.out.shp.one ?_))
  obtain ⟨W5, hW5⟩ : ∃ W5, (w4.alloc (.cells ev0 35)).setRow w4.heap.size (evC e vn vb vu vm) = W5 := ⟨_, rfl⟩
  rw [hW5]
  have C5 : Hid (Cpy w w4.heap.size e e vn vb vu vm vn vb vu vm W5) := Lib.hid (by
    have h0 : KB w [(w.heap.size, Obj.cells (evC e vn vb vu vm) 35 (0, 0))] w4 := ⟨HW.out _ HB4.out, fun x hx => by
      rcases List.mem_cons.1 hx with rfl | hx
      · exact HEv.out _ HB4.out
      · cases hx⟩
    have h := h0.boxed ev0 35 (evC e vn vb vu vm)
    rw [hW5] at h
    exact ⟨h, h0.below.size, Nat.ne_of_lt (lt_of_heap (h0.kept _ List.mem_cons_self))⟩)
  have HT := Lib.hid (fun b x un ub uu um X HB HE HX HL HC => fields_tail b x un ub uu um w X HB HE HX HL HC)
  clear hW5 HSm HKn HCh HEv HB1 HB2 HB3 HB4
  generalize w4.heap.size = b at *
  obtain ⟨c0, _, _, _, _, _, _, _, _, _, _, _, _, _, _, _, _, _⟩ := evC_cells (C5.out.k.kept (b, _) List.mem_cons_self)
  obtain ⟨d0, _, _, _, _, _, _, _, _, _, _, _, _, _, _, _, _, _⟩ := evC_cells (C5.out.k.kept (w.heap.size, _) (List.mem_cons_of_mem _ List.mem_cons_self))
  have z0 := frozen_of (C5.out.k.kept (b, _) List.mem_cons_self) 0
  have CX : Hid (Cpy w b e ({ e with n := 1 }) vn vb vu vm vn vb vu vm _) := Lib.hid (C5.out.set 0 (.int .i64 1) rfl)
  have HCk : Hid (chkE ({ e with n := 1 }) = 110) := Lib.hid (chk7 HO.out)
  go_upto_region 52 with fail
  refine fields_tail b ({ e with n := 1 }) vn vb vu vm w _ (Lib.hid CX.out.k.below) (Lib.hid (HEn.out.on CX.out.k.below)) (Lib.hid (CX.out.k.kept (b, _) List.mem_cons_self)) (Lib.hid (by have hl := HLs.out.on CX.out.k.below; exact ⟨hl.ns, hl.bs, hl.us, hl.ms, hl.cap, hl.zf⟩)) HCk _ _ _ _ _ _ _ _ _ _ _ _ _ _ _ _ _ _ _ _ _ _ _ _ _ _ _ _ _ _ _ _ _ _ _ _ _ _ _ _ _ _ _ _ _ _ _ _ _ _ _ _ _ _ _ _ _ _ _ _ _ _ _ _ _ _ _ _ _ _ _ _ _ _ _ _ _ _ _ _ _ _ _ _ _ _ _ _ _ _ _ _ _ _ _ _ _ _ _ _ _ _ _ _ _ _ _ _ _ _ _ _ _ _ _ _ _ _ _ _ _ _ _ ?_
  intro a w1 h
  apply_assumption
  exact h
set_option maxHeartbeats 8000000 in
set_option maxRecDepth 20000 in
theorem fields_8 (e : PE) (vn vb vu vm : Value) (w : World) (he : Env3 w) (hL : Lst w e vn vb vu vm) (hs : smallB e = true) (hc : chkE e = 0) : Calls Tryz.prog 4 #[.agg (evC e vn vb vu vm), .int .i64 8] w fun r w' => r = .returned (.bool true) ∧ Below w.heap.size w w' := by
  obtain ⟨W1, hW1⟩ : ∃ W1, w.alloc (.cells (evC e vn vb vu vm) 35) = W1 := ⟨_, rfl⟩
  have h1 : W1.heap[w.heap.size]? = some (.cells (evC e vn vb vu vm) 35 (0, 0)) := by rw [← hW1]; exact heap_new _ _
  have hb1 : Below w.heap.size w W1 := by rw [← hW1]; exact below_box (Below.refl _ _) _
  have HEv : Hid (∀ Y, Below W1.heap.size W1 Y → Y.heap[w.heap.size]? = some (.cells (evC e vn vb vu vm) 35 (0, 0))) := Lib.hid (fun Y hY => by rw [hY.block _ (lt_of_heap h1)]; exact h1)
  have HW : Hid (∀ Y, Below W1.heap.size W1 Y → Below w.heap.size w Y) := Lib.hid (fun Y hY => hb1.trans (hY.mono hb1.size))
  have HSm : Hid (∀ Y, Below W1.heap.size W1 Y → Calls Tryz.prog 10 #[.agg (evC e vn vb vu vm)] Y fun r w' => r = .returned (.bool (smallB e)) ∧ Below Y.heap.size Y w') := Lib.hid (fun Y hY => smallE_any e vn vb vu vm Y (hL.on (HW.out Y hY)))
  have HKn : Hid (∀ Y, Below W1.heap.size W1 Y → Calls Tryz.prog 6 #[] Y fun r w' => r = .returned (.bool true) ∧ Below Y.heap.size Y w') := Lib.hid (fun Y hY => known_any Y ⟨(he.on (HW.out Y hY)).e, (he.on (HW.out Y hY)).f⟩)
  have HCh : Hid (∀ Y, Below W1.heap.size W1 Y → Calls Tryz.prog 11 #[.agg (evC e vn vb vu vm)] Y fun r w' => r = .returned (.int .i64 (chkE e)) ∧ Below Y.heap.size Y w') := Lib.hid (fun Y hY => CheckE e vn vb vu vm Y (he.on (HW.out Y hY)) (hL.on (HW.out Y hY)))
  have HB1 : Hid (Below W1.heap.size W1 W1) := Lib.hid (Below.refl _ _)
  have HEn := Lib.hid he
  have HLs := Lib.hid hL
  clear h1 hb1 he hL
  obtain ⟨kk, hO⟩ := chk_ok hc
  have HO := Lib.hid hO
  rw [hs] at HSm
  rw [hc] at HCh
  clear hs hc hO
  go_enter Tryz.func4, Tryz.ntmps4
  go_upto_region 1 with fail
  (try rw [hW1])
  clear hW1
  go_upto_region 8 with (first | (go_at_call 10; refine (HSm.out _ HB1.out).mono ?_; rintro r w2 ⟨rfl, hb⟩; have HB2 := Lib.hid (HB1.out.trans (hb.mono HB1.out.size)); clear hb) | (go_at_call 6; refine (HKn.out _ HB2.out).mono ?_; rintro r w3 ⟨rfl, hb⟩; have HB3 := Lib.hid (HB2.out.trans (hb.mono HB2.out.size)); clear hb) | (go_at_call 11; refine (HCh.out _ HB3.out).mono ?_; rintro r w4 ⟨rfl, hb⟩; have HB4 := Lib.hid (HB3.out.trans (hb.mono HB3.out.size)); clear hb) | (have hq := HB4; clear hq; refine wpList_load_row rfl 35 _ rfl w.heap.size rfl 35 _ (0, 0) _ (HEv.out _ HB4.out) Tryz.underlying35 rfl (Tryz.sizeEvC e vn vb vu vm) ?_) | (have hq := HB3; clear hq; refine wpList_load_row rfl 35 _ rfl w.heap.size rfl 35 _ (0, 0) _ (HEv.out _ HB3.out) Tryz.underlying35 rfl (Tryz.sizeEvC e vn vb vu vm) ?_) | (have hq := HB1; clear hq; refine wpList_load_row rfl 35 _ rfl w.heap.size rfl 35 _ (0, 0) _ (HEv.out _ HB1.out) Tryz.underlying35 rfl (Tryz.sizeEvC e vn vb vu vm) ?_) | (refine wpList_store_row rfl 35 _ _ rfl w4.heap.size (evC e vn vb vu vm) rfl rfl 35 _ (heap_new _ _) (Tryz.sizeEvC e vn vb vu vm) rfl HLs.out.shp.one ?_))
  obtain ⟨W5, hW5⟩ : ∃ W5, (w4.alloc (.cells ev0 35)).setRow w4.heap.size (evC e vn vb vu vm) = W5 := ⟨_, rfl⟩
  rw [hW5]
  have C5 : Hid (Cpy w w4.heap.size e e vn vb vu vm vn vb vu vm W5) := Lib.hid (by
    have h0 : KB w [(w.heap.size, Obj.cells (evC e vn vb vu vm) 35 (0, 0))] w4 := ⟨HW.out _ HB4.out, fun x hx => by
      rcases List.mem_cons.1 hx with rfl | hx
      · exact HEv.out _ HB4.out
      · cases hx⟩
    have h := h0.boxed ev0 35 (evC e vn vb vu vm)
    rw [hW5] at h
    exact ⟨h, h0.below.size, Nat.ne_of_lt (lt_of_heap (h0.kept _ List.mem_cons_self))⟩)
  have HT := Lib.hid (fun b x un ub uu um X HB HE HX HL HC => fields_tail b x un ub uu um w X HB HE HX HL HC)
  clear hW5 HSm HKn HCh HEv HB1 HB2 HB3 HB4
  generalize w4.heap.size = b at *
  obtain ⟨_, c1, _, _, _, _, _, _, _, _, _, _, _, _, _, _, _, _⟩ := evC_cells (C5.out.k.kept (b, _) List.mem_cons_self)
  obtain ⟨_, d1, _, _, _, _, _, _, _, _, _, _, _, _, _, _, _, _⟩ := evC_cells (C5.out.k.kept (w.heap.size, _) (List.mem_cons_of_mem _ List.mem_cons_self))
  have z1 := frozen_of (C5.out.k.kept (b, _) List.mem_cons_self) 1
  have CX : Hid (Cpy w b e ({ e with k := 12 }) vn vb vu vm vn vb vu vm _) := Lib.hid (C5.out.set 1 (.int .i64 12) rfl)
  have HCk : Hid (chkE ({ e with k := 12 }) = 110) := Lib.hid (chk8 HO.out)
  go_upto_region 52 with fail
  refine fields_tail b ({ e with k := 12 }) vn vb vu vm w _ (Lib.hid CX.out.k.below) (Lib.hid (HEn.out.on CX.out.k.below)) (Lib.hid (CX.out.k.kept (b, _) List.mem_cons_self)) (Lib.hid (by have hl := HLs.out.on CX.out.k.below; exact ⟨hl.ns, hl.bs, hl.us, hl.ms, hl.cap, hl.zf⟩)) HCk _ _ _ _ _ _ _ _ _ _ _ _ _ _ _ _ _ _ _ _ _ _ _ _ _ _ _ _ _ _ _ _ _ _ _ _ _ _ _ _ _ _ _ _ _ _ _ _ _ _ _ _ _ _ _ _ _ _ _ _ _ _ _ _ _ _ _ _ _ _ _ _ _ _ _ _ _ _ _ _ _ _ _ _ _ _ _ _ _ _ _ _ _ _ _ _ _ _ _ _ _ _ _ _ _ _ _ _ _ _ _ _ _ _ _ _ _ _ _ _ _ _ _ ?_
  intro a w1 h
  apply_assumption
  exact h
set_option maxHeartbeats 8000000 in
set_option maxRecDepth 20000 in
theorem fields_10 (e : PE) (vn vb vu vm : Value) (w : World) (he : Env3 w) (hL : Lst w e vn vb vu vm) (hs : smallB e = true) (hc : chkE e = 0) : Calls Tryz.prog 4 #[.agg (evC e vn vb vu vm), .int .i64 10] w fun r w' => r = .returned (.bool true) ∧ Below w.heap.size w w' := by
  obtain ⟨W1, hW1⟩ : ∃ W1, w.alloc (.cells (evC e vn vb vu vm) 35) = W1 := ⟨_, rfl⟩
  have h1 : W1.heap[w.heap.size]? = some (.cells (evC e vn vb vu vm) 35 (0, 0)) := by rw [← hW1]; exact heap_new _ _
  have hb1 : Below w.heap.size w W1 := by rw [← hW1]; exact below_box (Below.refl _ _) _
  have HEv : Hid (∀ Y, Below W1.heap.size W1 Y → Y.heap[w.heap.size]? = some (.cells (evC e vn vb vu vm) 35 (0, 0))) := Lib.hid (fun Y hY => by rw [hY.block _ (lt_of_heap h1)]; exact h1)
  have HW : Hid (∀ Y, Below W1.heap.size W1 Y → Below w.heap.size w Y) := Lib.hid (fun Y hY => hb1.trans (hY.mono hb1.size))
  have HSm : Hid (∀ Y, Below W1.heap.size W1 Y → Calls Tryz.prog 10 #[.agg (evC e vn vb vu vm)] Y fun r w' => r = .returned (.bool (smallB e)) ∧ Below Y.heap.size Y w') := Lib.hid (fun Y hY => smallE_any e vn vb vu vm Y (hL.on (HW.out Y hY)))
  have HKn : Hid (∀ Y, Below W1.heap.size W1 Y → Calls Tryz.prog 6 #[] Y fun r w' => r = .returned (.bool true) ∧ Below Y.heap.size Y w') := Lib.hid (fun Y hY => known_any Y ⟨(he.on (HW.out Y hY)).e, (he.on (HW.out Y hY)).f⟩)
  have HCh : Hid (∀ Y, Below W1.heap.size W1 Y → Calls Tryz.prog 11 #[.agg (evC e vn vb vu vm)] Y fun r w' => r = .returned (.int .i64 (chkE e)) ∧ Below Y.heap.size Y w') := Lib.hid (fun Y hY => CheckE e vn vb vu vm Y (he.on (HW.out Y hY)) (hL.on (HW.out Y hY)))
  have HB1 : Hid (Below W1.heap.size W1 W1) := Lib.hid (Below.refl _ _)
  have HEn := Lib.hid he
  have HLs := Lib.hid hL
  clear h1 hb1 he hL
  obtain ⟨kk, hO⟩ := chk_ok hc
  have HO := Lib.hid hO
  rw [hs] at HSm
  rw [hc] at HCh
  clear hs hc hO
  go_enter Tryz.func4, Tryz.ntmps4
  go_upto_region 1 with fail
  (try rw [hW1])
  clear hW1
  go_upto_region 8 with (first | (go_at_call 10; refine (HSm.out _ HB1.out).mono ?_; rintro r w2 ⟨rfl, hb⟩; have HB2 := Lib.hid (HB1.out.trans (hb.mono HB1.out.size)); clear hb) | (go_at_call 6; refine (HKn.out _ HB2.out).mono ?_; rintro r w3 ⟨rfl, hb⟩; have HB3 := Lib.hid (HB2.out.trans (hb.mono HB2.out.size)); clear hb) | (go_at_call 11; refine (HCh.out _ HB3.out).mono ?_; rintro r w4 ⟨rfl, hb⟩; have HB4 := Lib.hid (HB3.out.trans (hb.mono HB3.out.size)); clear hb) | (have hq := HB4; clear hq; refine wpList_load_row rfl 35 _ rfl w.heap.size rfl 35 _ (0, 0) _ (HEv.out _ HB4.out) Tryz.underlying35 rfl (Tryz.sizeEvC e vn vb vu vm) ?_) | (have hq := HB3; clear hq; refine wpList_load_row rfl 35 _ rfl w.heap.size rfl 35 _ (0, 0) _ (HEv.out _ HB3.out) Tryz.underlying35 rfl (Tryz.sizeEvC e vn vb vu vm) ?_) | (have hq := HB1; clear hq; refine wpList_load_row rfl 35 _ rfl w.heap.size rfl 35 _ (0, 0) _ (HEv.out _ HB1.out) Tryz.underlying35 rfl (Tryz.sizeEvC e vn vb vu vm) ?_) | (refine wpList_store_row rfl 35 _ _ rfl w4.heap.size (evC e vn vb vu vm) rfl rfl 35 _ (heap_new _ _) (Tryz.sizeEvC e vn vb vu vm) rfl HLs.out.shp.one ?_))
  obtain ⟨W5, hW5⟩ : ∃ W5, (w4.alloc (.cells ev0 35)).setRow w4.heap.size (evC e vn vb vu vm) = W5 := ⟨_, rfl⟩
  rw [hW5]
  have C5 : Hid (Cpy w w4.heap.size e e vn vb vu vm vn vb vu vm W5) := Lib.hid (by
    have h0 : KB w [(w.heap.size, Obj.cells (evC e vn vb vu vm) 35 (0, 0))] w4 := ⟨HW.out _ HB4.out, fun x hx => by
      rcases List.mem_cons.1 hx with rfl | hx
      · exact HEv.out _ HB4.out
      · cases hx⟩
    have h := h0.boxed ev0 35 (evC e vn vb vu vm)
    rw [hW5] at h
    exact ⟨h, h0.below.size, Nat.ne_of_lt (lt_of_heap (h0.kept _ List.mem_cons_self))⟩)
  have HT := Lib.hid (fun b x un ub uu um X HB HE HX HL HC => fields_tail b x un ub uu um w X HB HE HX HL HC)
  clear hW5 HSm HKn HCh HEv HB1 HB2 HB3 HB4
  generalize w4.heap.size = b at *
  obtain ⟨c0, _, _, _, _, _, _, _, _, _, _, _, _, _, _, _, _, _⟩ := evC_cells (C5.out.k.kept (b, _) List.mem_cons_self)
  obtain ⟨d0, _, _, _, _, _, _, _, _, _, _, _, _, _, _, _, _, _⟩ := evC_cells (C5.out.k.kept (w.heap.size, _) (List.mem_cons_of_mem _ List.mem_cons_self))
  have z0 := frozen_of (C5.out.k.kept (b, _) List.mem_cons_self) 0
  have CX : Hid (Cpy w b e ({ e with n := 4294967295 }) vn vb vu vm vn vb vu vm _) := Lib.hid (C5.out.set 0 (.int .i64 4294967295) rfl)
  have HCk : Hid (chkE ({ e with n := 4294967295 }) = 110) := Lib.hid (chk10 HO.out)
  go_upto_region 52 with fail
  refine fields_tail b ({ e with n := 4294967295 }) vn vb vu vm w _ (Lib.hid CX.out.k.below) (Lib.hid (HEn.out.on CX.out.k.below)) (Lib.hid (CX.out.k.kept (b, _) List.mem_cons_self)) (Lib.hid (by have hl := HLs.out.on CX.out.k.below; exact ⟨hl.ns, hl.bs, hl.us, hl.ms, hl.cap, hl.zf⟩)) HCk _ _ _ _ _ _ _ _ _ _ _ _ _ _ _ _ _ _ _ _ _ _ _ _ _ _ _ _ _ _ _ _ _ _ _ _ _ _ _ _ _ _ _ _ _ _ _ _ _ _ _ _ _ _ _ _ _ _ _ _ _ _ _ _ _ _ _ _ _ _ _ _ _ _ _ _ _ _ _ _ _ _ _ _ _ _ _ _ _ _ _ _ _ _ _ _ _ _ _ _ _ _ _ _ _ _ _ _ _ _ _ _ _ _ _ _ _ _ _ _ _ _ _ ?_
  intro a w1 h
  apply_assumption
  exact h
set_option maxHeartbeats 8000000 in
set_option maxRecDepth 20000 in
theorem fields_11 (e : PE) (vn vb vu vm : Value) (w : World) (he : Env3 w) (hL : Lst w e vn vb vu vm) (hs : smallB e = true) (hc : chkE e = 0) : Calls Tryz.prog 4 #[.agg (evC e vn vb vu vm), .int .i64 11] w fun r w' => r = .returned (.bool true) ∧ Below w.heap.size w w' := by
  obtain ⟨W1, hW1⟩ : ∃ W1, w.alloc (.cells (evC e vn vb vu vm) 35) = W1 := ⟨_, rfl⟩
  have h1 : W1.heap[w.heap.size]? = some (.cells (evC e vn vb vu vm) 35 (0, 0)) := by rw [← hW1]; exact heap_new _ _
  have hb1 : Below w.heap.size w W1 := by rw [← hW1]; exact below_box (Below.refl _ _) _
  have HEv : Hid (∀ Y, Below W1.heap.size W1 Y → Y.heap[w.heap.size]? = some (.cells (evC e vn vb vu vm) 35 (0, 0))) := Lib.hid (fun Y hY => by rw [hY.block _ (lt_of_heap h1)]; exact h1)
  have HW : Hid (∀ Y, Below W1.heap.size W1 Y → Below w.heap.size w Y) := Lib.hid (fun Y hY => hb1.trans (hY.mono hb1.size))
  have HSm : Hid (∀ Y, Below W1.heap.size W1 Y → Calls Tryz.prog 10 #[.agg (evC e vn vb vu vm)] Y fun r w' => r = .returned (.bool (smallB e)) ∧ Below Y.heap.size Y w') := Lib.hid (fun Y hY => smallE_any e vn vb vu vm Y (hL.on (HW.out Y hY)))
  have HKn : Hid (∀ Y, Below W1.heap.size W1 Y → Calls Tryz.prog 6 #[] Y fun r w' => r = .returned (.bool true) ∧ Below Y.heap.size Y w') := Lib.hid (fun Y hY => known_any Y ⟨(he.on (HW.out Y hY)).e, (he.on (HW.out Y hY)).f⟩)
  have HCh : Hid (∀ Y, Below W1.heap.size W1 Y → Calls Tryz.prog 11 #[.agg (evC e vn vb vu vm)] Y fun r w' => r = .returned (.int .i64 (chkE e)) ∧ Below Y.heap.size Y w') := Lib.hid (fun Y hY => CheckE e vn vb vu vm Y (he.on (HW.out Y hY)) (hL.on (HW.out Y hY)))
  have HB1 : Hid (Below W1.heap.size W1 W1) := Lib.hid (Below.refl _ _)
  have HEn := Lib.hid he
  have HLs := Lib.hid hL
  clear h1 hb1 he hL
  obtain ⟨kk, hO⟩ := chk_ok hc
  have HO := Lib.hid hO
  rw [hs] at HSm
  rw [hc] at HCh
  clear hs hc hO
  go_enter Tryz.func4, Tryz.ntmps4
  go_upto_region 1 with fail
  (try rw [hW1])
  clear hW1
  go_upto_region 8 with (first | (go_at_call 10; refine (HSm.out _ HB1.out).mono ?_; rintro r w2 ⟨rfl, hb⟩; have HB2 := Lib.hid (HB1.out.trans (hb.mono HB1.out.size)); clear hb) | (go_at_call 6; refine (HKn.out _ HB2.out).mono ?_; rintro r w3 ⟨rfl, hb⟩; have HB3 := Lib.hid (HB2.out.trans (hb.mono HB2.out.size)); clear hb) | (go_at_call 11; refine (HCh.out _ HB3.out).mono ?_; rintro r w4 ⟨rfl, hb⟩; have HB4 := Lib.hid (HB3.out.trans (hb.mono HB3.out.size)); clear hb) | (have hq := HB4; clear hq; refine wpList_load_row rfl 35 _ rfl w.heap.size rfl 35 _ (0, 0) _ (HEv.out _ HB4.out) Tryz.underlying35 rfl (Tryz.sizeEvC e vn vb vu vm) ?_) | (have hq := HB3; clear hq; refine wpList_load_row rfl 35 _ rfl w.heap.size rfl 35 _ (0, 0) _ (HEv.out _ HB3.out) Tryz.underlying35 rfl (Tryz.sizeEvC e vn vb vu vm) ?_) | (have hq := HB1; clear hq; refine wpList_load_row rfl 35 _ rfl w.heap.size rfl 35 _ (0, 0) _ (HEv.out _ HB1.out) Tryz.underlying35 rfl (Tryz.sizeEvC e vn vb vu vm) ?_) | (refine wpList_store_row rfl 35 _ _ rfl w4.heap.size (evC e vn vb vu vm) rfl rfl 35 _ (heap_new _ _) (Tryz.sizeEvC e vn vb vu vm) rfl HLs.out.shp.one ?_))
  obtain ⟨W5, hW5⟩ : ∃ W5, (w4.alloc (.cells ev0 35)).setRow w4.heap.size (evC e vn vb vu vm) = W5 := ⟨_, rfl⟩
  rw [hW5]
  have C5 : Hid (Cpy w w4.heap.size e e vn vb vu vm vn vb vu vm W5) := Lib.hid (by
    have h0 : KB w [(w.heap.size, Obj.cells (evC e vn vb vu vm) 35 (0, 0))] w4 := ⟨HW.out _ HB4.out, fun x hx => by
      rcases List.mem_cons.1 hx with rfl | hx
      · exact HEv.out _ HB4.out
      · cases hx⟩
    have h := h0.boxed ev0 35 (evC e vn vb vu vm)
    rw [hW5] at h
    exact ⟨h, h0.below.size, Nat.ne_of_lt (lt_of_heap (h0.kept _ List.mem_cons_self))⟩)
  have HT := Lib.hid (fun b x un ub uu um X HB HE HX HL HC => fields_tail b x un ub uu um w X HB HE HX HL HC)
  clear hW5 HSm HKn HCh HEv HB1 HB2 HB3 HB4
  generalize w4.heap.size = b at *
  obtain ⟨_, _, _, _, _, _, _, _, _, _, _, _, _, _, _, _, _, c17⟩ := evC_cells (C5.out.k.kept (b, _) List.mem_cons_self)
  obtain ⟨_, d1, _, _, _, _, _, _, _, _, _, _, _, _, _, _, _, d17⟩ := evC_cells (C5.out.k.kept (w.heap.size, _) (List.mem_cons_of_mem _ List.mem_cons_self))
  have z17 := frozen_of (C5.out.k.kept (b, _) List.mem_cons_self) 17
  cases h0 : e.bd.toList.isEmpty with
  | false =>
    go_wp2_with fail
    go_ret
    exact ⟨rfl, C5.out.k.below⟩
  | true =>
    by_cases h5 : e.k = 5
    · have q0 : (e.k == 5) = true := beq_iff_eq.2 h5
      clear h5
      go_wp2_with fail
      go_ret
      exact ⟨rfl, C5.out.k.below⟩
    · have q0 : (e.k == 5) = false := beq_eq_false_iff_ne.2 h5
      have H5 := Lib.hid h5
      have CX : Hid (Cpy w b e ({ e with bd := xB }) vn vb vu vm vn vb vu vm _) := Lib.hid (C5.out.set 17 (.string xB) rfl)
      have HCk : Hid (chkE ({ e with bd := xB }) = 110) := Lib.hid (chk11 HO.out H5.out)
      go_upto_region 52 with fail
      refine fields_tail b ({ e with bd := xB }) vn vb vu vm w _ (Lib.hid CX.out.k.below) (Lib.hid (HEn.out.on CX.out.k.below)) (Lib.hid (CX.out.k.kept (b, _) List.mem_cons_self)) (Lib.hid (by have hl := HLs.out.on CX.out.k.below; exact ⟨hl.ns, hl.bs, hl.us, hl.ms, hl.cap, hl.zf⟩)) HCk _ _ _ _ _ _ _ _ _ _ _ _ _ _ _ _ _ _ _ _ _ _ _ _ _ _ _ _ _ _ _ _ _ _ _ _ _ _ _ _ _ _ _ _ _ _ _ _ _ _ _ _ _ _ _ _ _ _ _ _ _ _ _ _ _ _ _ _ _ _ _ _ _ _ _ _ _ _ _ _ _ _ _ _ _ _ _ _ _ _ _ _ _ _ _ _ _ _ _ _ _ _ _ _ _ _ _ _ _ _ _ _ _ _ _ _ _ _ _ _ _ _ _ ?_
      intro a w1 h
      apply_assumption
      exact h
end Go.Proofs.YtbncaiocmklgnaaGreatDoor

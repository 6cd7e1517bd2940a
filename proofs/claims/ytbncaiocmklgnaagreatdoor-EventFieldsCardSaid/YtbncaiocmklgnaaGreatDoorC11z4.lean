/- The statement EventFields: the ways of its switch (c11ygen.py). -/
import Derived.Test.YtbncaiocmklgnaaGreatDoorC11u
import Derived.Test.YtbncaiocmklgnaaGreatDoorC11z2
namespace Go.Proofs.YtbncaiocmklgnaaGreatDoor
open Go.RowKit Go.Lib

set_option maxHeartbeats 8000000 in
set_option maxRecDepth 20000 in
theorem fields_3 (e : PE) (vn vb vu vm : Value) (w : World) (he : Env3 w) (hL : Lst w e vn vb vu vm) (hs : smallB e = true) (hc : chkE e = 0) : Calls Tryz.prog 4 #[.agg (evC e vn vb vu vm), .int .i64 3] w fun r w' => r = .returned (.bool true) ∧ Below w.heap.size w w' := by
  obtain ⟨W1, hW1⟩ : ∃ W1, w.alloc (.cells (evC e vn vb vu vm) 35) = W1 := ⟨_, rfl⟩
  have h1 : W1.heap[w.heap.size]? = some (.cells (evC e vn vb vu vm) 35 (0, 0)) := by rw [← hW1]; exact heap_new _ _
  have hb1 : Below w.heap.size w W1 := by rw [← hW1]; exact below_box (Below.refl _ _) _
  have HEv : Hid (∀ Y, Below W1.heap.size W1 Y → Y.heap[w.heap.size]? = some (.cells (evC e vn vb vu vm) 35 (0, 0))) := Lib.hid (fun Y hY => by rw [hY.block _ (lt_of_heap h1)]; exact h1)
  have HW : Hid (∀ Y, Below W1.heap.size W1 Y → Below w.heap.size w Y) := Lib.hid (fun Y hY => hb1.trans (hY.mono hb1.size))
  have HSm : Hid (∀ Y, Below W1.heap.size W1 Y → Calls Tryz.prog 10 #[.agg (evC e vn vb vu vm)] Y fun r w' => r = .returned (.bool (smallB e)) ∧ Below Y.heap.size Y w') := Lib.hid (fun Y hY => smallE_any e vn vb vu vm Y (hL.on (HW.out Y hY)))
  have HKn : Hid (∀ Y, Below W1.heap.size W1 Y → Calls Tryz.prog 6 #[] Y fun r w' => r = .returned (.bool true) ∧ Below Y.heap.size Y w') := Lib.hid (fun Y hY => known_any Y ⟨(he.on (HW.out Y hY)).e, (he.on (HW.out Y hY)).f⟩)
  have HCh : Hid (∀ Y, Below W1.heap.size W1 Y → Calls Tryz.prog 11 #[.agg (evC e vn vb vu vm)] Y fun r w' => r = .returned (.int .i64 (chkE e)) ∧ Below Y.heap.size Y w') := Lib.hid (fun Y hY => CheckE e vn vb vu vm Y (he.on (HW.out Y hY)) (hL.on (HW.out Y hY)))
  have HB1 : Hid (Below W1.heap.size W1 W1) := Lib.hid (Below.refl _ _)
  have HEn := Lib.hid he
  have HLs := Lib.hid hL
  clear h1 hb1 he hL
  obtain ⟨kk, hO⟩ := chk_ok hc
  have HO := Lib.hid hO
  rw [hs] at HSm
  rw [hc] at HCh
  clear hs hc hO
  go_enter Tryz.func4, Tryz.ntmps4
  go_upto_region 1 with fail
  (try rw [hW1])
  clear hW1
  go_upto_region 8 with (first | (go_at_call 10; refine (HSm.out _ HB1.out).mono ?_; rintro r w2 ⟨rfl, hb⟩; have HB2 := Lib.hid (HB1.out.trans (hb.mono HB1.out.size)); clear hb) | (go_at_call 6; refine (HKn.out _ HB2.out).mono ?_; rintro r w3 ⟨rfl, hb⟩; have HB3 := Lib.hid (HB2.out.trans (hb.mono HB2.out.size)); clear hb) | (go_at_call 11; refine (HCh.out _ HB3.out).mono ?_; rintro r w4 ⟨rfl, hb⟩; have HB4 := Lib.hid (HB3.out.trans (hb.mono HB3.out.size)); clear hb) | (have hq := HB4; clear hq; refine wpList_load_row rfl 35 _ rfl w.heap.size rfl 35 _ (0, 0) _ (HEv.out _ HB4.out) Tryz.underlying35 rfl (Tryz.sizeEvC e vn vb vu vm) ?_) | (have hq := HB3; clear hq; refine wpList_load_row rfl 35 _ rfl w.heap.size rfl 35 _ (0, 0) _ (HEv.out _ HB3.out) Tryz.underlying35 rfl (Tryz.sizeEvC e vn vb vu vm) ?_) | (have hq := HB1; clear hq; refine wpList_load_row rfl 35 _ rfl w.heap.size rfl 35 _ (0, 0) _ (HEv.out _ HB1.out) Tryz.underlying35 rfl (Tryz.sizeEvC e vn vb vu vm) ?_) | (refine wpList_store_row rfl 35 _ _ rfl w4.heap.size (evC e vn vb vu vm) rfl rfl 35 _ (heap_new _ _) (Tryz.sizeEvC e vn vb vu vm) rfl HLs.out.shp.one ?_))
  obtain ⟨W5, hW5⟩ : ∃ W5, (w4.alloc (.cells ev0 35)).setRow w4.heap.size (evC e vn vb vu vm) = W5 := ⟨_, rfl⟩
  rw [hW5]
  have C5 : Hid (Cpy w w4.heap.size e e vn vb vu vm vn vb vu vm W5) := Lib.hid (by
    have h0 : KB w [(w.heap.size, Obj.cells (evC e vn vb vu vm) 35 (0, 0))] w4 := ⟨HW.out _ HB4.out, fun x hx => by
      rcases List.mem_cons.1 hx with rfl | hx
      · exact HEv.out _ HB4.out
      · cases hx⟩
    have h := h0.boxed ev0 35 (evC e vn vb vu vm)
    rw [hW5] at h
    exact ⟨h, h0.below.size, Nat.ne_of_lt (lt_of_heap (h0.kept _ List.mem_cons_self))⟩)
  have HT := Lib.hid (fun b x un ub uu um X HB HE HX HL HC => fields_tail b x un ub uu um w X HB HE HX HL HC)
  clear hW5 HSm HKn HCh HEv HB1 HB2 HB3 HB4
  generalize w4.heap.size = b at *
  obtain ⟨_, _, _, _, _, _, c6, _, _, _, _, _, _, _, _, _, _, _⟩ := evC_cells (C5.out.k.kept (b, _) List.mem_cons_self)
  obtain ⟨_, _, _, _, _, _, d6, _, _, _, _, _, _, _, _, _, _, _⟩ := evC_cells (C5.out.k.kept (w.heap.size, _) (List.mem_cons_of_mem _ List.mem_cons_self))
  have z6 := frozen_of (C5.out.k.kept (b, _) List.mem_cons_self) 6
  obtain ⟨ax, kx, ex⟩ := HLs.out.shp.n
  rw [ex] at c6 d6
  have HEx := Lib.hid ex
  clear ex
  have HNw : Hid (∀ v, ((W5.alloc (.cells #[.string aB] 9)).setCell ⟨b, 6, none⟩ v).heap[W5.heap.size]? = some (.cells #[.string aB] 9 (0, 0))) := Lib.hid (fun v => by rw [Below.heap_setCell _ _ _ _ (Nat.ne_of_gt (lt_of_heap (C5.out.k.kept (b, _) List.mem_cons_self)))]; exact heap_new _ _)
  have C1 : Hid (Cpy w b e { e with ns := [aB] } vn vb vu vm (.slice (some ⟨W5.heap.size, 0, none⟩) 1 1) vb vu vm ((W5.alloc (.cells #[.string aB] 9)).setCell ⟨b, 6, none⟩ (.slice (some ⟨W5.heap.size, 0, none⟩) 1 1))) := Lib.hid ((C5.out.alloc (.cells #[.string aB] 9)).set 6 (.slice (some ⟨W5.heap.size, 0, none⟩) 1 1) rfl)
  obtain ⟨_, _, _, _, _, _, dd6, _, _, _, _, _, _, _, _, _, _, _⟩ := evC_cells (C1.out.k.kept (w.heap.size, _) (List.mem_cons_of_mem _ List.mem_cons_self))
  rw [HEx.out] at dd6
  unfold aB at dd6
  have Ca := Lib.hid (C5.out.alloc (.cells #[.string aB] 9))
  obtain ⟨_, _, _, _, _, _, a6, _, _, _, _, _, _, _, _, _, _, _⟩ := evC_cells (Ca.out.k.kept (b, _) List.mem_cons_self)
  rw [HEx.out] at a6
  have y6 := frozen_of (Ca.out.k.kept (b, _) List.mem_cons_self) 6
  unfold aB at a6 y6
  by_cases h0 : e.ns.length = 0
  · have H0 := Lib.hid h0
    have h1 : ¬ (0 : Int) < (e.ns.length : Int) := by omega
    clear h0
    have Ca := Lib.hid (C5.out.alloc (.cells #[.string aB] 9))
    have CX : Hid (Cpy w b e ({ e with ns := [aB] }) vn vb vu vm (.slice (some ⟨W5.heap.size, 0, none⟩) 1 1) vb vu vm _) := Lib.hid (Ca.out.set 6 (.slice (some ⟨W5.heap.size, 0, none⟩) 1 1) rfl)
    have HCk : Hid (chkE ({ e with ns := [aB] }) = 110) := Lib.hid (by have h := chk3 HO.out; unfold turn3 at h; rw [if_pos H0.out] at h; exact h)
    generalize e.ns.length = nl at *
    go_upto_region 52 with fail
    refine fields_tail b ({ e with ns := [aB] }) (.slice (some ⟨W5.heap.size, 0, none⟩) 1 1) vb vu vm w _ (Lib.hid CX.out.k.below) (Lib.hid (HEn.out.on CX.out.k.below)) (Lib.hid (CX.out.k.kept (b, _) List.mem_cons_self)) (Lib.hid (by have hl := HLs.out.on CX.out.k.below; exact ⟨one_str (HNw.out _), hl.bs, hl.us, hl.ms, (fun a n c e => by cases e; exact Nat.le_refl _), hl.zf⟩)) HCk _ _ _ _ _ _ _ _ _ _ _ _ _ _ _ _ _ _ _ _ _ _ _ _ _ _ _ _ _ _ _ _ _ _ _ _ _ _ _ _ _ _ _ _ _ _ _ _ _ _ _ _ _ _ _ _ _ _ _ _ _ _ _ _ _ _ _ _ _ _ _ _ _ _ _ _ _ _ _ _ _ _ _ _ _ _ _ _ _ _ _ _ _ _ _ _ _ _ _ _ _ _ _ _ _ _ _ _ _ _ _ _ _ _ _ _ _ _ _ _ _ _ _ ?_
    intro a w1 h
    apply_assumption
    exact h
  · have H0 := Lib.hid h0
    have h1 : (0 : Int) < (e.ns.length : Int) := by omega
    clear h0
    have Ca := Lib.hid (C5.out.alloc (.cells #[.string aB] 9))
    have CX : Hid (Cpy w b e ({ e with ns := [] }) vn vb vu vm (.slice none 0 0) vb vu vm _) := Lib.hid ((Ca.out.set 6 (.slice (some ⟨W5.heap.size, 0, none⟩) 1 1) (y := { e with ns := [aB] }) (un := (.slice (some ⟨W5.heap.size, 0, none⟩) 1 1)) (ub := vb) (uu := vu) (um := vm) rfl).set 6 (.slice none 0 0) rfl)
    have HCk : Hid (chkE ({ e with ns := [] }) = 110) := Lib.hid (by have h := chk3 HO.out; unfold turn3 at h; rw [if_neg H0.out] at h; exact h)
    generalize e.ns.length = nl at *
    go_upto_region 52 with fail
    refine fields_tail b ({ e with ns := [] }) (.slice none 0 0) vb vu vm w _ (Lib.hid CX.out.k.below) (Lib.hid (HEn.out.on CX.out.k.below)) (Lib.hid (CX.out.k.kept (b, _) List.mem_cons_self)) (Lib.hid (by have hl := HLs.out.on CX.out.k.below; exact ⟨.inl ⟨rfl, none, 0, rfl⟩, hl.bs, hl.us, hl.ms, (fun a n c e => by cases e; exact Nat.le_refl _), hl.zf⟩)) HCk _ _ _ _ _ _ _ _ _ _ _ _ _ _ _ _ _ _ _ _ _ _ _ _ _ _ _ _ _ _ _ _ _ _ _ _ _ _ _ _ _ _ _ _ _ _ _ _ _ _ _ _ _ _ _ _ _ _ _ _ _ _ _ _ _ _ _ _ _ _ _ _ _ _ _ _ _ _ _ _ _ _ _ _ _ _ _ _ _ _ _ _ _ _ _ _ _ _ _ _ _ _ _ _ _ _ _ _ _ _ _ _ _ _ _ _ _ _ _ _ _ _ _ ?_
    intro a w1 h
    apply_assumption
    exact h
set_option maxHeartbeats 8000000 in
set_option maxRecDepth 20000 in
theorem fields_4 (e : PE) (vn vb vu vm : Value) (w : World) (he : Env3 w) (hL : Lst w e vn vb vu vm) (hs : smallB e = true) (hc : chkE e = 0) : Calls Tryz.prog 4 #[.agg (evC e vn vb vu vm), .int .i64 4] w fun r w' => r = .returned (.bool true) ∧ Below w.heap.size w w' := by
  obtain ⟨W1, hW1⟩ : ∃ W1, w.alloc (.cells (evC e vn vb vu vm) 35) = W1 := ⟨_, rfl⟩
  have h1 : W1.heap[w.heap.size]? = some (.cells (evC e vn vb vu vm) 35 (0, 0)) := by rw [← hW1]; exact heap_new _ _
  have hb1 : Below w.heap.size w W1 := by rw [← hW1]; exact below_box (Below.refl _ _) _
  have HEv : Hid (∀ Y, Below W1.heap.size W1 Y → Y.heap[w.heap.size]? = some (.cells (evC e vn vb vu vm) 35 (0, 0))) := Lib.hid (fun Y hY => by rw [hY.block _ (lt_of_heap h1)]; exact h1)
  have HW : Hid (∀ Y, Below W1.heap.size W1 Y → Below w.heap.size w Y) := Lib.hid (fun Y hY => hb1.trans (hY.mono hb1.size))
  have HSm : Hid (∀ Y, Below W1.heap.size W1 Y → Calls Tryz.prog 10 #[.agg (evC e vn vb vu vm)] Y fun r w' => r = .returned (.bool (smallB e)) ∧ Below Y.heap.size Y w') := Lib.hid (fun Y hY => smallE_any e vn vb vu vm Y (hL.on (HW.out Y hY)))
  have HKn : Hid (∀ Y, Below W1.heap.size W1 Y → Calls Tryz.prog 6 #[] Y fun r w' => r = .returned (.bool true) ∧ Below Y.heap.size Y w') := Lib.hid (fun Y hY => known_any Y ⟨(he.on (HW.out Y hY)).e, (he.on (HW.out Y hY)).f⟩)
  have HCh : Hid (∀ Y, Below W1.heap.size W1 Y → Calls Tryz.prog 11 #[.agg (evC e vn vb vu vm)] Y fun r w' => r = .returned (.int .i64 (chkE e)) ∧ Below Y.heap.size Y w') := Lib.hid (fun Y hY => CheckE e vn vb vu vm Y (he.on (HW.out Y hY)) (hL.on (HW.out Y hY)))
  have HB1 : Hid (Below W1.heap.size W1 W1) := Lib.hid (Below.refl _ _)
  have HEn := Lib.hid he
  have HLs := Lib.hid hL
  clear h1 hb1 he hL
  obtain ⟨kk, hO⟩ := chk_ok hc
  have HO := Lib.hid hO
  rw [hs] at HSm
  rw [hc] at HCh
  clear hs hc hO
  go_enter Tryz.func4, Tryz.ntmps4
  go_upto_region 1 with fail
  (try rw [hW1])
  clear hW1
  go_upto_region 8 with (first | (go_at_call 10; refine (HSm.out _ HB1.out).mono ?_; rintro r w2 ⟨rfl, hb⟩; have HB2 := Lib.hid (HB1.out.trans (hb.mono HB1.out.size)); clear hb) | (go_at_call 6; refine (HKn.out _ HB2.out).mono ?_; rintro r w3 ⟨rfl, hb⟩; have HB3 := Lib.hid (HB2.out.trans (hb.mono HB2.out.size)); clear hb) | (go_at_call 11; refine (HCh.out _ HB3.out).mono ?_; rintro r w4 ⟨rfl, hb⟩; have HB4 := Lib.hid (HB3.out.trans (hb.mono HB3.out.size)); clear hb) | (have hq := HB4; clear hq; refine wpList_load_row rfl 35 _ rfl w.heap.size rfl 35 _ (0, 0) _ (HEv.out _ HB4.out) Tryz.underlying35 rfl (Tryz.sizeEvC e vn vb vu vm) ?_) | (have hq := HB3; clear hq; refine wpList_load_row rfl 35 _ rfl w.heap.size rfl 35 _ (0, 0) _ (HEv.out _ HB3.out) Tryz.underlying35 rfl (Tryz.sizeEvC e vn vb vu vm) ?_) | (have hq := HB1; clear hq; refine wpList_load_row rfl 35 _ rfl w.heap.size rfl 35 _ (0, 0) _ (HEv.out _ HB1.out) Tryz.underlying35 rfl (Tryz.sizeEvC e vn vb vu vm) ?_) | (refine wpList_store_row rfl 35 _ _ rfl w4.heap.size (evC e vn vb vu vm) rfl rfl 35 _ (heap_new _ _) (Tryz.sizeEvC e vn vb vu vm) rfl HLs.out.shp.one ?_))
  obtain ⟨W5, hW5⟩ : ∃ W5, (w4.alloc (.cells ev0 35)).setRow w4.heap.size (evC e vn vb vu vm) = W5 := ⟨_, rfl⟩
  rw [hW5]
  have C5 : Hid (Cpy w w4.heap.size e e vn vb vu vm vn vb vu vm W5) := Lib.hid (by
    have h0 : KB w [(w.heap.size, Obj.cells (evC e vn vb vu vm) 35 (0, 0))] w4 := ⟨HW.out _ HB4.out, fun x hx => by
      rcases List.mem_cons.1 hx with rfl | hx
      · exact HEv.out _ HB4.out
      · cases hx⟩
    have h := h0.boxed ev0 35 (evC e vn vb vu vm)
    rw [hW5] at h
    exact ⟨h, h0.below.size, Nat.ne_of_lt (lt_of_heap (h0.kept _ List.mem_cons_self))⟩)
  have HT := Lib.hid (fun b x un ub uu um X HB HE HX HL HC => fields_tail b x un ub uu um w X HB HE HX HL HC)
  clear hW5 HSm HKn HCh HEv HB1 HB2 HB3 HB4
  generalize w4.heap.size = b at *
  obtain ⟨_, _, _, _, _, _, _, _, c8, _, _, _, _, _, _, _, _, _⟩ := evC_cells (C5.out.k.kept (b, _) List.mem_cons_self)
  obtain ⟨_, _, _, _, _, _, _, _, d8, _, _, _, _, _, _, _, _, _⟩ := evC_cells (C5.out.k.kept (w.heap.size, _) (List.mem_cons_of_mem _ List.mem_cons_self))
  have z8 := frozen_of (C5.out.k.kept (b, _) List.mem_cons_self) 8
  obtain ⟨ax, kx, ex⟩ := HLs.out.shp.u
  rw [ex] at c8 d8
  have HEx := Lib.hid ex
  clear ex
  have HNw : Hid (∀ v, ((W5.alloc (.cells #[.int .i64 7] 3)).setCell ⟨b, 8, none⟩ v).heap[W5.heap.size]? = some (.cells #[.int .i64 7] 3 (0, 0))) := Lib.hid (fun v => by rw [Below.heap_setCell _ _ _ _ (Nat.ne_of_gt (lt_of_heap (C5.out.k.kept (b, _) List.mem_cons_self)))]; exact heap_new _ _)
  have C1 : Hid (Cpy w b e { e with us := [7] } vn vb vu vm vn vb (.slice (some ⟨W5.heap.size, 0, none⟩) 1 1) vm ((W5.alloc (.cells #[.int .i64 7] 3)).setCell ⟨b, 8, none⟩ (.slice (some ⟨W5.heap.size, 0, none⟩) 1 1))) := Lib.hid ((C5.out.alloc (.cells #[.int .i64 7] 3)).set 8 (.slice (some ⟨W5.heap.size, 0, none⟩) 1 1) rfl)
  obtain ⟨_, _, _, _, _, _, _, _, dd8, _, _, _, _, _, _, _, _, _⟩ := evC_cells (C1.out.k.kept (w.heap.size, _) (List.mem_cons_of_mem _ List.mem_cons_self))
  rw [HEx.out] at dd8
  have Ca := Lib.hid (C5.out.alloc (.cells #[.int .i64 7] 3))
  obtain ⟨_, _, _, _, _, _, _, _, a8, _, _, _, _, _, _, _, _, _⟩ := evC_cells (Ca.out.k.kept (b, _) List.mem_cons_self)
  rw [HEx.out] at a8
  have y8 := frozen_of (Ca.out.k.kept (b, _) List.mem_cons_self) 8
  by_cases h0 : e.us.length = 0
  · have H0 := Lib.hid h0
    have h1 : ¬ (0 : Int) < (e.us.length : Int) := by omega
    clear h0
    have Ca := Lib.hid (C5.out.alloc (.cells #[.int .i64 7] 3))
    have CX : Hid (Cpy w b e ({ e with us := [7] }) vn vb vu vm vn vb (.slice (some ⟨W5.heap.size, 0, none⟩) 1 1) vm _) := Lib.hid (Ca.out.set 8 (.slice (some ⟨W5.heap.size, 0, none⟩) 1 1) rfl)
    have HCk : Hid (chkE ({ e with us := [7] }) = 110) := Lib.hid (by have h := chk4 HO.out; unfold turn4 at h; rw [if_pos H0.out] at h; exact h)
    generalize e.us.length = nl at *
    go_upto_region 52 with fail
    refine fields_tail b ({ e with us := [7] }) vn vb (.slice (some ⟨W5.heap.size, 0, none⟩) 1 1) vm w _ (Lib.hid CX.out.k.below) (Lib.hid (HEn.out.on CX.out.k.below)) (Lib.hid (CX.out.k.kept (b, _) List.mem_cons_self)) (Lib.hid (by have hl := HLs.out.on CX.out.k.below; exact ⟨hl.ns, hl.bs, one_int (HNw.out _), hl.ms, hl.cap, hl.zf⟩)) HCk _ _ _ _ _ _ _ _ _ _ _ _ _ _ _ _ _ _ _ _ _ _ _ _ _ _ _ _ _ _ _ _ _ _ _ _ _ _ _ _ _ _ _ _ _ _ _ _ _ _ _ _ _ _ _ _ _ _ _ _ _ _ _ _ _ _ _ _ _ _ _ _ _ _ _ _ _ _ _ _ _ _ _ _ _ _ _ _ _ _ _ _ _ _ _ _ _ _ _ _ _ _ _ _ _ _ _ _ _ _ _ _ _ _ _ _ _ _ _ _ _ _ _ ?_
    intro a w1 h
    apply_assumption
    exact h
  · have H0 := Lib.hid h0
    have h1 : (0 : Int) < (e.us.length : Int) := by omega
    clear h0
    have Ca := Lib.hid (C5.out.alloc (.cells #[.int .i64 7] 3))
    have CX : Hid (Cpy w b e ({ e with us := [] }) vn vb vu vm vn vb (.slice none 0 0) vm _) := Lib.hid ((Ca.out.set 8 (.slice (some ⟨W5.heap.size, 0, none⟩) 1 1) (y := { e with us := [7] }) (un := vn) (ub := vb) (uu := (.slice (some ⟨W5.heap.size, 0, none⟩) 1 1)) (um := vm) rfl).set 8 (.slice none 0 0) rfl)
    have HCk : Hid (chkE ({ e with us := [] }) = 110) := Lib.hid (by have h := chk4 HO.out; unfold turn4 at h; rw [if_neg H0.out] at h; exact h)
    generalize e.us.length = nl at *
    go_upto_region 52 with fail
    refine fields_tail b ({ e with us := [] }) vn vb (.slice none 0 0) vm w _ (Lib.hid CX.out.k.below) (Lib.hid (HEn.out.on CX.out.k.below)) (Lib.hid (CX.out.k.kept (b, _) List.mem_cons_self)) (Lib.hid (by have hl := HLs.out.on CX.out.k.below; exact ⟨hl.ns, hl.bs, .inl ⟨rfl, none, 0, rfl⟩, hl.ms, hl.cap, hl.zf⟩)) HCk _ _ _ _ _ _ _ _ _ _ _ _ _ _ _ _ _ _ _ _ _ _ _ _ _ _ _ _ _ _ _ _ _ _ _ _ _ _ _ _ _ _ _ _ _ _ _ _ _ _ _ _ _ _ _ _ _ _ _ _ _ _ _ _ _ _ _ _ _ _ _ _ _ _ _ _ _ _ _ _ _ _ _ _ _ _ _ _ _ _ _ _ _ _ _ _ _ _ _ _ _ _ _ _ _ _ _ _ _ _ _ _ _ _ _ _ _ _ _ _ _ _ _ ?_
    intro a w1 h
    apply_assumption
    exact h
end Go.Proofs.YtbncaiocmklgnaaGreatDoor

/- The statement EventFields: the ways of its switch (c11ygen.py). -/
namespace Go.Proofs.YtbncaiocmklgnaaGreatDoor
open Go.RowKit Go.Lib

set_option maxHeartbeats 8000000 in
set_option maxRecDepth 20000 in
theorem fields_5 (e : PE) (vn vb vu vm : Value) (w : World) (he : Env3 w) (hL : Lst w e vn vb vu vm) (hs : smallB e = true) (hc : chkE e = 0) : Calls Tryz.prog 4 #[.agg (evC e vn vb vu vm), .int .i64 5] w fun r w' => r = .returned (.bool true) ∧ Below w.heap.size w w' := by
  obtain ⟨W1, hW1⟩ : ∃ W1, w.alloc (.cells (evC e vn vb vu vm) 35) = W1 := ⟨_, rfl⟩
  have h1 : W1.heap[w.heap.size]? = some (.cells (evC e vn vb vu vm) 35 (0, 0)) := by rw [← hW1]; exact heap_new _ _
  have hb1 : Below w.heap.size w W1 := by rw [← hW1]; exact below_box (Below.refl _ _) _
  have HEv : Hid (∀ Y, Below W1.heap.size W1 Y → Y.heap[w.heap.size]? = some (.cells (evC e vn vb vu vm) 35 (0, 0))) := Lib.hid (fun Y hY => by rw [hY.block _ (lt_of_heap h1)]; exact h1)
  have HW : Hid (∀ Y, Below W1.heap.size W1 Y → Below w.heap.size w Y) := Lib.hid (fun Y hY => hb1.trans (hY.mono hb1.size))
  have HSm : Hid (∀ Y, Below W1.heap.size W1 Y → Calls Tryz.prog 10 #[.agg (evC e vn vb vu vm)] Y fun r w' => r = .returned (.bool (smallB e)) ∧ Below Y.heap.size Y w') := Lib.hid (fun Y hY => smallE_any e vn vb vu vm Y (hL.on (HW.out Y hY)))
  have HKn : Hid (∀ Y, Below W1.heap.size W1 Y → Calls Tryz.prog 6 #[] Y fun r w' => r = .returned (.bool true) ∧ Below Y.heap.size Y w') := Lib.hid (fun Y hY => known_any Y ⟨(he.on (HW.out Y hY)).e, (he.on (HW.out Y hY)).f⟩)
  have HCh : Hid (∀ Y, Below W1.heap.size W1 Y → Calls Tryz.prog 11 #[.agg (evC e vn vb vu vm)] Y fun r w' => r = .returned (.int .i64 (chkE e)) ∧ Below Y.heap.size Y w') := Lib.hid (fun Y hY => CheckE e vn vb vu vm Y (he.on (HW.out Y hY)) (hL.on (HW.out Y hY)))
  have HB1 : Hid (Below W1.heap.size W1 W1) := Lib.hid (Below.refl _ _)
  have HEn := Lib.hid he
  have HLs := Lib.hid hL
  clear h1 hb1 he hL
  obtain ⟨kk, hO⟩ := chk_ok hc
  have HO := Lib.hid hO
  rw [hs] at HSm
  rw [hc] at HCh
  clear hs hc hO
  go_enter Tryz.func4, Tryz.ntmps4
  go_upto_region 1 with fail
  (try rw [hW1])
  clear hW1
  go_upto_region 8 with (first | (go_at_call 10; refine (HSm.out _ HB1.out).mono ?_; rintro r w2 ⟨rfl, hb⟩; have HB2 := Lib.hid (HB1.out.trans (hb.mono HB1.out.size)); clear hb) | (go_at_call 6; refine (HKn.out _ HB2.out).mono ?_; rintro r w3 ⟨rfl, hb⟩; have HB3 := Lib.hid (HB2.out.trans (hb.mono HB2.out.size)); clear hb) | (go_at_call 11; refine (HCh.out _ HB3.out).mono ?_; rintro r w4 ⟨rfl, hb⟩; have HB4 := Lib.hid (HB3.out.trans (hb.mono HB3.out.size)); clear hb) | (have hq := HB4; clear hq; refine wpList_load_row rfl 35 _ rfl w.heap.size rfl 35 _ (0, 0) _ (HEv.out _ HB4.out) Tryz.underlying35 rfl (Tryz.sizeEvC e vn vb vu vm) ?_) | (have hq := HB3; clear hq; refine wpList_load_row rfl 35 _ rfl w.heap.size rfl 35 _ (0, 0) _ (HEv.out _ HB3.out) Tryz.underlying35 rfl (Tryz.sizeEvC e vn vb vu vm) ?_) | (have hq := HB1; clear hq; refine wpList_load_row rfl 35 _ rfl w.heap.size rfl 35 _ (0, 0) _ (HEv.out _ HB1.out) Tryz.underlying35 rfl (Tryz.sizeEvC e vn vb vu vm) ?_) | (refine wpList_store_row rfl 35 _ _ rfl w4.heap.size (evC e vn vb vu vm) rfl rfl 35 _ (heap_new _ _) (Tryz.sizeEvC e vn vb vu vm) rfl HLs.out.shp.one ?_))
  obtain ⟨W5, hW5⟩ : ∃ W5, (w4.alloc (.cells ev0 35)).setRow w4.heap.size (evC e vn vb vu vm) = W5 := ⟨_, rfl⟩
  rw [hW5]
  have C5 : Hid (Cpy w w4.heap.size e e vn vb vu vm vn vb vu vm W5) := Lib.hid (by
    have h0 : KB w [(w.heap.size, Obj.cells (evC e vn vb vu vm) 35 (0, 0))] w4 := ⟨HW.out _ HB4.out, fun x hx => by
      rcases List.mem_cons.1 hx with rfl | hx
      · exact HEv.out _ HB4.out
      · cases hx⟩
    have h := h0.boxed ev0 35 (evC e vn vb vu vm)
    rw [hW5] at h
    exact ⟨h, h0.below.size, Nat.ne_of_lt (lt_of_heap (h0.kept _ List.mem_cons_self))⟩)
  have HT := Lib.hid (fun b x un ub uu um X HB HE HX HL HC => fields_tail b x un ub uu um w X HB HE HX HL HC)
  clear hW5 HSm HKn HCh HEv HB1 HB2 HB3 HB4
  generalize w4.heap.size = b at *
  obtain ⟨_, _, _, _, _, _, _, _, _, c9, _, _, _, _, _, _, _, _⟩ := evC_cells (C5.out.k.kept (b, _) List.mem_cons_self)
  obtain ⟨_, _, _, _, _, _, _, _, _, d9, _, _, _, _, _, _, _, _⟩ := evC_cells (C5.out.k.kept (w.heap.size, _) (List.mem_cons_of_mem _ List.mem_cons_self))
  have z9 := frozen_of (C5.out.k.kept (b, _) List.mem_cons_self) 9
  obtain ⟨ax, kx, ex⟩ := HLs.out.shp.m
  rw [ex] at c9 d9
  have HEx := Lib.hid ex
  clear ex
  have HNw : Hid (∀ v, ((W5.alloc (.cells #[.int .i64 7, .slice none 0 0] 39)).setCell ⟨b, 9, none⟩ v).heap[W5.heap.size]? = some (.cells #[.int .i64 7, .slice none 0 0] 39 (0, 0))) := Lib.hid (fun v => by rw [Below.heap_setCell _ _ _ _ (Nat.ne_of_gt (lt_of_heap (C5.out.k.kept (b, _) List.mem_cons_self)))]; exact heap_new _ _)
  have C1 : Hid (Cpy w b e { e with ms := [(7, [])] } vn vb vu vm vn vb vu (.slice (some ⟨W5.heap.size, 0, none⟩) 1 1) ((W5.alloc (.cells #[.int .i64 7, .slice none 0 0] 39)).setCell ⟨b, 9, none⟩ (.slice (some ⟨W5.heap.size, 0, none⟩) 1 1))) := Lib.hid ((C5.out.alloc (.cells #[.int .i64 7, .slice none 0 0] 39)).set 9 (.slice (some ⟨W5.heap.size, 0, none⟩) 1 1) rfl)
  obtain ⟨_, _, _, _, _, _, _, _, _, dd9, _, _, _, _, _, _, _, _⟩ := evC_cells (C1.out.k.kept (w.heap.size, _) (List.mem_cons_of_mem _ List.mem_cons_self))
  rw [HEx.out] at dd9
  have Ca := Lib.hid (C5.out.alloc (.cells #[.int .i64 7, .slice none 0 0] 39))
  obtain ⟨_, _, _, _, _, _, _, _, _, a9, _, _, _, _, _, _, _, _⟩ := evC_cells (Ca.out.k.kept (b, _) List.mem_cons_self)
  rw [HEx.out] at a9
  have y9 := frozen_of (Ca.out.k.kept (b, _) List.mem_cons_self) 9
  by_cases h0 : e.ms.length = 0
  · have H0 := Lib.hid h0
    have h1 : ¬ (0 : Int) < (e.ms.length : Int) := by omega
    clear h0
    have Ca := Lib.hid (C5.out.alloc (.cells #[.int .i64 7, .slice none 0 0] 39))
    have CX : Hid (Cpy w b e ({ e with ms := [(7, [])] }) vn vb vu vm vn vb vu (.slice (some ⟨W5.heap.size, 0, none⟩) 1 1) _) := Lib.hid (Ca.out.set 9 (.slice (some ⟨W5.heap.size, 0, none⟩) 1 1) rfl)
    have HCk : Hid (chkE ({ e with ms := [(7, [])] }) = 110) := Lib.hid (by have h := chk5 HO.out; unfold turn5 at h; rw [if_pos H0.out] at h; exact h)
    generalize e.ms.length = nl at *
    go_upto_region 52 with fail
    refine fields_tail b ({ e with ms := [(7, [])] }) vn vb vu (.slice (some ⟨W5.heap.size, 0, none⟩) 1 1) w _ (Lib.hid CX.out.k.below) (Lib.hid (HEn.out.on CX.out.k.below)) (Lib.hid (CX.out.k.kept (b, _) List.mem_cons_self)) (Lib.hid (by have hl := HLs.out.on CX.out.k.below; exact ⟨hl.ns, hl.bs, hl.us, one_mark (HNw.out _), hl.cap, (fun m hm f hf => by first | (cases hm; done) | (rcases List.mem_cons.1 hm with rfl | hm <;> first | (cases hf; done) | (cases hm; done)))⟩)) HCk _ _ _ _ _ _ _ _ _ _ _ _ _ _ _ _ _ _ _ _ _ _ _ _ _ _ _ _ _ _ _ _ _ _ _ _ _ _ _ _ _ _ _ _ _ _ _ _ _ _ _ _ _ _ _ _ _ _ _ _ _ _ _ _ _ _ _ _ _ _ _ _ _ _ _ _ _ _ _ _ _ _ _ _ _ _ _ _ _ _ _ _ _ _ _ _ _ _ _ _ _ _ _ _ _ _ _ _ _ _ _ _ _ _ _ _ _ _ _ _ _ _ _ ?_
    intro a w1 h
    apply_assumption
    exact h
  · have H0 := Lib.hid h0
    have h1 : (0 : Int) < (e.ms.length : Int) := by omega
    clear h0
    have Ca := Lib.hid (C5.out.alloc (.cells #[.int .i64 7, .slice none 0 0] 39))
    have CX : Hid (Cpy w b e ({ e with ms := [] }) vn vb vu vm vn vb vu (.slice none 0 0) _) := Lib.hid ((Ca.out.set 9 (.slice (some ⟨W5.heap.size, 0, none⟩) 1 1) (y := { e with ms := [(7, [])] }) (un := vn) (ub := vb) (uu := vu) (um := (.slice (some ⟨W5.heap.size, 0, none⟩) 1 1)) rfl).set 9 (.slice none 0 0) rfl)
    have HCk : Hid (chkE ({ e with ms := [] }) = 110) := Lib.hid (by have h := chk5 HO.out; unfold turn5 at h; rw [if_neg H0.out] at h; exact h)
    generalize e.ms.length = nl at *
    go_upto_region 52 with fail
    refine fields_tail b ({ e with ms := [] }) vn vb vu (.slice none 0 0) w _ (Lib.hid CX.out.k.below) (Lib.hid (HEn.out.on CX.out.k.below)) (Lib.hid (CX.out.k.kept (b, _) List.mem_cons_self)) (Lib.hid (by have hl := HLs.out.on CX.out.k.below; exact ⟨hl.ns, hl.bs, hl.us, .inl ⟨rfl, none, 0, rfl⟩, hl.cap, (fun m hm f hf => by first | (cases hm; done) | (rcases List.mem_cons.1 hm with rfl | hm <;> first | (cases hf; done) | (cases hm; done)))⟩)) HCk _ _ _ _ _ _ _ _ _ _ _ _ _ _ _ _ _ _ _ _ _ _ _ _ _ _ _ _ _ _ _ _ _ _ _ _ _ _ _ _ _ _ _ _ _ _ _ _ _ _ _ _ _ _ _ _ _ _ _ _ _ _ _ _ _ _ _ _ _ _ _ _ _ _ _ _ _ _ _ _ _ _ _ _ _ _ _ _ _ _ _ _ _ _ _ _ _ _ _ _ _ _ _ _ _ _ _ _ _ _ _ _ _ _ _ _ _ _ _ _ _ _ _ ?_
    intro a w1 h
    apply_assumption
    exact h
set_option maxHeartbeats 8000000 in
set_option maxRecDepth 20000 in
theorem fields_9 (e : PE) (vn vb vu vm : Value) (w : World) (he : Env3 w) (hL : Lst w e vn vb vu vm) (hs : smallB e = true) (hc : chkE e = 0) : Calls Tryz.prog 4 #[.agg (evC e vn vb vu vm), .int .i64 9] w fun r w' => r = .returned (.bool true) ∧ Below w.heap.size w w' := by
  obtain ⟨W1, hW1⟩ : ∃ W1, w.alloc (.cells (evC e vn vb vu vm) 35) = W1 := ⟨_, rfl⟩
  have h1 : W1.heap[w.heap.size]? = some (.cells (evC e vn vb vu vm) 35 (0, 0)) := by rw [← hW1]; exact heap_new _ _
  have hb1 : Below w.heap.size w W1 := by rw [← hW1]; exact below_box (Below.refl _ _) _
  have HEv : Hid (∀ Y, Below W1.heap.size W1 Y → Y.heap[w.heap.size]? = some (.cells (evC e vn vb vu vm) 35 (0, 0))) := Lib.hid (fun Y hY => by rw [hY.block _ (lt_of_heap h1)]; exact h1)
  have HW : Hid (∀ Y, Below W1.heap.size W1 Y → Below w.heap.size w Y) := Lib.hid (fun Y hY => hb1.trans (hY.mono hb1.size))
  have HSm : Hid (∀ Y, Below W1.heap.size W1 Y → Calls Tryz.prog 10 #[.agg (evC e vn vb vu vm)] Y fun r w' => r = .returned (.bool (smallB e)) ∧ Below Y.heap.size Y w') := Lib.hid (fun Y hY => smallE_any e vn vb vu vm Y (hL.on (HW.out Y hY)))
  have HKn : Hid (∀ Y, Below W1.heap.size W1 Y → Calls Tryz.prog 6 #[] Y fun r w' => r = .returned (.bool true) ∧ Below Y.heap.size Y w') := Lib.hid (fun Y hY => known_any Y ⟨(he.on (HW.out Y hY)).e, (he.on (HW.out Y hY)).f⟩)
  have HCh : Hid (∀ Y, Below W1.heap.size W1 Y → Calls Tryz.prog 11 #[.agg (evC e vn vb vu vm)] Y fun r w' => r = .returned (.int .i64 (chkE e)) ∧ Below Y.heap.size Y w') := Lib.hid (fun Y hY => CheckE e vn vb vu vm Y (he.on (HW.out Y hY)) (hL.on (HW.out Y hY)))
  have HB1 : Hid (Below W1.heap.size W1 W1) := Lib.hid (Below.refl _ _)
  have HEn := Lib.hid he
  have HLs := Lib.hid hL
  clear h1 hb1 he hL
  obtain ⟨kk, hO⟩ := chk_ok hc
  have HO := Lib.hid hO
  rw [hs] at HSm
  rw [hc] at HCh
  clear hs hc hO
  go_enter Tryz.func4, Tryz.ntmps4
  go_upto_region 1 with fail
  (try rw [hW1])
  clear hW1
  go_upto_region 8 with (first | (go_at_call 10; refine (HSm.out _ HB1.out).mono ?_; rintro r w2 ⟨rfl, hb⟩; have HB2 := Lib.hid (HB1.out.trans (hb.mono HB1.out.size)); clear hb) | (go_at_call 6; refine (HKn.out _ HB2.out).mono ?_; rintro r w3 ⟨rfl, hb⟩; have HB3 := Lib.hid (HB2.out.trans (hb.mono HB2.out.size)); clear hb) | (go_at_call 11; refine (HCh.out _ HB3.out).mono ?_; rintro r w4 ⟨rfl, hb⟩; have HB4 := Lib.hid (HB3.out.trans (hb.mono HB3.out.size)); clear hb) | (have hq := HB4; clear hq; refine wpList_load_row rfl 35 _ rfl w.heap.size rfl 35 _ (0, 0) _ (HEv.out _ HB4.out) Tryz.underlying35 rfl (Tryz.sizeEvC e vn vb vu vm) ?_) | (have hq := HB3; clear hq; refine wpList_load_row rfl 35 _ rfl w.heap.size rfl 35 _ (0, 0) _ (HEv.out _ HB3.out) Tryz.underlying35 rfl (Tryz.sizeEvC e vn vb vu vm) ?_) | (have hq := HB1; clear hq; refine wpList_load_row rfl 35 _ rfl w.heap.size rfl 35 _ (0, 0) _ (HEv.out _ HB1.out) Tryz.underlying35 rfl (Tryz.sizeEvC e vn vb vu vm) ?_) | (refine wpList_store_row rfl 35 _ _ rfl w4.heap.size (evC e vn vb vu vm) rfl rfl 35 _ (heap_new _ _) (Tryz.sizeEvC e vn vb vu vm) rfl HLs.out.shp.one ?_))
  obtain ⟨W5, hW5⟩ : ∃ W5, (w4.alloc (.cells ev0 35)).setRow w4.heap.size (evC e vn vb vu vm) = W5 := ⟨_, rfl⟩
  rw [hW5]
  have C5 : Hid (Cpy w w4.heap.size e e vn vb vu vm vn vb vu vm W5) := Lib.hid (by
    have h0 : KB w [(w.heap.size, Obj.cells (evC e vn vb vu vm) 35 (0, 0))] w4 := ⟨HW.out _ HB4.out, fun x hx => by
      rcases List.mem_cons.1 hx with rfl | hx
      · exact HEv.out _ HB4.out
      · cases hx⟩
    have h := h0.boxed ev0 35 (evC e vn vb vu vm)
    rw [hW5] at h
    exact ⟨h, h0.below.size, Nat.ne_of_lt (lt_of_heap (h0.kept _ List.mem_cons_self))⟩)
  have HT := Lib.hid (fun b x un ub uu um X HB HE HX HL HC => fields_tail b x un ub uu um w X HB HE HX HL HC)
  clear hW5 HSm HKn HCh HEv HB1 HB2 HB3 HB4
  generalize w4.heap.size = b at *
  obtain ⟨_, _, _, _, _, _, _, c7, _, _, _, _, _, _, _, _, _, _⟩ := evC_cells (C5.out.k.kept (b, _) List.mem_cons_self)
  obtain ⟨_, _, _, _, _, _, _, d7, _, _, _, _, _, _, _, _, _, _⟩ := evC_cells (C5.out.k.kept (w.heap.size, _) (List.mem_cons_of_mem _ List.mem_cons_self))
  have z7 := frozen_of (C5.out.k.kept (b, _) List.mem_cons_self) 7
  obtain ⟨ax, kx, ex⟩ := HLs.out.shp.b
  rw [ex] at c7 d7
  have HEx := Lib.hid ex
  clear ex
  have HNw : Hid (∀ v, ((W5.alloc (.cells #[.int .i64 7] 3)).setCell ⟨b, 7, none⟩ v).heap[W5.heap.size]? = some (.cells #[.int .i64 7] 3 (0, 0))) := Lib.hid (fun v => by rw [Below.heap_setCell _ _ _ _ (Nat.ne_of_gt (lt_of_heap (C5.out.k.kept (b, _) List.mem_cons_self)))]; exact heap_new _ _)
  have C1 : Hid (Cpy w b e { e with bs := [7] } vn vb vu vm vn (.slice (some ⟨W5.heap.size, 0, none⟩) 1 1) vu vm ((W5.alloc (.cells #[.int .i64 7] 3)).setCell ⟨b, 7, none⟩ (.slice (some ⟨W5.heap.size, 0, none⟩) 1 1))) := Lib.hid ((C5.out.alloc (.cells #[.int .i64 7] 3)).set 7 (.slice (some ⟨W5.heap.size, 0, none⟩) 1 1) rfl)
  obtain ⟨_, _, _, _, _, _, _, dd7, _, _, _, _, _, _, _, _, _, _⟩ := evC_cells (C1.out.k.kept (w.heap.size, _) (List.mem_cons_of_mem _ List.mem_cons_self))
  rw [HEx.out] at dd7
  have Ca := Lib.hid (C5.out.alloc (.cells #[.int .i64 7] 3))
  obtain ⟨_, _, _, _, _, _, _, a7, _, _, _, _, _, _, _, _, _, _⟩ := evC_cells (Ca.out.k.kept (b, _) List.mem_cons_self)
  rw [HEx.out] at a7
  have y7 := frozen_of (Ca.out.k.kept (b, _) List.mem_cons_self) 7
  by_cases h0 : e.bs.length = 0
  · have H0 := Lib.hid h0
    have h1 : ¬ (0 : Int) < (e.bs.length : Int) := by omega
    clear h0
    have Ca := Lib.hid (C5.out.alloc (.cells #[.int .i64 7] 3))
    have CX : Hid (Cpy w b e ({ e with bs := [7] }) vn vb vu vm vn (.slice (some ⟨W5.heap.size, 0, none⟩) 1 1) vu vm _) := Lib.hid (Ca.out.set 7 (.slice (some ⟨W5.heap.size, 0, none⟩) 1 1) rfl)
    have HCk : Hid (chkE ({ e with bs := [7] }) = 110) := Lib.hid (by have h := chk9 HO.out; unfold turn9 at h; rw [if_pos H0.out] at h; exact h)
    generalize e.bs.length = nl at *
    go_upto_region 52 with fail
    refine fields_tail b ({ e with bs := [7] }) vn (.slice (some ⟨W5.heap.size, 0, none⟩) 1 1) vu vm w _ (Lib.hid CX.out.k.below) (Lib.hid (HEn.out.on CX.out.k.below)) (Lib.hid (CX.out.k.kept (b, _) List.mem_cons_self)) (Lib.hid (by have hl := HLs.out.on CX.out.k.below; exact ⟨hl.ns, one_int (HNw.out _), hl.us, hl.ms, hl.cap, hl.zf⟩)) HCk _ _ _ _ _ _ _ _ _ _ _ _ _ _ _ _ _ _ _ _ _ _ _ _ _ _ _ _ _ _ _ _ _ _ _ _ _ _ _ _ _ _ _ _ _ _ _ _ _ _ _ _ _ _ _ _ _ _ _ _ _ _ _ _ _ _ _ _ _ _ _ _ _ _ _ _ _ _ _ _ _ _ _ _ _ _ _ _ _ _ _ _ _ _ _ _ _ _ _ _ _ _ _ _ _ _ _ _ _ _ _ _ _ _ _ _ _ _ _ _ _ _ _ ?_
    intro a w1 h
    apply_assumption
    exact h
  · have H0 := Lib.hid h0
    have h1 : (0 : Int) < (e.bs.length : Int) := by omega
    clear h0
    have Ca := Lib.hid (C5.out.alloc (.cells #[.int .i64 7] 3))
    have CX : Hid (Cpy w b e ({ e with bs := [] }) vn vb vu vm vn (.slice none 0 0) vu vm _) := Lib.hid ((Ca.out.set 7 (.slice (some ⟨W5.heap.size, 0, none⟩) 1 1) (y := { e with bs := [7] }) (un := vn) (ub := (.slice (some ⟨W5.heap.size, 0, none⟩) 1 1)) (uu := vu) (um := vm) rfl).set 7 (.slice none 0 0) rfl)
    have HCk : Hid (chkE ({ e with bs := [] }) = 110) := Lib.hid (by have h := chk9 HO.out; unfold turn9 at h; rw [if_neg H0.out] at h; exact h)
    generalize e.bs.length = nl at *
    go_upto_region 52 with fail
    refine fields_tail b ({ e with bs := [] }) vn (.slice none 0 0) vu vm w _ (Lib.hid CX.out.k.below) (Lib.hid (HEn.out.on CX.out.k.below)) (Lib.hid (CX.out.k.kept (b, _) List.mem_cons_self)) (Lib.hid (by have hl := HLs.out.on CX.out.k.below; exact ⟨hl.ns, .inl ⟨rfl, none, 0, rfl⟩, hl.us, hl.ms, hl.cap, hl.zf⟩)) HCk _ _ _ _ _ _ _ _ _ _ _ _ _ _ _ _ _ _ _ _ _ _ _ _ _ _ _ _ _ _ _ _ _ _ _ _ _ _ _ _ _ _ _ _ _ _ _ _ _ _ _ _ _ _ _ _ _ _ _ _ _ _ _ _ _ _ _ _ _ _ _ _ _ _ _ _ _ _ _ _ _ _ _ _ _ _ _ _ _ _ _ _ _ _ _ _ _ _ _ _ _ _ _ _ _ _ _ _ _ _ _ _ _ _ _ _ _ _ _ _ _ _ _ ?_
    intro a w1 h
    apply_assumption
    exact h
end Go.Proofs.YtbncaiocmklgnaaGreatDoor

/- The statement EventFields: the ways of its switch (c11ygen.py). -/
namespace Go.Proofs.YtbncaiocmklgnaaGreatDoor
open Go.RowKit Go.Lib

theorem Cpy.date {w : World} {b : Nat} {e x : PE} {vn vb vu vm vn' vb' vu' vm' : Value} {X : World} (h : Cpy w b e x vn vb vu vm vn' vb' vu' vm' X) (a0 a1 a2 a3 a4 a5 a6 : Int) : Cpy w b e { x with y := a0, mo := a1, d := a2, h := a3, mi := a4, s := a5, z := a6 } vn vb vu vm vn' vb' vu' vm' (X.setCells b 10 [.int .i64 a0, .int .i64 a1, .int .i64 a2, .int .i64 a3, .int .i64 a4, .int .i64 a5, .int .i64 a6]) := by
  have h0 := h.set 10 (.int .i64 a0) (y := { x with y := a0 }) (un := vn') (ub := vb') (uu := vu') (um := vm') rfl
  have h1 := h0.set 11 (.int .i64 a1) (y := { x with y := a0, mo := a1 }) (un := vn') (ub := vb') (uu := vu') (um := vm') rfl
  have h2 := h1.set 12 (.int .i64 a2) (y := { x with y := a0, mo := a1, d := a2 }) (un := vn') (ub := vb') (uu := vu') (um := vm') rfl
  have h3 := h2.set 13 (.int .i64 a3) (y := { x with y := a0, mo := a1, d := a2, h := a3 }) (un := vn') (ub := vb') (uu := vu') (um := vm') rfl
  have h4 := h3.set 14 (.int .i64 a4) (y := { x with y := a0, mo := a1, d := a2, h := a3, mi := a4 }) (un := vn') (ub := vb') (uu := vu') (um := vm') rfl
  have h5 := h4.set 15 (.int .i64 a5) (y := { x with y := a0, mo := a1, d := a2, h := a3, mi := a4, s := a5 }) (un := vn') (ub := vb') (uu := vu') (um := vm') rfl
  have h6 := h5.set 16 (.int .i64 a6) (y := { x with y := a0, mo := a1, d := a2, h := a3, mi := a4, s := a5, z := a6 }) (un := vn') (ub := vb') (uu := vu') (um := vm') rfl
  exact h6
set_option maxHeartbeats 8000000 in
set_option maxRecDepth 20000 in
theorem fields_6 (e : PE) (vn vb vu vm : Value) (w : World) (he : Env3 w) (hL : Lst w e vn vb vu vm) (hs : smallB e = true) (hc : chkE e = 0) : Calls Tryz.prog 4 #[.agg (evC e vn vb vu vm), .int .i64 6] w fun r w' => r = .returned (.bool true) ∧ Below w.heap.size w w' := by
  obtain ⟨W1, hW1⟩ : ∃ W1, w.alloc (.cells (evC e vn vb vu vm) 35) = W1 := ⟨_, rfl⟩
  have h1 : W1.heap[w.heap.size]? = some (.cells (evC e vn vb vu vm) 35 (0, 0)) := by rw [← hW1]; exact heap_new _ _
  have hb1 : Below w.heap.size w W1 := by rw [← hW1]; exact below_box (Below.refl _ _) _
  have HEv : Hid (∀ Y, Below W1.heap.size W1 Y → Y.heap[w.heap.size]? = some (.cells (evC e vn vb vu vm) 35 (0, 0))) := Lib.hid (fun Y hY => by rw [hY.block _ (lt_of_heap h1)]; exact h1)
  have HW : Hid (∀ Y, Below W1.heap.size W1 Y → Below w.heap.size w Y) := Lib.hid (fun Y hY => hb1.trans (hY.mono hb1.size))
  have HSm : Hid (∀ Y, Below W1.heap.size W1 Y → Calls Tryz.prog 10 #[.agg (evC e vn vb vu vm)] Y fun r w' => r = .returned (.bool (smallB e)) ∧ Below Y.heap.size Y w') := Lib.hid (fun Y hY => smallE_any e vn vb vu vm Y (hL.on (HW.out Y hY)))
  have HKn : Hid (∀ Y, Below W1.heap.size W1 Y → Calls Tryz.prog 6 #[] Y fun r w' => r = .returned (.bool true) ∧ Below Y.heap.size Y w') := Lib.hid (fun Y hY => known_any Y ⟨(he.on (HW.out Y hY)).e, (he.on (HW.out Y hY)).f⟩)
  have HCh : Hid (∀ Y, Below W1.heap.size W1 Y → Calls Tryz.prog 11 #[.agg (evC e vn vb vu vm)] Y fun r w' => r = .returned (.int .i64 (chkE e)) ∧ Below Y.heap.size Y w') := Lib.hid (fun Y hY => CheckE e vn vb vu vm Y (he.on (HW.out Y hY)) (hL.on (HW.out Y hY)))
  have HB1 : Hid (Below W1.heap.size W1 W1) := Lib.hid (Below.refl _ _)
  have HEn := Lib.hid he
  have HLs := Lib.hid hL
  clear h1 hb1 he hL
  obtain ⟨kk, hO⟩ := chk_ok hc
  have HO := Lib.hid hO
  rw [hs] at HSm
  rw [hc] at HCh
  clear hs hc hO
  go_enter Tryz.func4, Tryz.ntmps4
  go_upto_region 1 with fail
  (try rw [hW1])
  clear hW1
  go_upto_region 8 with (first | (go_at_call 10; refine (HSm.out _ HB1.out).mono ?_; rintro r w2 ⟨rfl, hb⟩; have HB2 := Lib.hid (HB1.out.trans (hb.mono HB1.out.size)); clear hb) | (go_at_call 6; refine (HKn.out _ HB2.out).mono ?_; rintro r w3 ⟨rfl, hb⟩; have HB3 := Lib.hid (HB2.out.trans (hb.mono HB2.out.size)); clear hb) | (go_at_call 11; refine (HCh.out _ HB3.out).mono ?_; rintro r w4 ⟨rfl, hb⟩; have HB4 := Lib.hid (HB3.out.trans (hb.mono HB3.out.size)); clear hb) | (have hq := HB4; clear hq; refine wpList_load_row rfl 35 _ rfl w.heap.size rfl 35 _ (0, 0) _ (HEv.out _ HB4.out) Tryz.underlying35 rfl (Tryz.sizeEvC e vn vb vu vm) ?_) | (have hq := HB3; clear hq; refine wpList_load_row rfl 35 _ rfl w.heap.size rfl 35 _ (0, 0) _ (HEv.out _ HB3.out) Tryz.underlying35 rfl (Tryz.sizeEvC e vn vb vu vm) ?_) | (have hq := HB1; clear hq; refine wpList_load_row rfl 35 _ rfl w.heap.size rfl 35 _ (0, 0) _ (HEv.out _ HB1.out) Tryz.underlying35 rfl (Tryz.sizeEvC e vn vb vu vm) ?_) | (refine wpList_store_row rfl 35 _ _ rfl w4.heap.size (evC e vn vb vu vm) rfl rfl 35 _ (heap_new _ _) (Tryz.sizeEvC e vn vb vu vm) rfl HLs.out.shp.one ?_))
  obtain ⟨W5, hW5⟩ : ∃ W5, (w4.alloc (.cells ev0 35)).setRow w4.heap.size (evC e vn vb vu vm) = W5 := ⟨_, rfl⟩
  rw [hW5]
  have C5 : Hid (Cpy w w4.heap.size e e vn vb vu vm vn vb vu vm W5) := Lib.hid (by
    have h0 : KB w [(w.heap.size, Obj.cells (evC e vn vb vu vm) 35 (0, 0))] w4 := ⟨HW.out _ HB4.out, fun x hx => by
      rcases List.mem_cons.1 hx with rfl | hx
      · exact HEv.out _ HB4.out
      · cases hx⟩
    have h := h0.boxed ev0 35 (evC e vn vb vu vm)
    rw [hW5] at h
    exact ⟨h, h0.below.size, Nat.ne_of_lt (lt_of_heap (h0.kept _ List.mem_cons_self))⟩)
  have HT := Lib.hid (fun b x un ub uu um X HB HE HX HL HC => fields_tail b x un ub uu um w X HB HE HX HL HC)
  clear hW5 HSm HKn HCh HEv HB1 HB2 HB3 HB4
  generalize w4.heap.size = b at *
  obtain ⟨_, _, _, _, _, _, _, _, _, _, c10, _, _, _, _, _, _, _⟩ := evC_cells (C5.out.k.kept (b, _) List.mem_cons_self)
  obtain ⟨_, _, _, _, _, _, _, _, _, _, d10, _, _, _, _, _, _, _⟩ := evC_cells (C5.out.k.kept (w.heap.size, _) (List.mem_cons_of_mem _ List.mem_cons_self))
  have z10 := frozen_of (C5.out.k.kept (b, _) List.mem_cons_self) 10
  have HT1 : Hid (W5.there b 10 7) := Lib.hid (fun j hj => ⟨(date_range (C5.out.k.kept (b, _) List.mem_cons_self)).isSome j hj, frozen_of (C5.out.k.kept (b, _) List.mem_cons_self) _⟩)
  have C6 := Lib.hid (C5.out.date 2026 1 1 0 0 0 0)
  obtain ⟨W6, hW6⟩ : ∃ W6, W5.setCells b 10 [.int .i64 2026, .int .i64 1, .int .i64 1, .int .i64 0, .int .i64 0, .int .i64 0, .int .i64 0] = W6 := ⟨_, rfl⟩
  rw [hW6] at C6
  have HW6 := Lib.hid hW6
  clear hW6
  have HT2 : Hid (W6.there b 10 7) := Lib.hid (fun j hj => ⟨(date_range (C6.out.k.kept (b, _) List.mem_cons_self)).isSome j hj, frozen_of (C6.out.k.kept (b, _) List.mem_cons_self) _⟩)
  obtain ⟨_, _, _, _, _, _, _, _, _, _, dd10, _, _, _, _, _, _, _⟩ := evC_cells (C6.out.k.kept (w.heap.size, _) (List.mem_cons_of_mem _ List.mem_cons_self))
  by_cases h0 : e.y = 0
  · have q0 : (e.y == 0) = true := beq_iff_eq.2 h0
    have q1 : (e.y != 0) = false := by rw [bne, q0]; rfl
    have H0 := Lib.hid h0
    clear h0
    have CX : Hid (Cpy w b e ({ e with y := 2026, mo := 1, d := 1, h := 0, mi := 0, s := 0, z := 0 }) vn vb vu vm vn vb vu vm _) := Lib.hid (C6.out)
    have HCk : Hid (chkE ({ e with y := 2026, mo := 1, d := 1, h := 0, mi := 0, s := 0, z := 0 }) = 110) := Lib.hid (by have h := chk6 HO.out; unfold turn6 at h; simp only [if_pos H0.out] at h; exact h)
    go_upto_region 52 with (refine wpList_store_mid rfl 33 _ _ rfl b 10 _ rfl rfl HT1.out Tryz.sizeMom7 (by simp [Value.oneCell']) ?_; refine (congrArg (wpList _ _ _ _ _) HW6.out).mpr ?_)
    refine fields_tail b ({ e with y := 2026, mo := 1, d := 1, h := 0, mi := 0, s := 0, z := 0 }) vn vb vu vm w _ (Lib.hid CX.out.k.below) (Lib.hid (HEn.out.on CX.out.k.below)) (Lib.hid (CX.out.k.kept (b, _) List.mem_cons_self)) (Lib.hid (by have hl := HLs.out.on CX.out.k.below; exact ⟨hl.ns, hl.bs, hl.us, hl.ms, hl.cap, hl.zf⟩)) HCk _ _ _ _ _ _ _ _ _ _ _ _ _ _ _ _ _ _ _ _ _ _ _ _ _ _ _ _ _ _ _ _ _ _ _ _ _ _ _ _ _ _ _ _ _ _ _ _ _ _ _ _ _ _ _ _ _ _ _ _ _ _ _ _ _ _ _ _ _ _ _ _ _ _ _ _ _ _ _ _ _ _ _ _ _ _ _ _ _ _ _ _ _ _ _ _ _ _ _ _ _ _ _ _ _ _ _ _ _ _ _ _ _ _ _ _ _ _ _ _ _ _ _ ?_
    intro a w1 h
    apply_assumption
    exact h
  · have q0 : (e.y == 0) = false := beq_eq_false_iff_ne.2 h0
    have q1 : (e.y != 0) = true := by rw [bne, q0]; rfl
    have H0 := Lib.hid h0
    clear h0
    have C7 := Lib.hid (C6.out.date 0 0 0 0 0 0 0)
    obtain ⟨W7, hW7⟩ : ∃ W7, W6.setCells b 10 [.int .i64 0, .int .i64 0, .int .i64 0, .int .i64 0, .int .i64 0, .int .i64 0, .int .i64 0] = W7 := ⟨_, rfl⟩
    rw [hW7] at C7
    have HW7 := Lib.hid hW7
    clear hW7
    have CX : Hid (Cpy w b e ({ e with y := 0, mo := 0, d := 0, h := 0, mi := 0, s := 0, z := 0 }) vn vb vu vm vn vb vu vm _) := Lib.hid (C7.out)
    have HCk : Hid (chkE ({ e with y := 0, mo := 0, d := 0, h := 0, mi := 0, s := 0, z := 0 }) = 110) := Lib.hid (by have h := chk6 HO.out; unfold turn6 at h; simp only [if_neg H0.out] at h; exact h)
    go_upto_region 52 with (first | (refine wpList_store_mid rfl 33 _ _ rfl b 10 _ rfl rfl HT1.out Tryz.sizeMom7 (by simp [Value.oneCell']) ?_; refine (congrArg (wpList _ _ _ _ _) HW6.out).mpr ?_) | (refine wpList_store_mid rfl 33 _ _ rfl b 10 _ rfl rfl HT2.out Tryz.sizeMom7 (by simp [Value.oneCell']) ?_; refine (congrArg (wpList _ _ _ _ _) HW7.out).mpr ?_))
    refine fields_tail b ({ e with y := 0, mo := 0, d := 0, h := 0, mi := 0, s := 0, z := 0 }) vn vb vu vm w _ (Lib.hid CX.out.k.below) (Lib.hid (HEn.out.on CX.out.k.below)) (Lib.hid (CX.out.k.kept (b, _) List.mem_cons_self)) (Lib.hid (by have hl := HLs.out.on CX.out.k.below; exact ⟨hl.ns, hl.bs, hl.us, hl.ms, hl.cap, hl.zf⟩)) HCk _ _ _ _ _ _ _ _ _ _ _ _ _ _ _ _ _ _ _ _ _ _ _ _ _ _ _ _ _ _ _ _ _ _ _ _ _ _ _ _ _ _ _ _ _ _ _ _ _ _ _ _ _ _ _ _ _ _ _ _ _ _ _ _ _ _ _ _ _ _ _ _ _ _ _ _ _ _ _ _ _ _ _ _ _ _ _ _ _ _ _ _ _ _ _ _ _ _ _ _ _ _ _ _ _ _ _ _ _ _ _ _ _ _ _ _ _ _ _ _ _ _ _ ?_
    intro a w1 h
    apply_assumption
    exact h
end Go.Proofs.YtbncaiocmklgnaaGreatDoor

/- The statement EventFields: its walk in one (c11ygen.py). -/
namespace Go.Proofs.YtbncaiocmklgnaaGreatDoor
open Go.RowKit Go.Lib

set_option maxHeartbeats 4000000 in
set_option maxRecDepth 20000 in
theorem fields_none (e : PE) (vn vb vu vm : Value) (sw : Int) (w : World) (he : Env3 w) (hL : Lst w e vn vb vu vm) (hs : smallB e = true) (hc : chkE e = 0) (hsw : ¬ (0 ≤ sw ∧ sw ≤ 11)) : Calls Tryz.prog 4 #[.agg (evC e vn vb vu vm), .int .i64 sw] w fun r w' => r = .returned (.bool true) ∧ Below w.heap.size w w' := by
  obtain ⟨W1, hW1⟩ : ∃ W1, w.alloc (.cells (evC e vn vb vu vm) 35) = W1 := ⟨_, rfl⟩
  have h1 : W1.heap[w.heap.size]? = some (.cells (evC e vn vb vu vm) 35 (0, 0)) := by rw [← hW1]; exact heap_new _ _
  have hb1 : Below w.heap.size w W1 := by rw [← hW1]; exact below_box (Below.refl _ _) _
  have HEv : Hid (∀ Y, Below W1.heap.size W1 Y → Y.heap[w.heap.size]? = some (.cells (evC e vn vb vu vm) 35 (0, 0))) := Lib.hid (fun Y hY => by rw [hY.block _ (lt_of_heap h1)]; exact h1)
  have HW : Hid (∀ Y, Below W1.heap.size W1 Y → Below w.heap.size w Y) := Lib.hid (fun Y hY => hb1.trans (hY.mono hb1.size))
  have HSm : Hid (∀ Y, Below W1.heap.size W1 Y → Calls Tryz.prog 10 #[.agg (evC e vn vb vu vm)] Y fun r w' => r = .returned (.bool (smallB e)) ∧ Below Y.heap.size Y w') := Lib.hid (fun Y hY => smallE_any e vn vb vu vm Y (hL.on (HW.out Y hY)))
  have HKn : Hid (∀ Y, Below W1.heap.size W1 Y → Calls Tryz.prog 6 #[] Y fun r w' => r = .returned (.bool true) ∧ Below Y.heap.size Y w') := Lib.hid (fun Y hY => known_any Y ⟨(he.on (HW.out Y hY)).e, (he.on (HW.out Y hY)).f⟩)
  have HCh : Hid (∀ Y, Below W1.heap.size W1 Y → Calls Tryz.prog 11 #[.agg (evC e vn vb vu vm)] Y fun r w' => r = .returned (.int .i64 (chkE e)) ∧ Below Y.heap.size Y w') := Lib.hid (fun Y hY => CheckE e vn vb vu vm Y (he.on (HW.out Y hY)) (hL.on (HW.out Y hY)))
  have HB1 : Hid (Below W1.heap.size W1 W1) := Lib.hid (Below.refl _ _)
  have HEn := Lib.hid he
  have HLs := Lib.hid hL
  clear h1 hb1 he hL
  rw [hs] at HSm
  rw [hc] at HCh
  have q0 : (sw == 0) = false := beq_eq_false_iff_ne.2 (by omega)
  have q1 : (sw == 1) = false := beq_eq_false_iff_ne.2 (by omega)
  have q2 : (sw == 2) = false := beq_eq_false_iff_ne.2 (by omega)
  have q3 : (sw == 3) = false := beq_eq_false_iff_ne.2 (by omega)
  have q4 : (sw == 4) = false := beq_eq_false_iff_ne.2 (by omega)
  have q5 : (sw == 5) = false := beq_eq_false_iff_ne.2 (by omega)
  have q6 : (sw == 6) = false := beq_eq_false_iff_ne.2 (by omega)
  have q7 : (sw == 7) = false := beq_eq_false_iff_ne.2 (by omega)
  have q8 : (sw == 8) = false := beq_eq_false_iff_ne.2 (by omega)
  have q9 : (sw == 9) = false := beq_eq_false_iff_ne.2 (by omega)
  have q10 : (sw == 10) = false := beq_eq_false_iff_ne.2 (by omega)
  have q11 : (sw == 11) = false := beq_eq_false_iff_ne.2 (by omega)
  clear hs hc hsw
  go_enter Tryz.func4, Tryz.ntmps4
  go_upto_region 1 with fail
  (try rw [hW1])
  clear hW1
  go_wp2_with (first | (go_at_call 10; refine (HSm.out _ HB1.out).mono ?_; rintro r w2 ⟨rfl, hb⟩; have HB2 := Lib.hid (HB1.out.trans (hb.mono HB1.out.size)); clear hb) | (go_at_call 6; refine (HKn.out _ HB2.out).mono ?_; rintro r w3 ⟨rfl, hb⟩; have HB3 := Lib.hid (HB2.out.trans (hb.mono HB2.out.size)); clear hb) | (go_at_call 11; refine (HCh.out _ HB3.out).mono ?_; rintro r w4 ⟨rfl, hb⟩; have HB4 := Lib.hid (HB3.out.trans (hb.mono HB3.out.size)); clear hb) | (have hq := HB4; clear hq; refine wpList_load_row rfl 35 _ rfl w.heap.size rfl 35 _ (0, 0) _ (HEv.out _ HB4.out) Tryz.underlying35 rfl (Tryz.sizeEvC e vn vb vu vm) ?_) | (have hq := HB3; clear hq; refine wpList_load_row rfl 35 _ rfl w.heap.size rfl 35 _ (0, 0) _ (HEv.out _ HB3.out) Tryz.underlying35 rfl (Tryz.sizeEvC e vn vb vu vm) ?_) | (have hq := HB1; clear hq; refine wpList_load_row rfl 35 _ rfl w.heap.size rfl 35 _ (0, 0) _ (HEv.out _ HB1.out) Tryz.underlying35 rfl (Tryz.sizeEvC e vn vb vu vm) ?_) | (refine wpList_store_row rfl 35 _ _ rfl w4.heap.size (evC e vn vb vu vm) rfl rfl 35 _ (heap_new _ _) (Tryz.sizeEvC e vn vb vu vm) rfl HLs.out.shp.one ?_))
  go_ret
  exact ⟨rfl, below_boxed (HW.out _ HB4.out) _ _⟩
theorem EventFields_walk (e : PE) (vn vb vu vm : Value) (sw : Int) (w : World) (he : Env3 w) (hL : Lst w e vn vb vu vm) : Calls Tryz.prog 4 #[.agg (evC e vn vb vu vm), .int .i64 sw] w fun r w' => r = .returned (.bool true) ∧ Below w.heap.size w w' := by
  cases hs : smallB e with
  | false => exact fields_early e vn vb vu vm sw w he hL (.inl hs)
  | true =>
    by_cases hc : chkE e = 0
    · by_cases h : 0 ≤ sw ∧ sw ≤ 11
      · have hj : sw = 0 ∨ sw = 1 ∨ sw = 2 ∨ sw = 3 ∨ sw = 4 ∨ sw = 5 ∨ sw = 6 ∨ sw = 7 ∨ sw = 8 ∨ sw = 9 ∨ sw = 10 ∨ sw = 11 := by omega
        rcases hj with rfl | rfl | rfl | rfl | rfl | rfl | rfl | rfl | rfl | rfl | rfl | rfl
        · exact fields_0 e vn vb vu vm w he hL hs hc
        · exact fields_1 e vn vb vu vm w he hL hs hc
        · exact fields_2 e vn vb vu vm w he hL hs hc
        · exact fields_3 e vn vb vu vm w he hL hs hc
        · exact fields_4 e vn vb vu vm w he hL hs hc
        · exact fields_5 e vn vb vu vm w he hL hs hc
        · exact fields_6 e vn vb vu vm w he hL hs hc
        · exact fields_7 e vn vb vu vm w he hL hs hc
        · exact fields_8 e vn vb vu vm w he hL hs hc
        · exact fields_9 e vn vb vu vm w he hL hs hc
        · exact fields_10 e vn vb vu vm w he hL hs hc
        · exact fields_11 e vn vb vu vm w he hL hs hc
      · exact fields_none e vn vb vu vm sw w he hL hs hc h
    · exact fields_early e vn vb vu vm sw w he hL (.inr hc)
end Go.Proofs.YtbncaiocmklgnaaGreatDoor

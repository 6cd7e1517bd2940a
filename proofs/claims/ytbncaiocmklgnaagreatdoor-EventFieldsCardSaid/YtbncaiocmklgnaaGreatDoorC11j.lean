/- event: rows of parts: what they drop (c11hgen.py). -/
import Derived.Test.YtbncaiocmklgnaaGreatDoorC11h
namespace Go.Proofs.YtbncaiocmklgnaaGreatDoor
open Go.RowKit Go.Lib

set_option maxHeartbeats 8000000 in
set_option maxRecDepth 20000 in
theorem row_drops (l : List Pt) (q rb : Nat) (B : Bxs) (b : Nat) (e : PE) (w W : World) (K : List (Nat × Obj)) (hLf : Left w b e K W) (hw : w.heap.size ≤ b) (hn : ∀ x, x ∈ K → x.1 ≠ b) (hB : ∀ x, x ∈ kwL B → x ∈ K) (hq : (q, Obj.cells #[.slice (some ⟨rb, 0, none⟩) l.length l.length] 113 (0, 0)) ∈ K) (hr : (rb, Obj.cells (partsL B l).toArray 64 (0, 0)) ∈ K) (hn9 : l.length ≤ 9) :
    Calls Tryz.prog 97 #[ptr b, ptr q] W fun r w' => r = .returned (.tuple #[]) ∧ Left w b (dropE e l) K w' := by
  have hL0 := hLf
  obtain ⟨_, _, _, _, _, h0⟩ := hL0
  have c1 := box1 (h0.kept (q, _) (List.mem_cons_of_mem _ hq))
  have HD : Hid (∀ p e X K', Left w b e K' X → (∀ x, x ∈ K' → x.1 ≠ b) → (∀ x, x ∈ kwL B → x ∈ K') → Calls Tryz.prog (ptD B b p).1 (ptD B b p).2 X fun r w' => r = .returned (.tuple #[]) ∧ Left w b (dropP e p) K' w') := Lib.hid (fun p e X K' hL hn' hB' => by
    obtain ⟨vn, vb, vu, vm, hs, h⟩ := hL
    exact pt_drops p B b e vn vb vu vm w X K' h hw hn' hB' hs)
  have HRr : Hid (∀ e X, Left w b e K X → X.heap[rb]? = some (.cells (partsL B l).toArray 64 (0, 0))) := Lib.hid (fun e X hL => by
    obtain ⟨_, _, _, _, _, h⟩ := hL
    exact h.kept (rb, _) (List.mem_cons_of_mem _ hr))
  have HBx : Hid (∀ e X cs, Left w b e K X → Left w b e ((X.heap.size, .cells cs 64 (0, 0)) :: K) ((X.alloc (.cells nil4 64)).setRow X.heap.size cs) ∧ ∀ x, x ∈ (X.heap.size, Obj.cells cs 64 (0, 0)) :: K → x.1 ≠ b) := Lib.hid (fun e X cs hL => by
    obtain ⟨vn, vb, vu, vm, hs, h⟩ := hL
    refine ⟨⟨vn, vb, vu, vm, hs, (h.boxed nil4 64 cs).sub (fun x hx => ?_)⟩, fun x hx => ?_⟩
    · rcases List.mem_cons.1 hx with rfl | hx
      · exact List.mem_cons_of_mem _ List.mem_cons_self
      · rcases List.mem_cons.1 hx with rfl | hx
        · exact List.mem_cons_self
        · exact List.mem_cons_of_mem _ (List.mem_cons_of_mem _ hx)
    · rcases List.mem_cons.1 hx with rfl | hx
      · exact Nat.ne_of_gt (lt_of_heap (h.kept _ List.mem_cons_self))
      · exact hn x hx)
  have HBB := Lib.hid hB
  have HL0 := Lib.hid hLf
  have HSub : Hid (∀ e X y, Left w b e (y :: K) X → Left w b e K X) := Lib.hid (fun e X y hL => by
    obtain ⟨vn, vb, vu, vm, hs, h⟩ := hL
    refine ⟨vn, vb, vu, vm, hs, h.sub (fun x hx => ?_)⟩
    rcases List.mem_cons.1 hx with rfl | hx
    · exact List.mem_cons_self
    · exact List.mem_cons_of_mem _ (List.mem_cons_of_mem _ hx))
  obtain ⟨n, hnl⟩ : ∃ n, l.length = n := ⟨_, rfl⟩
  have HN := Lib.hid hnl
  rw [hnl] at c1 hn9
  have hni : (n : Int) ≤ 9 := by omega
  clear hLf hw hn hB hq hr hnl h0
  go_enter Tryz.func97, Tryz.ntmps97
  go_wp2_with fail
  go_loopw [7] (fun vi wr => ∃ (k : Nat) (X : World), X = wr ∧ k ≤ n ∧ vi = .int .i64 k ∧ Left w b (dropE e (l.take k)) K X) (fun i _ => n - (intOf i).toNat)
  case atStart => exact ⟨0, _, rfl, Nat.zero_le _, rfl, HL0.out⟩
  case round =>
    obtain ⟨k, X, hX, hkn, rfl, hlf⟩ := hrel
    subst hX
    have HX := Lib.hid hlf
    by_cases hlt : k < n
    · have hk1 : (k : Int) < (n : Int) := by omega
      have hk0 : (0 : Int) ≤ (k : Int) := by omega
      have hk9 : (k : Int) ≤ 9 := by omega
      obtain ⟨p, hp⟩ : ∃ p, l[k]? = some p := ⟨_, List.getElem?_eq_getElem (by rw [HN.out]; exact hlt)⟩
      have HRg := Lib.hid (range_part (HRr.out _ _ hlf) k p hp)
      have HS := Lib.hid (drop_snoc e l k p hp)
      have HDp := Lib.hid (HD.out p)
      clear hp hlf c1
      generalize dropE e (l.take k) = e1 at *
      cases p with
      | box =>
        simp only [ptV, ptD] at HRg HDp
        obtain ⟨X1, hX1⟩ : ∃ X1, (X.alloc (.cells nil4 64)).setRow X.heap.size #[fnV 83 #[ptr B.p1], fnV 84 #[ptr B.p1], fnV 85 #[ptr B.p1], fnV 86 #[ptr B.p1]] = X1 := ⟨_, rfl⟩
        have hbx : X1.heap[X.heap.size]? = some (.cells #[fnV 83 #[ptr B.p1], fnV 84 #[ptr B.p1], fnV 85 #[ptr B.p1], fnV 86 #[ptr B.p1]] 64 (0, 0)) := by rw [← hX1]; exact boxed_self _ _ _ _
        have hlx := HBx.out e1 X #[fnV 83 #[ptr B.p1], fnV 84 #[ptr B.p1], fnV 85 #[ptr B.p1], fnV 86 #[ptr B.p1]] HX.out
        rw [hX1] at hlx
        have HCl := Lib.hid (HDp.out e1 X1 _ hlx.1 hlx.2 (fun x hx => List.mem_cons_of_mem _ (HBB.out x hx)))
        obtain ⟨_, _, _, k3⟩ := part_cells hbx
        clear hbx hlx
        go_upto_region 3 with (first | (refine wpList_load_mid rfl 64 _ rfl rb (k * 4) rfl _ _ HRg.out Tryz.underlying64 rfl Tryz.sizePart ?_) | (refine wpList_store_row rfl 64 _ _ rfl X.heap.size #[fnV 83 #[ptr B.p1], fnV 84 #[ptr B.p1], fnV 85 #[ptr B.p1], fnV 86 #[ptr B.p1]] rfl rfl 64 _ (heap_new _ _) Tryz.sizePart rfl (by simp [Value.oneCell']) ?_))
        rw [hX1]
        clear hX1
        go_wp2_with (go_at_call 86; refine HCl.out.mono ?_; rintro e2 w2 ⟨rfl, hl2⟩; have H2 := Lib.hid (HSub.out _ _ _ hl2); clear hl2)
        go_roundw
        case rel => exact ⟨k + 1, _, rfl, hlt, by go_num, by rw [HS.out]; exact H2.out⟩
        case measure => simp [intOf]; omega
      | tto =>
        simp only [ptV, ptD] at HRg HDp
        obtain ⟨X1, hX1⟩ : ∃ X1, (X.alloc (.cells nil4 64)).setRow X.heap.size #[fnV 83 #[ptr B.p2], fnV 84 #[ptr B.p2], fnV 85 #[ptr B.p2], fnV 86 #[ptr B.p2]] = X1 := ⟨_, rfl⟩
        have hbx : X1.heap[X.heap.size]? = some (.cells #[fnV 83 #[ptr B.p2], fnV 84 #[ptr B.p2], fnV 85 #[ptr B.p2], fnV 86 #[ptr B.p2]] 64 (0, 0)) := by rw [← hX1]; exact boxed_self _ _ _ _
        have hlx := HBx.out e1 X #[fnV 83 #[ptr B.p2], fnV 84 #[ptr B.p2], fnV 85 #[ptr B.p2], fnV 86 #[ptr B.p2]] HX.out
        rw [hX1] at hlx
        have HCl := Lib.hid (HDp.out e1 X1 _ hlx.1 hlx.2 (fun x hx => List.mem_cons_of_mem _ (HBB.out x hx)))
        obtain ⟨_, _, _, k3⟩ := part_cells hbx
        clear hbx hlx
        go_upto_region 3 with (first | (refine wpList_load_mid rfl 64 _ rfl rb (k * 4) rfl _ _ HRg.out Tryz.underlying64 rfl Tryz.sizePart ?_) | (refine wpList_store_row rfl 64 _ _ rfl X.heap.size #[fnV 83 #[ptr B.p2], fnV 84 #[ptr B.p2], fnV 85 #[ptr B.p2], fnV 86 #[ptr B.p2]] rfl rfl 64 _ (heap_new _ _) Tryz.sizePart rfl (by simp [Value.oneCell']) ?_))
        rw [hX1]
        clear hX1
        go_wp2_with (go_at_call 86; refine HCl.out.mono ?_; rintro e2 w2 ⟨rfl, hl2⟩; have H2 := Lib.hid (HSub.out _ _ _ hl2); clear hl2)
        go_roundw
        case rel => exact ⟨k + 1, _, rfl, hlt, by go_num, by rw [HS.out]; exact H2.out⟩
        case measure => simp [intOf]; omega
      | first =>
        simp only [ptV, ptD] at HRg HDp
        obtain ⟨X1, hX1⟩ : ∃ X1, (X.alloc (.cells nil4 64)).setRow X.heap.size #[fnV 83 #[ptr B.p3], fnV 84 #[ptr B.p3], fnV 85 #[ptr B.p3], fnV 86 #[ptr B.p3]] = X1 := ⟨_, rfl⟩
        have hbx : X1.heap[X.heap.size]? = some (.cells #[fnV 83 #[ptr B.p3], fnV 84 #[ptr B.p3], fnV 85 #[ptr B.p3], fnV 86 #[ptr B.p3]] 64 (0, 0)) := by rw [← hX1]; exact boxed_self _ _ _ _
        have hlx := HBx.out e1 X #[fnV 83 #[ptr B.p3], fnV 84 #[ptr B.p3], fnV 85 #[ptr B.p3], fnV 86 #[ptr B.p3]] HX.out
        rw [hX1] at hlx
        have HCl := Lib.hid (HDp.out e1 X1 _ hlx.1 hlx.2 (fun x hx => List.mem_cons_of_mem _ (HBB.out x hx)))
        obtain ⟨_, _, _, k3⟩ := part_cells hbx
        clear hbx hlx
        go_upto_region 3 with (first | (refine wpList_load_mid rfl 64 _ rfl rb (k * 4) rfl _ _ HRg.out Tryz.underlying64 rfl Tryz.sizePart ?_) | (refine wpList_store_row rfl 64 _ _ rfl X.heap.size #[fnV 83 #[ptr B.p3], fnV 84 #[ptr B.p3], fnV 85 #[ptr B.p3], fnV 86 #[ptr B.p3]] rfl rfl 64 _ (heap_new _ _) Tryz.sizePart rfl (by simp [Value.oneCell']) ?_))
        rw [hX1]
        clear hX1
        go_wp2_with (go_at_call 86; refine HCl.out.mono ?_; rintro e2 w2 ⟨rfl, hl2⟩; have H2 := Lib.hid (HSub.out _ _ _ hl2); clear hl2)
        go_roundw
        case rel => exact ⟨k + 1, _, rfl, hlt, by go_num, by rw [HS.out]; exact H2.out⟩
        case measure => simp [intOf]; omega
      | room =>
        simp only [ptV, ptD] at HRg HDp
        obtain ⟨X1, hX1⟩ : ∃ X1, (X.alloc (.cells nil4 64)).setRow X.heap.size #[fnV 74 #[], fnV 84 #[ptr B.p3], fnV 85 #[ptr B.p3], fnV 86 #[ptr B.p3]] = X1 := ⟨_, rfl⟩
        have hbx : X1.heap[X.heap.size]? = some (.cells #[fnV 74 #[], fnV 84 #[ptr B.p3], fnV 85 #[ptr B.p3], fnV 86 #[ptr B.p3]] 64 (0, 0)) := by rw [← hX1]; exact boxed_self _ _ _ _
        have hlx := HBx.out e1 X #[fnV 74 #[], fnV 84 #[ptr B.p3], fnV 85 #[ptr B.p3], fnV 86 #[ptr B.p3]] HX.out
        rw [hX1] at hlx
        have HCl := Lib.hid (HDp.out e1 X1 _ hlx.1 hlx.2 (fun x hx => List.mem_cons_of_mem _ (HBB.out x hx)))
        obtain ⟨_, _, _, k3⟩ := part_cells hbx
        clear hbx hlx
        go_upto_region 3 with (first | (refine wpList_load_mid rfl 64 _ rfl rb (k * 4) rfl _ _ HRg.out Tryz.underlying64 rfl Tryz.sizePart ?_) | (refine wpList_store_row rfl 64 _ _ rfl X.heap.size #[fnV 74 #[], fnV 84 #[ptr B.p3], fnV 85 #[ptr B.p3], fnV 86 #[ptr B.p3]] rfl rfl 64 _ (heap_new _ _) Tryz.sizePart rfl (by simp [Value.oneCell']) ?_))
        rw [hX1]
        clear hX1
        go_wp2_with (go_at_call 86; refine HCl.out.mono ?_; rintro e2 w2 ⟨rfl, hl2⟩; have H2 := Lib.hid (HSub.out _ _ _ hl2); clear hl2)
        go_roundw
        case rel => exact ⟨k + 1, _, rfl, hlt, by go_num, by rw [HS.out]; exact H2.out⟩
        case measure => simp [intOf]; omega
      | name =>
        simp only [ptV, ptD] at HRg HDp
        obtain ⟨X1, hX1⟩ : ∃ X1, (X.alloc (.cells nil4 64)).setRow X.heap.size #[fnV 87 #[ptr B.q4, ptr B.p4], fnV 88 #[ptr B.p4], fnV 90 #[ptr B.p4], fnV 92 #[ptr B.p4]] = X1 := ⟨_, rfl⟩
        have hbx : X1.heap[X.heap.size]? = some (.cells #[fnV 87 #[ptr B.q4, ptr B.p4], fnV 88 #[ptr B.p4], fnV 90 #[ptr B.p4], fnV 92 #[ptr B.p4]] 64 (0, 0)) := by rw [← hX1]; exact boxed_self _ _ _ _
        have hlx := HBx.out e1 X #[fnV 87 #[ptr B.q4, ptr B.p4], fnV 88 #[ptr B.p4], fnV 90 #[ptr B.p4], fnV 92 #[ptr B.p4]] HX.out
        rw [hX1] at hlx
        have HCl := Lib.hid (HDp.out e1 X1 _ hlx.1 hlx.2 (fun x hx => List.mem_cons_of_mem _ (HBB.out x hx)))
        obtain ⟨_, _, _, k3⟩ := part_cells hbx
        clear hbx hlx
        go_upto_region 3 with (first | (refine wpList_load_mid rfl 64 _ rfl rb (k * 4) rfl _ _ HRg.out Tryz.underlying64 rfl Tryz.sizePart ?_) | (refine wpList_store_row rfl 64 _ _ rfl X.heap.size #[fnV 87 #[ptr B.q4, ptr B.p4], fnV 88 #[ptr B.p4], fnV 90 #[ptr B.p4], fnV 92 #[ptr B.p4]] rfl rfl 64 _ (heap_new _ _) Tryz.sizePart rfl (by simp [Value.oneCell']) ?_))
        rw [hX1]
        clear hX1
        go_wp2_with (go_at_call 92; refine HCl.out.mono ?_; rintro e2 w2 ⟨rfl, hl2⟩; have H2 := Lib.hid (HSub.out _ _ _ hl2); clear hl2)
        go_roundw
        case rel => exact ⟨k + 1, _, rfl, hlt, by go_num, by rw [HS.out]; exact H2.out⟩
        case measure => simp [intOf]; omega
      | body =>
        simp only [ptV, ptD] at HRg HDp
        obtain ⟨X1, hX1⟩ : ∃ X1, (X.alloc (.cells nil4 64)).setRow X.heap.size #[fnV 87 #[ptr B.q5, ptr B.p5], fnV 88 #[ptr B.p5], fnV 90 #[ptr B.p5], fnV 92 #[ptr B.p5]] = X1 := ⟨_, rfl⟩
        have hbx : X1.heap[X.heap.size]? = some (.cells #[fnV 87 #[ptr B.q5, ptr B.p5], fnV 88 #[ptr B.p5], fnV 90 #[ptr B.p5], fnV 92 #[ptr B.p5]] 64 (0, 0)) := by rw [← hX1]; exact boxed_self _ _ _ _
        have hlx := HBx.out e1 X #[fnV 87 #[ptr B.q5, ptr B.p5], fnV 88 #[ptr B.p5], fnV 90 #[ptr B.p5], fnV 92 #[ptr B.p5]] HX.out
        rw [hX1] at hlx
        have HCl := Lib.hid (HDp.out e1 X1 _ hlx.1 hlx.2 (fun x hx => List.mem_cons_of_mem _ (HBB.out x hx)))
        obtain ⟨_, _, _, k3⟩ := part_cells hbx
        clear hbx hlx
        go_upto_region 3 with (first | (refine wpList_load_mid rfl 64 _ rfl rb (k * 4) rfl _ _ HRg.out Tryz.underlying64 rfl Tryz.sizePart ?_) | (refine wpList_store_row rfl 64 _ _ rfl X.heap.size #[fnV 87 #[ptr B.q5, ptr B.p5], fnV 88 #[ptr B.p5], fnV 90 #[ptr B.p5], fnV 92 #[ptr B.p5]] rfl rfl 64 _ (heap_new _ _) Tryz.sizePart rfl (by simp [Value.oneCell']) ?_))
        rw [hX1]
        clear hX1
        go_wp2_with (go_at_call 92; refine HCl.out.mono ?_; rintro e2 w2 ⟨rfl, hl2⟩; have H2 := Lib.hid (HSub.out _ _ _ hl2); clear hl2)
        go_roundw
        case rel => exact ⟨k + 1, _, rfl, hlt, by go_num, by rw [HS.out]; exact H2.out⟩
        case measure => simp [intOf]; omega
      | names =>
        simp only [ptV, ptD] at HRg HDp
        obtain ⟨X1, hX1⟩ : ∃ X1, (X.alloc (.cells nil4 64)).setRow X.heap.size #[fnV 105 #[], fnV 108 #[], fnV 109 #[], fnV 110 #[]] = X1 := ⟨_, rfl⟩
        have hbx : X1.heap[X.heap.size]? = some (.cells #[fnV 105 #[], fnV 108 #[], fnV 109 #[], fnV 110 #[]] 64 (0, 0)) := by rw [← hX1]; exact boxed_self _ _ _ _
        have hlx := HBx.out e1 X #[fnV 105 #[], fnV 108 #[], fnV 109 #[], fnV 110 #[]] HX.out
        rw [hX1] at hlx
        have HCl := Lib.hid (HDp.out e1 X1 _ hlx.1 hlx.2 (fun x hx => List.mem_cons_of_mem _ (HBB.out x hx)))
        obtain ⟨_, _, _, k3⟩ := part_cells hbx
        clear hbx hlx
        go_upto_region 3 with (first | (refine wpList_load_mid rfl 64 _ rfl rb (k * 4) rfl _ _ HRg.out Tryz.underlying64 rfl Tryz.sizePart ?_) | (refine wpList_store_row rfl 64 _ _ rfl X.heap.size #[fnV 105 #[], fnV 108 #[], fnV 109 #[], fnV 110 #[]] rfl rfl 64 _ (heap_new _ _) Tryz.sizePart rfl (by simp [Value.oneCell']) ?_))
        rw [hX1]
        clear hX1
        go_wp2_with (go_at_call 110; refine HCl.out.mono ?_; rintro e2 w2 ⟨rfl, hl2⟩; have H2 := Lib.hid (HSub.out _ _ _ hl2); clear hl2)
        go_roundw
        case rel => exact ⟨k + 1, _, rfl, hlt, by go_num, by rw [HS.out]; exact H2.out⟩
        case measure => simp [intOf]; omega
      | uids =>
        simp only [ptV, ptD] at HRg HDp
        obtain ⟨X1, hX1⟩ : ∃ X1, (X.alloc (.cells nil4 64)).setRow X.heap.size #[fnV 98 #[], fnV 101 #[], fnV 102 #[], fnV 104 #[]] = X1 := ⟨_, rfl⟩
        have hbx : X1.heap[X.heap.size]? = some (.cells #[fnV 98 #[], fnV 101 #[], fnV 102 #[], fnV 104 #[]] 64 (0, 0)) := by rw [← hX1]; exact boxed_self _ _ _ _
        have hlx := HBx.out e1 X #[fnV 98 #[], fnV 101 #[], fnV 102 #[], fnV 104 #[]] HX.out
        rw [hX1] at hlx
        have HCl := Lib.hid (HDp.out e1 X1 _ hlx.1 hlx.2 (fun x hx => List.mem_cons_of_mem _ (HBB.out x hx)))
        obtain ⟨_, _, _, k3⟩ := part_cells hbx
        clear hbx hlx
        go_upto_region 3 with (first | (refine wpList_load_mid rfl 64 _ rfl rb (k * 4) rfl _ _ HRg.out Tryz.underlying64 rfl Tryz.sizePart ?_) | (refine wpList_store_row rfl 64 _ _ rfl X.heap.size #[fnV 98 #[], fnV 101 #[], fnV 102 #[], fnV 104 #[]] rfl rfl 64 _ (heap_new _ _) Tryz.sizePart rfl (by simp [Value.oneCell']) ?_))
        rw [hX1]
        clear hX1
        go_wp2_with (go_at_call 104; refine HCl.out.mono ?_; rintro e2 w2 ⟨rfl, hl2⟩; have H2 := Lib.hid (HSub.out _ _ _ hl2); clear hl2)
        go_roundw
        case rel => exact ⟨k + 1, _, rfl, hlt, by go_num, by rw [HS.out]; exact H2.out⟩
        case measure => simp [intOf]; omega
      | mark =>
        simp only [ptV, ptD] at HRg HDp
        obtain ⟨X1, hX1⟩ : ∃ X1, (X.alloc (.cells nil4 64)).setRow X.heap.size #[fnV 111 #[], fnV 113 #[], fnV 115 #[], fnV 117 #[]] = X1 := ⟨_, rfl⟩
        have hbx : X1.heap[X.heap.size]? = some (.cells #[fnV 111 #[], fnV 113 #[], fnV 115 #[], fnV 117 #[]] 64 (0, 0)) := by rw [← hX1]; exact boxed_self _ _ _ _
        have hlx := HBx.out e1 X #[fnV 111 #[], fnV 113 #[], fnV 115 #[], fnV 117 #[]] HX.out
        rw [hX1] at hlx
        have HCl := Lib.hid (HDp.out e1 X1 _ hlx.1 hlx.2 (fun x hx => List.mem_cons_of_mem _ (HBB.out x hx)))
        obtain ⟨_, _, _, k3⟩ := part_cells hbx
        clear hbx hlx
        go_upto_region 3 with (first | (refine wpList_load_mid rfl 64 _ rfl rb (k * 4) rfl _ _ HRg.out Tryz.underlying64 rfl Tryz.sizePart ?_) | (refine wpList_store_row rfl 64 _ _ rfl X.heap.size #[fnV 111 #[], fnV 113 #[], fnV 115 #[], fnV 117 #[]] rfl rfl 64 _ (heap_new _ _) Tryz.sizePart rfl (by simp [Value.oneCell']) ?_))
        rw [hX1]
        clear hX1
        go_wp2_with (go_at_call 117; refine HCl.out.mono ?_; rintro e2 w2 ⟨rfl, hl2⟩; have H2 := Lib.hid (HSub.out _ _ _ hl2); clear hl2)
        go_roundw
        case rel => exact ⟨k + 1, _, rfl, hlt, by go_num, by rw [HS.out]; exact H2.out⟩
        case measure => simp [intOf]; omega
      | marks =>
        simp only [ptV, ptD] at HRg HDp
        obtain ⟨X1, hX1⟩ : ∃ X1, (X.alloc (.cells nil4 64)).setRow X.heap.size #[fnV 124 #[], fnV 129 #[], fnV 130 #[], fnV 117 #[]] = X1 := ⟨_, rfl⟩
        have hbx : X1.heap[X.heap.size]? = some (.cells #[fnV 124 #[], fnV 129 #[], fnV 130 #[], fnV 117 #[]] 64 (0, 0)) := by rw [← hX1]; exact boxed_self _ _ _ _
        have hlx := HBx.out e1 X #[fnV 124 #[], fnV 129 #[], fnV 130 #[], fnV 117 #[]] HX.out
        rw [hX1] at hlx
        have HCl := Lib.hid (HDp.out e1 X1 _ hlx.1 hlx.2 (fun x hx => List.mem_cons_of_mem _ (HBB.out x hx)))
        obtain ⟨_, _, _, k3⟩ := part_cells hbx
        clear hbx hlx
        go_upto_region 3 with (first | (refine wpList_load_mid rfl 64 _ rfl rb (k * 4) rfl _ _ HRg.out Tryz.underlying64 rfl Tryz.sizePart ?_) | (refine wpList_store_row rfl 64 _ _ rfl X.heap.size #[fnV 124 #[], fnV 129 #[], fnV 130 #[], fnV 117 #[]] rfl rfl 64 _ (heap_new _ _) Tryz.sizePart rfl (by simp [Value.oneCell']) ?_))
        rw [hX1]
        clear hX1
        go_wp2_with (go_at_call 117; refine HCl.out.mono ?_; rintro e2 w2 ⟨rfl, hl2⟩; have H2 := Lib.hid (HSub.out _ _ _ hl2); clear hl2)
        go_roundw
        case rel => exact ⟨k + 1, _, rfl, hlt, by go_num, by rw [HS.out]; exact H2.out⟩
        case measure => simp [intOf]; omega
      | date =>
        simp only [ptV, ptD] at HRg HDp
        obtain ⟨X1, hX1⟩ : ∃ X1, (X.alloc (.cells nil4 64)).setRow X.heap.size #[fnV 118 #[], fnV 120 #[], fnV 122 #[], fnV 123 #[]] = X1 := ⟨_, rfl⟩
        have hbx : X1.heap[X.heap.size]? = some (.cells #[fnV 118 #[], fnV 120 #[], fnV 122 #[], fnV 123 #[]] 64 (0, 0)) := by rw [← hX1]; exact boxed_self _ _ _ _
        have hlx := HBx.out e1 X #[fnV 118 #[], fnV 120 #[], fnV 122 #[], fnV 123 #[]] HX.out
        rw [hX1] at hlx
        have HCl := Lib.hid (HDp.out e1 X1 _ hlx.1 hlx.2 (fun x hx => List.mem_cons_of_mem _ (HBB.out x hx)))
        obtain ⟨_, _, _, k3⟩ := part_cells hbx
        clear hbx hlx
        go_upto_region 3 with (first | (refine wpList_load_mid rfl 64 _ rfl rb (k * 4) rfl _ _ HRg.out Tryz.underlying64 rfl Tryz.sizePart ?_) | (refine wpList_store_row rfl 64 _ _ rfl X.heap.size #[fnV 118 #[], fnV 120 #[], fnV 122 #[], fnV 123 #[]] rfl rfl 64 _ (heap_new _ _) Tryz.sizePart rfl (by simp [Value.oneCell']) ?_))
        rw [hX1]
        clear hX1
        go_wp2_with (go_at_call 123; refine HCl.out.mono ?_; rintro e2 w2 ⟨rfl, hl2⟩; have H2 := Lib.hid (HSub.out _ _ _ hl2); clear hl2)
        go_roundw
        case rel => exact ⟨k + 1, _, rfl, hlt, by go_num, by rw [HS.out]; exact H2.out⟩
        case measure => simp [intOf]; omega
    · have hk1 : ¬ (k : Int) < (n : Int) := by omega
      rw [List.take_of_length_le (by rw [HN.out]; omega)] at HX
      clear hlf c1
      go_wp2_with fail
      first | refine bodyPost_end (results_none rfl _ _ _) rfl ?_ | refine bodyPost_ret (results_none rfl _ _ _) rfl ?_
      exact ⟨rfl, HX.out⟩
end Go.Proofs.YtbncaiocmklgnaaGreatDoor

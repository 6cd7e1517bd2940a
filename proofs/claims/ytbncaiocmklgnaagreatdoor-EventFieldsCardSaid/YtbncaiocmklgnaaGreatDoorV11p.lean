/- event: the cursor's event, of an event with a name. -/
import Derived.Test.YtbncaiocmklgnaaGreatDoorV11o
namespace Go.Proofs.YtbncaiocmklgnaaGreatDoor
open Go.RowKit Go.Lib

set_option maxHeartbeats 8000000 in
set_option maxRecDepth 20000 in
theorem event_name {cb : Nat} {n k : UInt8} {l : List UInt8} {w : World} (h : CurAt cb (10 :: n :: k :: l) w) (hl : l.length ≤ 900) (hn : n.toNat ≤ 127) (hk : k.toNat ≤ 127) (hkl : k.toNat ≤ l.length) :
    Calls Tryz.prog 34 #[ptr cb] w fun e w' => e = .returned (.agg (evV (n.toNat : Int) 10 (S (l.take k.toNat)) none 0 0)) ∧ KC cb w [(cb, curO (l.drop k.toNat))] w' := by
  have hcl := lt_of_heap h.obj
  obtain ⟨W1, hW1⟩ : ∃ W1, (w.alloc (.cells ev0 35)).alloc (.cells ev0 35) = W1 := ⟨_, rfl⟩
  have C1 : KC cb w [(cb, curO (10 :: n :: k :: l)), (w.heap.size + 1, .cells (evV 0 0 ⟨#[]⟩ none 0 0) 35 (0, 0)), (w.heap.size, .cells (evV 0 0 ⟨#[]⟩ none 0 0) 35 (0, 0))] W1 := by
    have h0 : KC cb w [(cb, curO (10 :: n :: k :: l))] w := KC.start (fun x hx => by rw [List.mem_singleton.1 hx]; exact h.obj)
    have h1 := (h0.box (.cells ev0 35)).box (.cells ev0 35)
    rw [hW1, show (w.alloc (.cells ev0 35)).heap.size = w.heap.size + 1 by simp] at h1
    exact h1.sub (fun x hx => by
      simp only [List.mem_cons, List.not_mem_nil, or_false] at hx ⊢
      rcases hx with h | h | h
      · simp [h]
      · exact .inl h
      · exact .inr (.inl h))
  have hdis : ∀ (l1 : List UInt8) (n1 k1 : Int) (K : List (Nat × Obj)) (X : World), KC cb w ((cb, curO l1) :: (w.heap.size + 1, .cells (evV n1 k1 ⟨#[]⟩ none 0 0) 35 (0, 0)) :: K) X → (∀ x, x ∈ K → x.1 ≠ cb ∧ x.1 ≠ w.heap.size + 1) → (∀ x, x ∈ (w.heap.size + 1, Obj.cells (evV n1 k1 ⟨#[]⟩ none 0 0) 35 (0, 0)) :: K → x.1 ≠ cb) := fun l1 n1 k1 K X hX hK x hx => by
    rcases List.mem_cons.1 hx with rfl | hx
    · show w.heap.size + 1 ≠ cb; omega
    · exact (hK x hx).1
  have hR : ∀ x, x ∈ [(w.heap.size, Obj.cells (evV 0 0 ⟨#[]⟩ none 0 0) 35 (0, 0))] → x.1 ≠ cb ∧ x.1 ≠ w.heap.size + 1 := fun x hx => by
    rw [List.mem_singleton.1 hx]
    exact ⟨by show w.heap.size ≠ cb; omega, by show w.heap.size ≠ w.heap.size + 1; omega⟩
  -- a number is read, and stored
  have step : ∀ (b : UInt8) (m : List UInt8) (n1 k1 : Int) (X : World), KC cb w [(cb, curO (b :: m)), (w.heap.size + 1, .cells (evV n1 k1 ⟨#[]⟩ none 0 0) 35 (0, 0)), (w.heap.size, .cells (evV 0 0 ⟨#[]⟩ none 0 0) 35 (0, 0))] X →
      KC cb w [(cb, curO m), (w.heap.size + 1, .cells (evV n1 k1 ⟨#[]⟩ none 0 0) 35 (0, 0)), (w.heap.size, .cells (evV 0 0 ⟨#[]⟩ none 0 0) 35 (0, 0))] (X.setCell ⟨cb, 0, none⟩ (.string (S m))) := fun b m n1 k1 X hX => hX.cell (.inl rfl) (hdis _ _ _ _ _ hX hR) 0 (.string (S m))
  have put : ∀ (m : List UInt8) (n1 k1 : Int) (X : World) (o : Nat) (v : Int) (n2 k2 : Int), KC cb w [(cb, curO m), (w.heap.size + 1, .cells (evV n1 k1 ⟨#[]⟩ none 0 0) 35 (0, 0)), (w.heap.size, .cells (evV 0 0 ⟨#[]⟩ none 0 0) 35 (0, 0))] X → (evV n1 k1 ⟨#[]⟩ none 0 0).setIfInBounds o (.int .i64 v) = evV n2 k2 ⟨#[]⟩ none 0 0 →
      KC cb w [(cb, curO m), (w.heap.size + 1, .cells (evV n2 k2 ⟨#[]⟩ none 0 0) 35 (0, 0)), (w.heap.size, .cells (evV 0 0 ⟨#[]⟩ none 0 0) 35 (0, 0))] (X.setCell ⟨w.heap.size + 1, o, none⟩ (.int .i64 v)) := fun m n1 k1 X o v n2 k2 hX e => by
    have h3 : KC cb w [(w.heap.size + 1, .cells (evV n1 k1 ⟨#[]⟩ none 0 0) 35 (0, 0)), (cb, curO m), (w.heap.size, .cells (evV 0 0 ⟨#[]⟩ none 0 0) 35 (0, 0))] X := hX.sub (fun x hx => by
      simp only [List.mem_cons, List.not_mem_nil, or_false] at hx ⊢
      rcases hx with h | h | h <;> simp [h])
    have h4 := h3.cell (.inr (Nat.le_succ _)) (fun x hx => by
      rcases List.mem_cons.1 hx with rfl | hx
      · show cb ≠ w.heap.size + 1; omega
      · exact (hR x hx).2) o (.int .i64 v)
    rw [e] at h4
    exact h4.sub (fun x hx => by
      simp only [List.mem_cons, List.not_mem_nil, or_false] at hx ⊢
      rcases hx with h | h | h
      · exact .inr (.inl h)
      · exact .inl h
      · exact .inr (.inr h))
  have ec : ∀ (m : List UInt8) (n1 k1 : Int) (X : World), KC cb w [(cb, curO m), (w.heap.size + 1, .cells (evV n1 k1 ⟨#[]⟩ none 0 0) 35 (0, 0)), (w.heap.size, .cells (evV 0 0 ⟨#[]⟩ none 0 0) 35 (0, 0))] X → X.heap[w.heap.size + 1]? = some (.cells (evV n1 k1 ⟨#[]⟩ none 0 0) 35 (0, 0)) := fun m n1 k1 X hX => hX.kept (w.heap.size + 1, _) (List.mem_cons_of_mem _ List.mem_cons_self)
  have HStep := Lib.hid step
  have HPut := Lib.hid put
  have HEc := Lib.hid ec
  have HC1 := Lib.hid C1
  have HF := Lib.hid (And.intro hl (And.intro hn (And.intro hk (And.intro hkl (And.intro hcl hR)))))
  have HN1 : Hid (Calls Tryz.prog 53 #[ptr cb] W1 fun e w' => e = .returned (.int .i64 10) ∧ w' = W1.setCell ⟨cb, 0, none⟩ (.string (S (n :: k :: l)))) := Lib.hid (number_small ⟨C1.kept (cb, _) List.mem_cons_self⟩ (by simp; omega) (by decide))
  have HN2 : Hid (∀ X, X.heap[cb]? = some (curO (n :: k :: l)) → Calls Tryz.prog 53 #[ptr cb] X fun e w' => e = .returned (.int .i64 (n.toNat : Int)) ∧ w' = X.setCell ⟨cb, 0, none⟩ (.string (S (k :: l)))) := Lib.hid (fun X hX => number_small ⟨hX⟩ (by simp; omega) hn)
  clear step put ec hdis C1 h hl hn hk hkl hcl hR
  go_enter Tryz.func34, Tryz.ntmps34
  go_upto_region 2 with fail
  (try rw [hW1])
  clear hW1
  go_upto_region 3 with (go_at_call 53; refine HN1.out.mono ?_; rintro e w2 ⟨rfl, hw2⟩; have K2 := Lib.hid (HStep.out _ _ _ _ _ HC1.out); rw [← hw2] at K2; have y1 := (ev_cells (HEc.out _ _ _ _ K2.out)).2.1; have y2 := frozen_of (HEc.out _ _ _ _ K2.out) 1; clear hw2)
  obtain ⟨W3, hW3⟩ : ∃ W3, w2.setCell ⟨w.heap.size + 1, 1, none⟩ (.int .i64 10) = W3 := ⟨_, rfl⟩
  rw [hW3]
  have K3 := Lib.hid (HPut.out _ _ _ _ 1 10 0 10 K2.out rfl)
  rw [hW3] at K3
  clear hW3 K2 y1 y2 HN1 HC1
  go_upto_region 4 with (go_at_call 53; refine (HN2.out _ (K3.out.kept (cb, _) List.mem_cons_self)).mono ?_; rintro e w4 ⟨rfl, hw4⟩; have K4 := Lib.hid (HStep.out _ _ _ _ _ K3.out); rw [← hw4] at K4; have y1 := (ev_cells (HEc.out _ _ _ _ K4.out)).1; have y2 := frozen_of (HEc.out _ _ _ _ K4.out) 0; clear hw4)
  obtain ⟨W5, hW5⟩ : ∃ W5, w4.setCell ⟨w.heap.size + 1, 0, none⟩ (.int .i64 (n.toNat : Int)) = W5 := ⟨_, rfl⟩
  rw [hW5]
  have K5 := Lib.hid (HPut.out _ _ _ _ 0 (n.toNat : Int) (n.toNat : Int) 10 K4.out rfl)
  rw [hW5] at K5
  clear hW5 K4 y1 y2 HN2 K3 HStep HPut
  have y1 := (ev_cells (HEc.out _ _ _ _ K5.out)).2.1
  have HK := Lib.hid (kindOf_10 W5)
  go_upto_region 5 with (first | (go_at_call 45; refine HK.out.mono ?_; rintro e w6 ⟨v0, v1, v2, v3, rfl, p, q, rfl, rfl, rfl, rfl, hp, hq, hb⟩; have K6 := Lib.hid ((K5.out.go hb).add hp); clear hp hq hb) | (refine wpList_store_row rfl 64 _ _ rfl w6.heap.size #[fnV 87 #[ptr q, ptr p], fnV 88 #[ptr p], fnV 90 #[ptr p], fnV 92 #[ptr p]] rfl rfl 64 _ (heap_new _ _) Tryz.sizePart rfl (by simp [Value.oneCell']) ?_))
  obtain ⟨W7, hW7⟩ : ∃ W7, (w6.alloc (.cells nil4 64)).setRow w6.heap.size #[fnV 87 #[ptr q, ptr p], fnV 88 #[ptr p], fnV 90 #[ptr p], fnV 92 #[ptr p]] = W7 := ⟨_, rfl⟩
  rw [hW7]
  have K7 := Lib.hid (K6.out.boxed nil4 64 #[fnV 87 #[ptr q, ptr p], fnV 88 #[ptr p], fnV 90 #[ptr p], fnV 92 #[ptr p]])
  rw [hW7] at K7
  have HD : Hid (∀ x, x ∈ [(w6.heap.size, Obj.cells #[fnV 87 #[ptr q, ptr p], fnV 88 #[ptr p], fnV 90 #[ptr p], fnV 92 #[ptr p]] 64 (0, 0)), (w.heap.size, Obj.cells (evV 0 0 ⟨#[]⟩ none 0 0) 35 (0, 0))] → x.1 ≠ cb ∧ x.1 ≠ w.heap.size + 1) := Lib.hid (fun x hx => by
    rcases List.mem_cons.1 hx with rfl | hx
    · exact ⟨(Nat.ne_of_lt (K6.out.new (x := (cb, _)) (List.mem_cons_of_mem _ List.mem_cons_self))).symm, (Nat.ne_of_lt (K6.out.new (x := (w.heap.size + 1, _)) (List.mem_cons_of_mem _ (List.mem_cons_of_mem _ List.mem_cons_self)))).symm⟩
    · exact HF.out.2.2.2.2.2 x hx)
  have K8 : Hid (KC cb w [(cb, curO (k :: l)), (w.heap.size + 1, .cells (evV (n.toNat : Int) 10 ⟨#[]⟩ none 0 0) 35 (0, 0)), (p, .cells #[fnV 70 #[]] 106 (0, 0)), (w6.heap.size, .cells #[fnV 87 #[ptr q, ptr p], fnV 88 #[ptr p], fnV 90 #[ptr p], fnV 92 #[ptr p]] 64 (0, 0)), (w.heap.size, .cells (evV 0 0 ⟨#[]⟩ none 0 0) 35 (0, 0))] W7) := Lib.hid (K7.out.sub (fun x hx => by
    simp only [List.mem_cons, List.not_mem_nil, or_false] at hx ⊢
    rcases hx with h | h | h | h | h <;> simp [h]))
  have HRd := Lib.hid (name_read K8.out (by have := HF.out.1; omega) HF.out.2.2.1 HF.out.2.2.2.1 (Nat.le_succ _) HD.out)
  obtain ⟨_, _, k2, _⟩ := part_cells (K8.out.kept (w6.heap.size, _) (List.mem_cons_of_mem _ (List.mem_cons_of_mem _ (List.mem_cons_of_mem _ List.mem_cons_self))))
  have HFin : Hid (∀ X, KC cb w [(cb, curO (l.drop k.toNat)), (w.heap.size + 1, .cells (evV (n.toNat : Int) 10 (S (l.take k.toNat)) none 0 0) 35 (0, 0)), (p, .cells #[fnV 70 #[]] 106 (0, 0)), (w6.heap.size, .cells #[fnV 87 #[ptr q, ptr p], fnV 88 #[ptr p], fnV 90 #[ptr p], fnV 92 #[ptr p]] 64 (0, 0)), (w.heap.size, .cells (evV 0 0 ⟨#[]⟩ none 0 0) 35 (0, 0))] X → X.heap[w.heap.size + 1]? = some (.cells (evV (n.toNat : Int) 10 (S (l.take k.toNat)) none 0 0) 35 (0, 0)) ∧ X.heap[w.heap.size]? = some (.cells (evV 0 0 ⟨#[]⟩ none 0 0) 35 (0, 0)) ∧ ∀ cs, KC cb w [(cb, curO (l.drop k.toNat))] (X.setRow w.heap.size cs)) := Lib.hid (fun X hX => by
    refine ⟨hX.kept (w.heap.size + 1, _) (List.mem_cons_of_mem _ List.mem_cons_self), hX.kept (w.heap.size, _) (List.mem_cons_of_mem _ (List.mem_cons_of_mem _ (List.mem_cons_of_mem _ (List.mem_cons_of_mem _ List.mem_cons_self)))), fun cs => ?_⟩
    have h1 : KC cb w [(w.heap.size, .cells (evV 0 0 ⟨#[]⟩ none 0 0) 35 (0, 0)), (cb, curO (l.drop k.toNat))] X := hX.sub (fun x hx => by
      simp only [List.mem_cons, List.not_mem_nil, or_false] at hx ⊢
      rcases hx with h | h <;> simp [h])
    exact (h1.row (.inr (Nat.le_refl _)) (fun x hx => by rw [List.mem_singleton.1 hx]; have := HF.out.2.2.2.2.1; show cb ≠ w.heap.size; omega) cs).sub (fun x hx => List.mem_cons_of_mem _ hx))
  clear hW7 K7 K6 K5 HK HEc HD y1
  obtain ⟨s1, hs1⟩ : ∃ s1, S (l.take k.toNat) = s1 := ⟨_, rfl⟩
  obtain ⟨l2, hl2⟩ : ∃ l2, l.drop k.toNat = l2 := ⟨_, rfl⟩
  rw [hs1, hl2] at HRd HFin
  have HS := Lib.hid (And.intro hs1 hl2)
  clear hs1 hl2
  go_upto_region 8 with (go_at_call 90; refine HRd.out.mono ?_; rintro e w8 ⟨rfl, hk8⟩; have K9 := Lib.hid hk8; clear hk8)
  go_wp2_with (first | (refine wpList_load_row rfl 35 _ rfl (w.heap.size + 1) rfl 35 _ (0, 0) _ (HFin.out _ K9.out).1 Tryz.underlying35 rfl (Tryz.sizeEv (n.toNat : Int) 10 s1 none 0 0) ?_) | (refine wpList_store_row rfl 35 _ _ rfl w.heap.size (evV (n.toNat : Int) 10 s1 none 0 0) rfl rfl 35 _ (HFin.out _ K9.out).2.1 (Tryz.sizeEv (n.toNat : Int) 10 s1 none 0 0) rfl (ev_one _ _ _ _ _ _) ?_))
  refine bodyPost_ret (v := .agg (evV (n.toNat : Int) 10 s1 none 0 0)) (results_cell_row Tryz.results34 _ _ w.heap.size 35 (evV (n.toNat : Int) 10 s1 none 0 0) (0, 0) _ rfl (setRow_heap _ _ _ _ _ _ (HFin.out _ K9.out).2.1) Tryz.underlying35 rfl (Tryz.sizeEv (n.toNat : Int) 10 s1 none 0 0)) rfl ⟨by rw [HS.out.1], by rw [HS.out.2]; exact (HFin.out _ K9.out).2.2 _⟩
end Go.Proofs.YtbncaiocmklgnaaGreatDoor

/- event: held of any event (c11sgen.py). -/
import Derived.Test.YtbncaiocmklgnaaGreatDoorC11l
namespace Go.Proofs.YtbncaiocmklgnaaGreatDoor
open Go.RowKit Go.Lib

/-- What held answers. -/
def HeldAt (W : World) (e : PE) (r : Ending) (w' : World) : Prop :=
  ∃ v0 v1 v2 v3, r = .returned (.tuple #[.agg #[v0, v1, v2, v3], .int .i64 (chkE e)]) ∧ (v0.oneCell' = true ∧ v1.oneCell' = true ∧ v2.oneCell' = true ∧ v3.oneCell' = true) ∧ (chkE e = 0 → ∃ B, KW B w' ∧ KV B w' (kindP e.k.toNat) v0 v1 v2 v3) ∧ Below W.heap.size W w'
theorem KW.move {B : Bxs} {W W' : World} (h : KW B W) {b : Nat} (hb : W.heap[b]? = some (.cells nil4 64 (0, 0))) (hO : ∀ c, b ≠ c → W'.heap[c]? = W.heap[c]?) : KW B W' := by
  intro x hx
  rw [hO x.1 (fun e => by
    have h2 := h x hx
    rw [← e, hb] at h2
    have : objT x.2 = some 64 := by rw [← Option.some.inj h2]; rfl
    revert this
    unfold kwL at hx
    simp only [List.mem_cons, List.not_mem_nil, or_false] at hx
    rcases hx with rfl | rfl | rfl | rfl | rfl | rfl | rfl <;> simp [objT])]
  exact h x hx
theorem kv_all {e : PE} (p : Pt) : [p].all (holdsP e) = holdsP e p := by simp
set_option maxHeartbeats 4000000 in
theorem heldF_long (eb : Nat) (e : PE) (vn vb vu vm : Value) (W : World) (hE : W.heap[eb]? = some (.cells (evC e vn vb vu vm) 35 (0, 0))) (_he : Env3 W) (hL : Lst W e vn vb vu vm) (hl : longE e = true) :
    Calls Tryz.prog 27 #[ptr eb] W (HeldAt W e) := by
  obtain ⟨W1, hW1⟩ : ∃ W1, W.alloc (.cells nil4 64) = W1 := ⟨_, rfl⟩
  have C1 : Hid (KB W [(W.heap.size, Obj.cells nil4 64 (0, 0)), (eb, Obj.cells (evC e vn vb vu vm) 35 (0, 0))] W1) := Lib.hid (by rw [← hW1]; exact KB.box (KB.add ⟨Below.refl _ _, fun x hx => by cases hx⟩ hE) _)
  have HL := Lib.hid (isLong_any eb e vn vb vu vm W1 (C1.out.kept (eb, _) (List.mem_cons_of_mem _ List.mem_cons_self)) (hL.on C1.out.below))
  have HQ : Hid (chkE e = 2) := Lib.hid (by unfold chkE; rw [hl]; rfl)
  rw [hl] at HL
  clear hE hL hl
  go_enter Tryz.func27, Tryz.ntmps27
  go_upto_region 1 with fail
  (try rw [hW1])
  clear hW1
  go_wp2_with (first | (go_at_call 44; refine HL.out.mono ?_; rintro r w1 ⟨rfl, hb1⟩; have C2 := Lib.hid (C1.out.go hb1); clear hb1) | (refine wpList_store_row rfl 64 _ _ rfl W.heap.size nil4 rfl rfl 64 _ (C2.out.kept (W.heap.size, _) List.mem_cons_self) Tryz.sizePart rfl (by simp [Value.oneCell']) ?_))
  refine bodyPost_ret (v := .tuple #[.agg nil4, .int .i64 2]) (res2c Tryz.results27 _ _ W.heap.size 64 nil4 (0, 0) _ rfl (setRow_heap _ _ _ _ _ _ (C2.out.kept (W.heap.size, _) List.mem_cons_self)) Tryz.underlying64 rfl Tryz.sizePart) rfl ⟨_, _, _, _, by rw [HQ.out], ⟨rfl, rfl, rfl, rfl⟩, (fun h0 => by rw [HQ.out] at h0; cases h0), below_setRow C2.out.below (Nat.le_refl _) _⟩
set_option maxHeartbeats 4000000 in
set_option maxRecDepth 20000 in
theorem heldF_kind (eb : Nat) (e : PE) (vn vb vu vm : Value) (W : World) (hE : W.heap[eb]? = some (.cells (evC e vn vb vu vm) 35 (0, 0))) (_he : Env3 W) (hL : Lst W e vn vb vu vm) (hl : longE e = false) (hk : ¬ (1 ≤ e.k ∧ e.k ≤ 11)) :
    Calls Tryz.prog 27 #[ptr eb] W (HeldAt W e) := by
  obtain ⟨W1, hW1⟩ : ∃ W1, W.alloc (.cells nil4 64) = W1 := ⟨_, rfl⟩
  have C1 : Hid (KB W [(W.heap.size, Obj.cells nil4 64 (0, 0)), (eb, Obj.cells (evC e vn vb vu vm) 35 (0, 0))] W1) := Lib.hid (by rw [← hW1]; exact KB.box (KB.add ⟨Below.refl _ _, fun x hx => by cases hx⟩ hE) _)
  have HL := Lib.hid (isLong_any eb e vn vb vu vm W1 (C1.out.kept (eb, _) (List.mem_cons_of_mem _ List.mem_cons_self)) (hL.on C1.out.below))
  have HQ : Hid (chkE e = 110) := Lib.hid (chk_bad hl (by
    unfold rightE
    rw [Bool.eq_false_iff]
    intro hh
    simp only [Bool.and_eq_true, decide_eq_true_iff] at hh
    exact hk ⟨hh.1.1.1.1.1, hh.1.1.1.1.2⟩))
  rw [hl] at HL
  have HK := Lib.hid (kindOf_no e.k hk)
  have HC : Hid (∀ X, KB W [(W.heap.size, Obj.cells nil4 64 (0, 0)), (eb, Obj.cells (evC e vn vb vu vm) 35 (0, 0))] X → X.cell? ⟨eb, 1, none⟩ = some (.int .i64 e.k)) := Lib.hid (fun X hX => (evC_cells (hX.kept (eb, _) (List.mem_cons_of_mem _ List.mem_cons_self))).2.1)
  clear hE hL hl hk
  go_enter Tryz.func27, Tryz.ntmps27
  go_upto_region 1 with fail
  (try rw [hW1])
  clear hW1
  go_upto_region 3 with (go_at_call 44; refine HL.out.mono ?_; rintro r w1 ⟨rfl, hb1⟩; have C2 := Lib.hid (C1.out.go hb1); clear hb1)
  have c1 := HC.out _ C2.out
  generalize e.k = ek at *
  go_upto_region 4 with (first | (go_at_call 45; refine (HK.out _).mono ?_; rintro r w2 ⟨rfl, hb2⟩; have C3 := Lib.hid (C2.out.go hb2); clear hb2) | (refine wpList_store_row rfl 64 _ _ rfl w2.heap.size nil4 rfl rfl 64 _ (heap_new _ _) Tryz.sizePart rfl (by simp [Value.oneCell']) ?_))
  obtain ⟨W3, hW3⟩ : ∃ W3, (w2.alloc (.cells nil4 64)).setRow w2.heap.size nil4 = W3 := ⟨_, rfl⟩
  rw [hW3]
  have C4 := Lib.hid (C3.out.boxed nil4 64 nil4)
  rw [hW3] at C4
  clear hW3 c1
  go_wp2_with (refine wpList_store_row rfl 64 _ _ rfl W.heap.size nil4 rfl rfl 64 _ (C4.out.kept (W.heap.size, _) (List.mem_cons_of_mem _ List.mem_cons_self)) Tryz.sizePart rfl (by simp [Value.oneCell']) ?_)
  refine bodyPost_ret (v := .tuple #[.agg nil4, .int .i64 110]) (res2c Tryz.results27 _ _ W.heap.size 64 nil4 (0, 0) _ rfl (setRow_heap _ _ _ _ _ _ (C4.out.kept (W.heap.size, _) (List.mem_cons_of_mem _ List.mem_cons_self))) Tryz.underlying64 rfl Tryz.sizePart) rfl ⟨_, _, _, _, by rw [HQ.out], ⟨rfl, rfl, rfl, rfl⟩, (fun h0 => by rw [HQ.out] at h0; cases h0), below_setRow C4.out.below (Nat.le_refl _) _⟩
set_option maxHeartbeats 4000000 in
set_option maxRecDepth 20000 in
theorem heldF_num (eb : Nat) (e : PE) (vn vb vu vm : Value) (W : World) (hE : W.heap[eb]? = some (.cells (evC e vn vb vu vm) 35 (0, 0))) (_he : Env3 W) (hL : Lst W e vn vb vu vm) (hl : longE e = false) (kk : Nat) (hkk : e.k = (kk : Int)) (hk1 : 1 ≤ kk) (hk2 : kk ≤ 11) (hn : ¬ (2 ≤ e.n ∧ numB e.n = true)) :
    Calls Tryz.prog 27 #[ptr eb] W (HeldAt W e) := by
  obtain ⟨W1, hW1⟩ : ∃ W1, W.alloc (.cells nil4 64) = W1 := ⟨_, rfl⟩
  have C1 : Hid (KB W [(W.heap.size, Obj.cells nil4 64 (0, 0)), (eb, Obj.cells (evC e vn vb vu vm) 35 (0, 0))] W1) := Lib.hid (by rw [← hW1]; exact KB.box (KB.add ⟨Below.refl _ _, fun x hx => by cases hx⟩ hE) _)
  have HL := Lib.hid (isLong_any eb e vn vb vu vm W1 (C1.out.kept (eb, _) (List.mem_cons_of_mem _ List.mem_cons_self)) (hL.on C1.out.below))
  rw [hl] at HL
  have HK := Lib.hid (kindOf_any kk hk1 hk2)
  have HCe : Hid (∀ K X, KB W K X → (eb, Obj.cells (evC e vn vb vu vm) 35 (0, 0)) ∈ K → X.cell? ⟨eb, 0, none⟩ = some (.int .i64 e.n) ∧ X.cell? ⟨eb, 1, none⟩ = some (.int .i64 (kk : Int))) := Lib.hid (fun K X hX hm => ⟨(evC_cells (hX.kept (eb, _) hm)).1, by rw [← hkk]; exact (evC_cells (hX.kept (eb, _) hm)).2.1⟩)
  have HQ : Hid (chkE e = 110) := Lib.hid (chk_bad hl (by
    unfold rightE
    rw [Bool.eq_false_iff]
    intro hh
    simp only [Bool.and_eq_true, decide_eq_true_iff] at hh
    exact hn ⟨hh.1.1.1.2, hh.1.1.2⟩))
  have HNu := Lib.hid (isNum_any e.n)
  have HN := Lib.hid hn
  clear hE hL hl hn
  go_enter Tryz.func27, Tryz.ntmps27
  go_upto_region 1 with fail
  (try rw [hW1])
  clear hW1
  go_upto_region 3 with (go_at_call 44; refine HL.out.mono ?_; rintro r w1 ⟨rfl, hb1⟩; have C2 := Lib.hid (C1.out.go hb1); clear hb1)
  obtain ⟨c0, c1⟩ := HCe.out _ _ C2.out (List.mem_cons_of_mem _ List.mem_cons_self)
  generalize hne : e.n = en at *
  go_upto_region 4 with (first | (go_at_call 45; refine (HK.out _).mono ?_; rintro r w2 ⟨B, v0, v1, v2, v3, rfl, hkw, hkv, hb2⟩; have C3 := Lib.hid (C2.out.go hb2); have HKW := Lib.hid hkw; have HKV := Lib.hid hkv; clear hb2 hkw hkv) | (refine wpList_store_row rfl 64 _ _ rfl w2.heap.size #[v0, v1, v2, v3] rfl rfl 64 _ (heap_new _ _) Tryz.sizePart rfl (by simp [HKV.out.ones]) ?_))
  obtain ⟨W3, hW3⟩ : ∃ W3, (w2.alloc (.cells nil4 64)).setRow w2.heap.size #[v0, v1, v2, v3] = W3 := ⟨_, rfl⟩
  rw [hW3]
  have C4 := Lib.hid (C3.out.boxed nil4 64 #[v0, v1, v2, v3])
  have hb3 : Below w2.heap.size w2 W3 := by rw [← hW3]; exact below_boxed (Below.refl _ _) _ _
  rw [hW3] at C4
  have HKW3 := Lib.hid (HKW.out.on hb3)
  have HKV3 := Lib.hid (HKV.out.on hb3)
  clear hW3 hb3 HKW HKV C3 c0 c1
  obtain ⟨c0, c1⟩ := HCe.out _ _ C4.out (List.mem_cons_of_mem _ (List.mem_cons_of_mem _ List.mem_cons_self))
  by_cases h2 : en < 2
  · have h3 : decide (en < 2) = true := decide_eq_true h2
    go_wp2_with (refine wpList_store_row rfl 64 _ _ rfl W.heap.size nil4 rfl rfl 64 _ (C4.out.kept (W.heap.size, _) (List.mem_cons_of_mem _ List.mem_cons_self)) Tryz.sizePart rfl (by simp [Value.oneCell']) ?_)
    refine bodyPost_ret (v := .tuple #[.agg nil4, .int .i64 110]) (res2c Tryz.results27 _ _ W.heap.size 64 nil4 (0, 0) _ rfl (setRow_heap _ _ _ _ _ _ (C4.out.kept (W.heap.size, _) (List.mem_cons_of_mem _ List.mem_cons_self))) Tryz.underlying64 rfl Tryz.sizePart) rfl ⟨_, _, _, _, by rw [HQ.out], ⟨rfl, rfl, rfl, rfl⟩, (fun h0 => by rw [HQ.out] at h0; cases h0), below_setRow C4.out.below (Nat.le_refl _) _⟩
  · have h3 : decide (en < 2) = false := decide_eq_false h2
    have h4 : numB en = false := by
      cases h : numB en with
      | false => rfl
      | true => exact absurd ⟨by omega, h⟩ HN.out
    rw [h4] at HNu
    clear h4
    go_wp2_with (first | (go_at_call 46; refine (HNu.out _).mono ?_; rintro r w9 ⟨rfl, hw9⟩; subst w9) | (refine wpList_store_row rfl 64 _ _ rfl W.heap.size nil4 rfl rfl 64 _ (C4.out.kept (W.heap.size, _) (List.mem_cons_of_mem _ List.mem_cons_self)) Tryz.sizePart rfl (by simp [Value.oneCell']) ?_))
    refine bodyPost_ret (v := .tuple #[.agg nil4, .int .i64 110]) (res2c Tryz.results27 _ _ W.heap.size 64 nil4 (0, 0) _ rfl (setRow_heap _ _ _ _ _ _ (C4.out.kept (W.heap.size, _) (List.mem_cons_of_mem _ List.mem_cons_self))) Tryz.underlying64 rfl Tryz.sizePart) rfl ⟨_, _, _, _, by rw [HQ.out], ⟨rfl, rfl, rfl, rfl⟩, (fun h0 => by rw [HQ.out] at h0; cases h0), below_setRow C4.out.below (Nat.le_refl _) _⟩
end Go.Proofs.YtbncaiocmklgnaaGreatDoor

/- event: held of any event, where its kind and number may be (c11sgen.py). -/
namespace Go.Proofs.YtbncaiocmklgnaaGreatDoor
open Go.RowKit Go.Lib

theorem chk_of {e : PE} {kk : Nat} (hl : longE e = false) (hkk : e.k = (kk : Int)) (hk1 : 1 ≤ kk) (hk2 : kk ≤ 11) (hn : 2 ≤ e.n ∧ numB e.n = true) : chkE e = if ((kindP kk).all (holdsP e) && bareE (dropE e (kindP kk))) = true then 0 else 110 := by
  have e1 : rightE e = ((kindP kk).all (holdsP e) && bareE (dropE e (kindP kk))) := by
    unfold rightE
    rw [hkk, decide_eq_true (by omega : (1 : Int) ≤ kk), decide_eq_true (by omega : (kk : Int) ≤ 11), decide_eq_true hn.1, hn.2, Int.toNat_natCast]
    rfl
  unfold chkE
  rw [hl, e1]
  rfl
theorem long_lens {e : PE} (h : longE e = false) : e.ns.length ≤ 1000 ∧ e.bs.length ≤ 1000 ∧ e.us.length ≤ 1000 ∧ e.ms.length ≤ 1000 := by
  unfold longE at h
  simp only [Bool.or_eq_false_iff, decide_eq_false_iff_not] at h
  omega
theorem heldH_names (B : Bxs) (eb : Nat) (e : PE) (vn vb vu vm : Value) (X : World) (hK : KW B X) (hE : X.heap[eb]? = some (.cells (evC e vn vb vu vm) 35 (0, 0))) (he : Env3 X) (hL : Lst X e vn vb vu vm) (hl : longE e = false) :
    Calls Tryz.prog 105 #[ptr eb] X fun r w' => r = .returned (.bool ([.names].all (holdsP e))) ∧ Below X.heap.size X w' := by have h := pt_holds .names B eb e vn vb vu vm X hK hE he hL hl; rw [kv_all]; exact h
theorem heldH_box (B : Bxs) (eb : Nat) (e : PE) (vn vb vu vm : Value) (X : World) (hK : KW B X) (hE : X.heap[eb]? = some (.cells (evC e vn vb vu vm) 35 (0, 0))) (he : Env3 X) (hL : Lst X e vn vb vu vm) (hl : longE e = false) :
    Calls Tryz.prog 83 #[ptr eb, ptr B.p1] X fun r w' => r = .returned (.bool ([.box].all (holdsP e))) ∧ Below X.heap.size X w' := by have h := pt_holds .box B eb e vn vb vu vm X hK hE he hL hl; rw [kv_all]; exact h
theorem heldH_name (B : Bxs) (eb : Nat) (e : PE) (vn vb vu vm : Value) (X : World) (hK : KW B X) (hE : X.heap[eb]? = some (.cells (evC e vn vb vu vm) 35 (0, 0))) (he : Env3 X) (hL : Lst X e vn vb vu vm) (hl : longE e = false) :
    Calls Tryz.prog 87 #[ptr eb, ptr B.q4, ptr B.p4] X fun r w' => r = .returned (.bool ([.name].all (holdsP e))) ∧ Below X.heap.size X w' := by have h := pt_holds .name B eb e vn vb vu vm X hK hE he hL hl; rw [kv_all]; exact h
theorem heldH_row (B : Bxs) (eb : Nat) (e : PE) (vn vb vu vm : Value) (X : World) (l : List Pt) (q rb : Nat) (hRk : RowK B l q rb X) (hl9 : l.length ≤ 9) (hK : KW B X) (hE : X.heap[eb]? = some (.cells (evC e vn vb vu vm) 35 (0, 0))) (he : Env3 X) (hL : Lst X e vn vb vu vm) (hl : longE e = false) :
    Calls Tryz.prog 94 #[ptr eb, ptr q] X fun r w' => r = .returned (.bool (l.all (holdsP e))) ∧ Below X.heap.size X w' := row_holds l q rb B eb e vn vb vu vm X hRk hK hE he hL hl hl9
set_option maxHeartbeats 16000000 in
set_option maxRecDepth 20000 in
theorem heldF_ok (eb : Nat) (e : PE) (vn vb vu vm : Value) (W : World) (hE : W.heap[eb]? = some (.cells (evC e vn vb vu vm) 35 (0, 0))) (he : Env3 W) (hL : Lst W e vn vb vu vm) (hl : longE e = false) (kk : Nat) (hkk : e.k = (kk : Int)) (hk1 : 1 ≤ kk) (hk2 : kk ≤ 11) (hn : 2 ≤ e.n ∧ numB e.n = true) :
    Calls Tryz.prog 27 #[ptr eb] W (HeldAt W e) := by
  obtain ⟨W1, hW1⟩ : ∃ W1, W.alloc (.cells nil4 64) = W1 := ⟨_, rfl⟩
  have C1 : Hid (KB W [(W.heap.size, Obj.cells nil4 64 (0, 0)), (eb, Obj.cells (evC e vn vb vu vm) 35 (0, 0))] W1) := Lib.hid (by rw [← hW1]; exact KB.box (KB.add ⟨Below.refl _ _, fun x hx => by cases hx⟩ hE) _)
  have HL := Lib.hid (isLong_any eb e vn vb vu vm W1 (C1.out.kept (eb, _) (List.mem_cons_of_mem _ List.mem_cons_self)) (hL.on C1.out.below))
  rw [hl] at HL
  have HK := Lib.hid (kindOf_any kk hk1 hk2)
  have HCe : Hid (∀ K X, KB W K X → (eb, Obj.cells (evC e vn vb vu vm) 35 (0, 0)) ∈ K → X.cell? ⟨eb, 0, none⟩ = some (.int .i64 e.n) ∧ X.cell? ⟨eb, 1, none⟩ = some (.int .i64 (kk : Int))) := Lib.hid (fun K X hX hm => ⟨(evC_cells (hX.kept (eb, _) hm)).1, by rw [← hkk]; exact (evC_cells (hX.kept (eb, _) hm)).2.1⟩)
  have HQ := Lib.hid (chk_of hl hkk hk1 hk2 hn)
  have HNu : Hid (∀ W, Calls Tryz.prog 46 #[.int .i64 e.n] W fun r w' => r = .returned (.bool true) ∧ w' = W) := Lib.hid (fun W => by have h := isNum_any e.n W; rw [hn.2] at h; exact h)
  have HLs := Lib.hid hL
  have HEn := Lib.hid he
  have HLong := Lib.hid hl
  have HLn := Lib.hid (long_lens hl)
  have h2 : ¬ e.n < 2 := by omega
  have h3 : decide (e.n < 2) = false := decide_eq_false h2
  have HKk : Hid (kindP e.k.toNat = kindP kk) := Lib.hid (by rw [hkk, Int.toNat_natCast])
  clear hE he hL hl hn hk1 hk2 hkk
  go_enter Tryz.func27, Tryz.ntmps27
  go_upto_region 1 with fail
  (try rw [hW1])
  clear hW1
  go_upto_region 3 with (go_at_call 44; refine HL.out.mono ?_; rintro r w1 ⟨rfl, hb1⟩; have C2 := Lib.hid (C1.out.go hb1); clear hb1)
  obtain ⟨c0, c1⟩ := HCe.out _ _ C2.out (List.mem_cons_of_mem _ List.mem_cons_self)
  generalize hne : e.n = en at *
  clear hne
  go_upto_region 4 with (first | (go_at_call 45; refine (HK.out _).mono ?_; rintro r w2 ⟨B, v0, v1, v2, v3, rfl, hkw, hkv, hb2⟩; have C3 := Lib.hid (C2.out.go hb2); have HKW := Lib.hid hkw; have HKV := Lib.hid hkv; clear hb2 hkw hkv) | (refine wpList_store_row rfl 64 _ _ rfl w2.heap.size #[v0, v1, v2, v3] rfl rfl 64 _ (heap_new _ _) Tryz.sizePart rfl (by simp [HKV.out.ones]) ?_))
  obtain ⟨W3, hW3⟩ : ∃ W3, (w2.alloc (.cells nil4 64)).setRow w2.heap.size #[v0, v1, v2, v3] = W3 := ⟨_, rfl⟩
  rw [hW3]
  have C4 := Lib.hid (C3.out.boxed nil4 64 #[v0, v1, v2, v3])
  have hb3 : Below w2.heap.size w2 W3 := by rw [← hW3]; exact below_boxed (Below.refl _ _) _ _
  rw [hW3] at C4
  have HKW3 := Lib.hid (HKW.out.on hb3)
  have HKV3 := Lib.hid (HKV.out.on hb3)
  clear hW3 hb3 HKW HKV C3 c0 c1
  obtain ⟨c0, c1⟩ := HCe.out _ _ C4.out (List.mem_cons_of_mem _ (List.mem_cons_of_mem _ List.mem_cons_self))
  generalize kindP kk = l at *
  have hkv := HKV3.out
  cases hkv with
  | names =>
    have HH : Hid (Calls Tryz.prog 105 #[ptr eb] W3 fun r w' => r = .returned (.bool ([.names].all (holdsP e))) ∧ Below W3.heap.size W3 w') := Lib.hid (heldH_names B eb e vn vb vu vm W3 HKW3.out (C4.out.kept (eb, _) (List.mem_cons_of_mem _ (List.mem_cons_of_mem _ List.mem_cons_self))) (HEn.out.on C4.out.below) (HLs.out.on C4.out.below) HLong.out)
    have HJ : Hid (∀ X, KB W [(w2.heap.size, Obj.cells #[fnV 105 #[], fnV 108 #[], fnV 109 #[], fnV 110 #[]] 64 (0, 0)), (W.heap.size, Obj.cells nil4 64 (0, 0)), (eb, Obj.cells (evC e vn vb vu vm) 35 (0, 0))] X → KW B X → KV B X [.names] (fnV 105 #[]) (fnV 108 #[]) (fnV 109 #[]) (fnV 110 #[]) → Calls Tryz.prog 47 #[ptr eb, .agg #[fnV 105 #[], fnV 108 #[], fnV 109 #[], fnV 110 #[]]] X fun r w' => r = .returned (.bool (bareE (dropE e [.names]))) ∧ Below X.heap.size X w') := Lib.hid (fun X hX hkw hkv => hasJust_any [.names] B _ _ _ _ eb e vn vb vu vm X hkv hkw (hX.kept (eb, _) (List.mem_cons_of_mem _ (List.mem_cons_of_mem _ List.mem_cons_self))) HLs.out.shp HLn.out.1 HLn.out.2.1 HLn.out.2.2.1 HLn.out.2.2.2)
    have HQ0 := Lib.hid HQ.out
    obtain ⟨k0, k1, k2, k3⟩ := part_cells (C4.out.kept (w2.heap.size, _) List.mem_cons_self)
    generalize [.names].all (holdsP e) = qh at *
    generalize bareE (dropE e [.names]) = qj at *
    cases qh with
    | false =>
      have HQ : Hid (chkE e = 110) := Lib.hid (by rw [HQ0.out]; rfl)
      go_wp2_with (first | (go_at_call 46; refine (HNu.out _).mono ?_; rintro r w9 ⟨rfl, hw9⟩; subst w9) | (go_at_call 105; refine HH.out.mono ?_; rintro r w4 ⟨rfl, hb4⟩; have C5 := Lib.hid (C4.out.go hb4); have HKW4 := Lib.hid (HKW3.out.on hb4); have HKV4 := Lib.hid (HKV3.out.on hb4); obtain ⟨j0, j1, j2, j3⟩ := part_cells (C5.out.kept (w2.heap.size, _) List.mem_cons_self); clear hb4) | (refine wpList_store_row rfl 64 _ _ rfl W.heap.size nil4 rfl rfl 64 _ (C5.out.kept (W.heap.size, _) (List.mem_cons_of_mem _ List.mem_cons_self)) Tryz.sizePart rfl (by simp [Value.oneCell']) ?_))
      refine bodyPost_ret (v := .tuple #[.agg nil4, .int .i64 110]) (res2c Tryz.results27 _ _ W.heap.size 64 nil4 (0, 0) _ rfl (setRow_heap _ _ _ _ _ _ (C5.out.kept (W.heap.size, _) (List.mem_cons_of_mem _ List.mem_cons_self))) Tryz.underlying64 rfl Tryz.sizePart) rfl ⟨_, _, _, _, by rw [HQ.out], ⟨rfl, rfl, rfl, rfl⟩, (fun h0 => by rw [HQ.out] at h0; cases h0), below_setRow C5.out.below (Nat.le_refl _) _⟩
    | true =>
      cases qj with
      | false =>
        have HQ : Hid (chkE e = 110) := Lib.hid (by rw [HQ0.out]; rfl)
        go_wp2_with (first | (go_at_call 46; refine (HNu.out _).mono ?_; rintro r w9 ⟨rfl, hw9⟩; subst w9) | (go_at_call 105; refine HH.out.mono ?_; rintro r w4 ⟨rfl, hb4⟩; have C5 := Lib.hid (C4.out.go hb4); have HKW4 := Lib.hid (HKW3.out.on hb4); have HKV4 := Lib.hid (HKV3.out.on hb4); obtain ⟨j0, j1, j2, j3⟩ := part_cells (C5.out.kept (w2.heap.size, _) List.mem_cons_self); clear hb4) | (go_at_call 47; refine (HJ.out _ C5.out HKW4.out HKV4.out).mono ?_; rintro r w5 ⟨rfl, hb5⟩; have C6 := Lib.hid (C5.out.go hb5); have HKW5 := Lib.hid (HKW4.out.on hb5); have HKV5 := Lib.hid (HKV4.out.on hb5); clear hb5) | (refine wpList_store_row rfl 64 _ _ rfl W.heap.size nil4 rfl rfl 64 _ (C6.out.kept (W.heap.size, _) (List.mem_cons_of_mem _ List.mem_cons_self)) Tryz.sizePart rfl (by simp [Value.oneCell']) ?_))
        refine bodyPost_ret (v := .tuple #[.agg nil4, .int .i64 110]) (res2c Tryz.results27 _ _ W.heap.size 64 nil4 (0, 0) _ rfl (setRow_heap _ _ _ _ _ _ (C6.out.kept (W.heap.size, _) (List.mem_cons_of_mem _ List.mem_cons_self))) Tryz.underlying64 rfl Tryz.sizePart) rfl ⟨_, _, _, _, by rw [HQ.out], ⟨rfl, rfl, rfl, rfl⟩, (fun h0 => by rw [HQ.out] at h0; cases h0), below_setRow C6.out.below (Nat.le_refl _) _⟩
      | true =>
        have HQ : Hid (chkE e = 0) := Lib.hid (by rw [HQ0.out]; rfl)
        go_upto_region 6 with (first | (go_at_call 46; refine (HNu.out _).mono ?_; rintro r w9 ⟨rfl, hw9⟩; subst w9) | (go_at_call 105; refine HH.out.mono ?_; rintro r w4 ⟨rfl, hb4⟩; have C5 := Lib.hid (C4.out.go hb4); have HKW4 := Lib.hid (HKW3.out.on hb4); have HKV4 := Lib.hid (HKV3.out.on hb4); obtain ⟨j0, j1, j2, j3⟩ := part_cells (C5.out.kept (w2.heap.size, _) List.mem_cons_self); clear hb4) | (go_at_call 47; refine (HJ.out _ C5.out HKW4.out HKV4.out).mono ?_; rintro r w5 ⟨rfl, hb5⟩; have C6 := Lib.hid (C5.out.go hb5); have HKW5 := Lib.hid (HKW4.out.on hb5); have HKV5 := Lib.hid (HKV4.out.on hb5); clear hb5))
        obtain ⟨i0, i1, i2, i3⟩ := part_cells (C6.out.kept (w2.heap.size, _) List.mem_cons_self)
        go_wp2_with (refine wpList_store_row rfl 64 _ _ rfl W.heap.size #[fnV 105 #[], fnV 108 #[], fnV 109 #[], fnV 110 #[]] rfl rfl 64 _ (C6.out.kept (W.heap.size, _) (List.mem_cons_of_mem _ List.mem_cons_self)) Tryz.sizePart rfl (by simp [Value.oneCell']) ?_)
        have HO2 : Hid (∀ c, W.heap.size ≠ c → (w5.setRow W.heap.size #[fnV 105 #[], fnV 108 #[], fnV 109 #[], fnV 110 #[]]).heap[c]? = w5.heap[c]?) := Lib.hid (fun c hc => setRow_other _ _ _ _ (Ne.symm hc))
        refine bodyPost_ret (v := .tuple #[.agg #[fnV 105 #[], fnV 108 #[], fnV 109 #[], fnV 110 #[]], .int .i64 0]) (res2c Tryz.results27 _ _ W.heap.size 64 #[fnV 105 #[], fnV 108 #[], fnV 109 #[], fnV 110 #[]] (0, 0) _ rfl (setRow_heap _ _ _ _ _ _ (C6.out.kept (W.heap.size, _) (List.mem_cons_of_mem _ List.mem_cons_self))) Tryz.underlying64 rfl Tryz.sizePart) rfl ⟨_, _, _, _, by rw [HQ.out], ⟨rfl, rfl, rfl, rfl⟩, (fun _ => ⟨B, HKW5.out.move (C6.out.kept (W.heap.size, _) (List.mem_cons_of_mem _ List.mem_cons_self)) HO2.out, by rw [HKk.out]; exact HKV5.out.move (C6.out.kept (W.heap.size, _) (List.mem_cons_of_mem _ List.mem_cons_self)) HO2.out⟩), below_setRow C6.out.below (Nat.le_refl _) _⟩
  | box =>
    have HH : Hid (Calls Tryz.prog 83 #[ptr eb, ptr B.p1] W3 fun r w' => r = .returned (.bool ([.box].all (holdsP e))) ∧ Below W3.heap.size W3 w') := Lib.hid (heldH_box B eb e vn vb vu vm W3 HKW3.out (C4.out.kept (eb, _) (List.mem_cons_of_mem _ (List.mem_cons_of_mem _ List.mem_cons_self))) (HEn.out.on C4.out.below) (HLs.out.on C4.out.below) HLong.out)
    have HJ : Hid (∀ X, KB W [(w2.heap.size, Obj.cells #[fnV 83 #[ptr B.p1], fnV 84 #[ptr B.p1], fnV 85 #[ptr B.p1], fnV 86 #[ptr B.p1]] 64 (0, 0)), (W.heap.size, Obj.cells nil4 64 (0, 0)), (eb, Obj.cells (evC e vn vb vu vm) 35 (0, 0))] X → KW B X → KV B X [.box] (fnV 83 #[ptr B.p1]) (fnV 84 #[ptr B.p1]) (fnV 85 #[ptr B.p1]) (fnV 86 #[ptr B.p1]) → Calls Tryz.prog 47 #[ptr eb, .agg #[fnV 83 #[ptr B.p1], fnV 84 #[ptr B.p1], fnV 85 #[ptr B.p1], fnV 86 #[ptr B.p1]]] X fun r w' => r = .returned (.bool (bareE (dropE e [.box]))) ∧ Below X.heap.size X w') := Lib.hid (fun X hX hkw hkv => hasJust_any [.box] B _ _ _ _ eb e vn vb vu vm X hkv hkw (hX.kept (eb, _) (List.mem_cons_of_mem _ (List.mem_cons_of_mem _ List.mem_cons_self))) HLs.out.shp HLn.out.1 HLn.out.2.1 HLn.out.2.2.1 HLn.out.2.2.2)
    have HQ0 := Lib.hid HQ.out
    obtain ⟨k0, k1, k2, k3⟩ := part_cells (C4.out.kept (w2.heap.size, _) List.mem_cons_self)
    generalize [.box].all (holdsP e) = qh at *
    generalize bareE (dropE e [.box]) = qj at *
    cases qh with
    | false =>
      have HQ : Hid (chkE e = 110) := Lib.hid (by rw [HQ0.out]; rfl)
      go_wp2_with (first | (go_at_call 46; refine (HNu.out _).mono ?_; rintro r w9 ⟨rfl, hw9⟩; subst w9) | (go_at_call 83; refine HH.out.mono ?_; rintro r w4 ⟨rfl, hb4⟩; have C5 := Lib.hid (C4.out.go hb4); have HKW4 := Lib.hid (HKW3.out.on hb4); have HKV4 := Lib.hid (HKV3.out.on hb4); obtain ⟨j0, j1, j2, j3⟩ := part_cells (C5.out.kept (w2.heap.size, _) List.mem_cons_self); clear hb4) | (refine wpList_store_row rfl 64 _ _ rfl W.heap.size nil4 rfl rfl 64 _ (C5.out.kept (W.heap.size, _) (List.mem_cons_of_mem _ List.mem_cons_self)) Tryz.sizePart rfl (by simp [Value.oneCell']) ?_))
      refine bodyPost_ret (v := .tuple #[.agg nil4, .int .i64 110]) (res2c Tryz.results27 _ _ W.heap.size 64 nil4 (0, 0) _ rfl (setRow_heap _ _ _ _ _ _ (C5.out.kept (W.heap.size, _) (List.mem_cons_of_mem _ List.mem_cons_self))) Tryz.underlying64 rfl Tryz.sizePart) rfl ⟨_, _, _, _, by rw [HQ.out], ⟨rfl, rfl, rfl, rfl⟩, (fun h0 => by rw [HQ.out] at h0; cases h0), below_setRow C5.out.below (Nat.le_refl _) _⟩
    | true =>
      cases qj with
      | false =>
        have HQ : Hid (chkE e = 110) := Lib.hid (by rw [HQ0.out]; rfl)
        go_wp2_with (first | (go_at_call 46; refine (HNu.out _).mono ?_; rintro r w9 ⟨rfl, hw9⟩; subst w9) | (go_at_call 83; refine HH.out.mono ?_; rintro r w4 ⟨rfl, hb4⟩; have C5 := Lib.hid (C4.out.go hb4); have HKW4 := Lib.hid (HKW3.out.on hb4); have HKV4 := Lib.hid (HKV3.out.on hb4); obtain ⟨j0, j1, j2, j3⟩ := part_cells (C5.out.kept (w2.heap.size, _) List.mem_cons_self); clear hb4) | (go_at_call 47; refine (HJ.out _ C5.out HKW4.out HKV4.out).mono ?_; rintro r w5 ⟨rfl, hb5⟩; have C6 := Lib.hid (C5.out.go hb5); have HKW5 := Lib.hid (HKW4.out.on hb5); have HKV5 := Lib.hid (HKV4.out.on hb5); clear hb5) | (refine wpList_store_row rfl 64 _ _ rfl W.heap.size nil4 rfl rfl 64 _ (C6.out.kept (W.heap.size, _) (List.mem_cons_of_mem _ List.mem_cons_self)) Tryz.sizePart rfl (by simp [Value.oneCell']) ?_))
        refine bodyPost_ret (v := .tuple #[.agg nil4, .int .i64 110]) (res2c Tryz.results27 _ _ W.heap.size 64 nil4 (0, 0) _ rfl (setRow_heap _ _ _ _ _ _ (C6.out.kept (W.heap.size, _) (List.mem_cons_of_mem _ List.mem_cons_self))) Tryz.underlying64 rfl Tryz.sizePart) rfl ⟨_, _, _, _, by rw [HQ.out], ⟨rfl, rfl, rfl, rfl⟩, (fun h0 => by rw [HQ.out] at h0; cases h0), below_setRow C6.out.below (Nat.le_refl _) _⟩
      | true =>
        have HQ : Hid (chkE e = 0) := Lib.hid (by rw [HQ0.out]; rfl)
        go_upto_region 6 with (first | (go_at_call 46; refine (HNu.out _).mono ?_; rintro r w9 ⟨rfl, hw9⟩; subst w9) | (go_at_call 83; refine HH.out.mono ?_; rintro r w4 ⟨rfl, hb4⟩; have C5 := Lib.hid (C4.out.go hb4); have HKW4 := Lib.hid (HKW3.out.on hb4); have HKV4 := Lib.hid (HKV3.out.on hb4); obtain ⟨j0, j1, j2, j3⟩ := part_cells (C5.out.kept (w2.heap.size, _) List.mem_cons_self); clear hb4) | (go_at_call 47; refine (HJ.out _ C5.out HKW4.out HKV4.out).mono ?_; rintro r w5 ⟨rfl, hb5⟩; have C6 := Lib.hid (C5.out.go hb5); have HKW5 := Lib.hid (HKW4.out.on hb5); have HKV5 := Lib.hid (HKV4.out.on hb5); clear hb5))
        obtain ⟨i0, i1, i2, i3⟩ := part_cells (C6.out.kept (w2.heap.size, _) List.mem_cons_self)
        go_wp2_with (refine wpList_store_row rfl 64 _ _ rfl W.heap.size #[fnV 83 #[ptr B.p1], fnV 84 #[ptr B.p1], fnV 85 #[ptr B.p1], fnV 86 #[ptr B.p1]] rfl rfl 64 _ (C6.out.kept (W.heap.size, _) (List.mem_cons_of_mem _ List.mem_cons_self)) Tryz.sizePart rfl (by simp [Value.oneCell']) ?_)
        have HO2 : Hid (∀ c, W.heap.size ≠ c → (w5.setRow W.heap.size #[fnV 83 #[ptr B.p1], fnV 84 #[ptr B.p1], fnV 85 #[ptr B.p1], fnV 86 #[ptr B.p1]]).heap[c]? = w5.heap[c]?) := Lib.hid (fun c hc => setRow_other _ _ _ _ (Ne.symm hc))
        refine bodyPost_ret (v := .tuple #[.agg #[fnV 83 #[ptr B.p1], fnV 84 #[ptr B.p1], fnV 85 #[ptr B.p1], fnV 86 #[ptr B.p1]], .int .i64 0]) (res2c Tryz.results27 _ _ W.heap.size 64 #[fnV 83 #[ptr B.p1], fnV 84 #[ptr B.p1], fnV 85 #[ptr B.p1], fnV 86 #[ptr B.p1]] (0, 0) _ rfl (setRow_heap _ _ _ _ _ _ (C6.out.kept (W.heap.size, _) (List.mem_cons_of_mem _ List.mem_cons_self))) Tryz.underlying64 rfl Tryz.sizePart) rfl ⟨_, _, _, _, by rw [HQ.out], ⟨rfl, rfl, rfl, rfl⟩, (fun _ => ⟨B, HKW5.out.move (C6.out.kept (W.heap.size, _) (List.mem_cons_of_mem _ List.mem_cons_self)) HO2.out, by rw [HKk.out]; exact HKV5.out.move (C6.out.kept (W.heap.size, _) (List.mem_cons_of_mem _ List.mem_cons_self)) HO2.out⟩), below_setRow C6.out.below (Nat.le_refl _) _⟩
  | name =>
    have HH : Hid (Calls Tryz.prog 87 #[ptr eb, ptr B.q4, ptr B.p4] W3 fun r w' => r = .returned (.bool ([.name].all (holdsP e))) ∧ Below W3.heap.size W3 w') := Lib.hid (heldH_name B eb e vn vb vu vm W3 HKW3.out (C4.out.kept (eb, _) (List.mem_cons_of_mem _ (List.mem_cons_of_mem _ List.mem_cons_self))) (HEn.out.on C4.out.below) (HLs.out.on C4.out.below) HLong.out)
    have HJ : Hid (∀ X, KB W [(w2.heap.size, Obj.cells #[fnV 87 #[ptr B.q4, ptr B.p4], fnV 88 #[ptr B.p4], fnV 90 #[ptr B.p4], fnV 92 #[ptr B.p4]] 64 (0, 0)), (W.heap.size, Obj.cells nil4 64 (0, 0)), (eb, Obj.cells (evC e vn vb vu vm) 35 (0, 0))] X → KW B X → KV B X [.name] (fnV 87 #[ptr B.q4, ptr B.p4]) (fnV 88 #[ptr B.p4]) (fnV 90 #[ptr B.p4]) (fnV 92 #[ptr B.p4]) → Calls Tryz.prog 47 #[ptr eb, .agg #[fnV 87 #[ptr B.q4, ptr B.p4], fnV 88 #[ptr B.p4], fnV 90 #[ptr B.p4], fnV 92 #[ptr B.p4]]] X fun r w' => r = .returned (.bool (bareE (dropE e [.name]))) ∧ Below X.heap.size X w') := Lib.hid (fun X hX hkw hkv => hasJust_any [.name] B _ _ _ _ eb e vn vb vu vm X hkv hkw (hX.kept (eb, _) (List.mem_cons_of_mem _ (List.mem_cons_of_mem _ List.mem_cons_self))) HLs.out.shp HLn.out.1 HLn.out.2.1 HLn.out.2.2.1 HLn.out.2.2.2)
    have HQ0 := Lib.hid HQ.out
    obtain ⟨k0, k1, k2, k3⟩ := part_cells (C4.out.kept (w2.heap.size, _) List.mem_cons_self)
    generalize [.name].all (holdsP e) = qh at *
    generalize bareE (dropE e [.name]) = qj at *
    cases qh with
    | false =>
      have HQ : Hid (chkE e = 110) := Lib.hid (by rw [HQ0.out]; rfl)
      go_wp2_with (first | (go_at_call 46; refine (HNu.out _).mono ?_; rintro r w9 ⟨rfl, hw9⟩; subst w9) | (go_at_call 87; refine HH.out.mono ?_; rintro r w4 ⟨rfl, hb4⟩; have C5 := Lib.hid (C4.out.go hb4); have HKW4 := Lib.hid (HKW3.out.on hb4); have HKV4 := Lib.hid (HKV3.out.on hb4); obtain ⟨j0, j1, j2, j3⟩ := part_cells (C5.out.kept (w2.heap.size, _) List.mem_cons_self); clear hb4) | (refine wpList_store_row rfl 64 _ _ rfl W.heap.size nil4 rfl rfl 64 _ (C5.out.kept (W.heap.size, _) (List.mem_cons_of_mem _ List.mem_cons_self)) Tryz.sizePart rfl (by simp [Value.oneCell']) ?_))
      refine bodyPost_ret (v := .tuple #[.agg nil4, .int .i64 110]) (res2c Tryz.results27 _ _ W.heap.size 64 nil4 (0, 0) _ rfl (setRow_heap _ _ _ _ _ _ (C5.out.kept (W.heap.size, _) (List.mem_cons_of_mem _ List.mem_cons_self))) Tryz.underlying64 rfl Tryz.sizePart) rfl ⟨_, _, _, _, by rw [HQ.out], ⟨rfl, rfl, rfl, rfl⟩, (fun h0 => by rw [HQ.out] at h0; cases h0), below_setRow C5.out.below (Nat.le_refl _) _⟩
    | true =>
      cases qj with
      | false =>
        have HQ : Hid (chkE e = 110) := Lib.hid (by rw [HQ0.out]; rfl)
        go_wp2_with (first | (go_at_call 46; refine (HNu.out _).mono ?_; rintro r w9 ⟨rfl, hw9⟩; subst w9) | (go_at_call 87; refine HH.out.mono ?_; rintro r w4 ⟨rfl, hb4⟩; have C5 := Lib.hid (C4.out.go hb4); have HKW4 := Lib.hid (HKW3.out.on hb4); have HKV4 := Lib.hid (HKV3.out.on hb4); obtain ⟨j0, j1, j2, j3⟩ := part_cells (C5.out.kept (w2.heap.size, _) List.mem_cons_self); clear hb4) | (go_at_call 47; refine (HJ.out _ C5.out HKW4.out HKV4.out).mono ?_; rintro r w5 ⟨rfl, hb5⟩; have C6 := Lib.hid (C5.out.go hb5); have HKW5 := Lib.hid (HKW4.out.on hb5); have HKV5 := Lib.hid (HKV4.out.on hb5); clear hb5) | (refine wpList_store_row rfl 64 _ _ rfl W.heap.size nil4 rfl rfl 64 _ (C6.out.kept (W.heap.size, _) (List.mem_cons_of_mem _ List.mem_cons_self)) Tryz.sizePart rfl (by simp [Value.oneCell']) ?_))
        refine bodyPost_ret (v := .tuple #[.agg nil4, .int .i64 110]) (res2c Tryz.results27 _ _ W.heap.size 64 nil4 (0, 0) _ rfl (setRow_heap _ _ _ _ _ _ (C6.out.kept (W.heap.size, _) (List.mem_cons_of_mem _ List.mem_cons_self))) Tryz.underlying64 rfl Tryz.sizePart) rfl ⟨_, _, _, _, by rw [HQ.out], ⟨rfl, rfl, rfl, rfl⟩, (fun h0 => by rw [HQ.out] at h0; cases h0), below_setRow C6.out.below (Nat.le_refl _) _⟩
      | true =>
        have HQ : Hid (chkE e = 0) := Lib.hid (by rw [HQ0.out]; rfl)
        go_upto_region 6 with (first | (go_at_call 46; refine (HNu.out _).mono ?_; rintro r w9 ⟨rfl, hw9⟩; subst w9) | (go_at_call 87; refine HH.out.mono ?_; rintro r w4 ⟨rfl, hb4⟩; have C5 := Lib.hid (C4.out.go hb4); have HKW4 := Lib.hid (HKW3.out.on hb4); have HKV4 := Lib.hid (HKV3.out.on hb4); obtain ⟨j0, j1, j2, j3⟩ := part_cells (C5.out.kept (w2.heap.size, _) List.mem_cons_self); clear hb4) | (go_at_call 47; refine (HJ.out _ C5.out HKW4.out HKV4.out).mono ?_; rintro r w5 ⟨rfl, hb5⟩; have C6 := Lib.hid (C5.out.go hb5); have HKW5 := Lib.hid (HKW4.out.on hb5); have HKV5 := Lib.hid (HKV4.out.on hb5); clear hb5))
        obtain ⟨i0, i1, i2, i3⟩ := part_cells (C6.out.kept (w2.heap.size, _) List.mem_cons_self)
        go_wp2_with (refine wpList_store_row rfl 64 _ _ rfl W.heap.size #[fnV 87 #[ptr B.q4, ptr B.p4], fnV 88 #[ptr B.p4], fnV 90 #[ptr B.p4], fnV 92 #[ptr B.p4]] rfl rfl 64 _ (C6.out.kept (W.heap.size, _) (List.mem_cons_of_mem _ List.mem_cons_self)) Tryz.sizePart rfl (by simp [Value.oneCell']) ?_)
        have HO2 : Hid (∀ c, W.heap.size ≠ c → (w5.setRow W.heap.size #[fnV 87 #[ptr B.q4, ptr B.p4], fnV 88 #[ptr B.p4], fnV 90 #[ptr B.p4], fnV 92 #[ptr B.p4]]).heap[c]? = w5.heap[c]?) := Lib.hid (fun c hc => setRow_other _ _ _ _ (Ne.symm hc))
        refine bodyPost_ret (v := .tuple #[.agg #[fnV 87 #[ptr B.q4, ptr B.p4], fnV 88 #[ptr B.p4], fnV 90 #[ptr B.p4], fnV 92 #[ptr B.p4]], .int .i64 0]) (res2c Tryz.results27 _ _ W.heap.size 64 #[fnV 87 #[ptr B.q4, ptr B.p4], fnV 88 #[ptr B.p4], fnV 90 #[ptr B.p4], fnV 92 #[ptr B.p4]] (0, 0) _ rfl (setRow_heap _ _ _ _ _ _ (C6.out.kept (W.heap.size, _) (List.mem_cons_of_mem _ List.mem_cons_self))) Tryz.underlying64 rfl Tryz.sizePart) rfl ⟨_, _, _, _, by rw [HQ.out], ⟨rfl, rfl, rfl, rfl⟩, (fun _ => ⟨B, HKW5.out.move (C6.out.kept (W.heap.size, _) (List.mem_cons_of_mem _ List.mem_cons_self)) HO2.out, by rw [HKk.out]; exact HKV5.out.move (C6.out.kept (W.heap.size, _) (List.mem_cons_of_mem _ List.mem_cons_self)) HO2.out⟩), below_setRow C6.out.below (Nat.le_refl _) _⟩
  | row l q rb h hl9 h29 =>
    have HH : Hid (Calls Tryz.prog 94 #[ptr eb, ptr q] W3 fun r w' => r = .returned (.bool (l.all (holdsP e))) ∧ Below W3.heap.size W3 w') := Lib.hid (heldH_row B eb e vn vb vu vm W3 l q rb h hl9 HKW3.out (C4.out.kept (eb, _) (List.mem_cons_of_mem _ (List.mem_cons_of_mem _ List.mem_cons_self))) (HEn.out.on C4.out.below) (HLs.out.on C4.out.below) HLong.out)
    have HJ : Hid (∀ X, KB W [(w2.heap.size, Obj.cells #[fnV 94 #[ptr q], fnV 95 #[ptr q], fnV 96 #[ptr q], fnV 97 #[ptr q]] 64 (0, 0)), (W.heap.size, Obj.cells nil4 64 (0, 0)), (eb, Obj.cells (evC e vn vb vu vm) 35 (0, 0))] X → KW B X → KV B X l (fnV 94 #[ptr q]) (fnV 95 #[ptr q]) (fnV 96 #[ptr q]) (fnV 97 #[ptr q]) → Calls Tryz.prog 47 #[ptr eb, .agg #[fnV 94 #[ptr q], fnV 95 #[ptr q], fnV 96 #[ptr q], fnV 97 #[ptr q]]] X fun r w' => r = .returned (.bool (bareE (dropE e l))) ∧ Below X.heap.size X w') := Lib.hid (fun X hX hkw hkv => hasJust_any l B _ _ _ _ eb e vn vb vu vm X hkv hkw (hX.kept (eb, _) (List.mem_cons_of_mem _ (List.mem_cons_of_mem _ List.mem_cons_self))) HLs.out.shp HLn.out.1 HLn.out.2.1 HLn.out.2.2.1 HLn.out.2.2.2)
    have HQ0 := Lib.hid HQ.out
    clear h hl9 h29
    obtain ⟨k0, k1, k2, k3⟩ := part_cells (C4.out.kept (w2.heap.size, _) List.mem_cons_self)
    generalize l.all (holdsP e) = qh at *
    generalize bareE (dropE e l) = qj at *
    cases qh with
    | false =>
      have HQ : Hid (chkE e = 110) := Lib.hid (by rw [HQ0.out]; rfl)
      go_wp2_with (first | (go_at_call 46; refine (HNu.out _).mono ?_; rintro r w9 ⟨rfl, hw9⟩; subst w9) | (go_at_call 94; refine HH.out.mono ?_; rintro r w4 ⟨rfl, hb4⟩; have C5 := Lib.hid (C4.out.go hb4); have HKW4 := Lib.hid (HKW3.out.on hb4); have HKV4 := Lib.hid (HKV3.out.on hb4); obtain ⟨j0, j1, j2, j3⟩ := part_cells (C5.out.kept (w2.heap.size, _) List.mem_cons_self); clear hb4) | (refine wpList_store_row rfl 64 _ _ rfl W.heap.size nil4 rfl rfl 64 _ (C5.out.kept (W.heap.size, _) (List.mem_cons_of_mem _ List.mem_cons_self)) Tryz.sizePart rfl (by simp [Value.oneCell']) ?_))
      refine bodyPost_ret (v := .tuple #[.agg nil4, .int .i64 110]) (res2c Tryz.results27 _ _ W.heap.size 64 nil4 (0, 0) _ rfl (setRow_heap _ _ _ _ _ _ (C5.out.kept (W.heap.size, _) (List.mem_cons_of_mem _ List.mem_cons_self))) Tryz.underlying64 rfl Tryz.sizePart) rfl ⟨_, _, _, _, by rw [HQ.out], ⟨rfl, rfl, rfl, rfl⟩, (fun h0 => by rw [HQ.out] at h0; cases h0), below_setRow C5.out.below (Nat.le_refl _) _⟩
    | true =>
      cases qj with
      | false =>
        have HQ : Hid (chkE e = 110) := Lib.hid (by rw [HQ0.out]; rfl)
        go_wp2_with (first | (go_at_call 46; refine (HNu.out _).mono ?_; rintro r w9 ⟨rfl, hw9⟩; subst w9) | (go_at_call 94; refine HH.out.mono ?_; rintro r w4 ⟨rfl, hb4⟩; have C5 := Lib.hid (C4.out.go hb4); have HKW4 := Lib.hid (HKW3.out.on hb4); have HKV4 := Lib.hid (HKV3.out.on hb4); obtain ⟨j0, j1, j2, j3⟩ := part_cells (C5.out.kept (w2.heap.size, _) List.mem_cons_self); clear hb4) | (go_at_call 47; refine (HJ.out _ C5.out HKW4.out HKV4.out).mono ?_; rintro r w5 ⟨rfl, hb5⟩; have C6 := Lib.hid (C5.out.go hb5); have HKW5 := Lib.hid (HKW4.out.on hb5); have HKV5 := Lib.hid (HKV4.out.on hb5); clear hb5) | (refine wpList_store_row rfl 64 _ _ rfl W.heap.size nil4 rfl rfl 64 _ (C6.out.kept (W.heap.size, _) (List.mem_cons_of_mem _ List.mem_cons_self)) Tryz.sizePart rfl (by simp [Value.oneCell']) ?_))
        refine bodyPost_ret (v := .tuple #[.agg nil4, .int .i64 110]) (res2c Tryz.results27 _ _ W.heap.size 64 nil4 (0, 0) _ rfl (setRow_heap _ _ _ _ _ _ (C6.out.kept (W.heap.size, _) (List.mem_cons_of_mem _ List.mem_cons_self))) Tryz.underlying64 rfl Tryz.sizePart) rfl ⟨_, _, _, _, by rw [HQ.out], ⟨rfl, rfl, rfl, rfl⟩, (fun h0 => by rw [HQ.out] at h0; cases h0), below_setRow C6.out.below (Nat.le_refl _) _⟩
      | true =>
        have HQ : Hid (chkE e = 0) := Lib.hid (by rw [HQ0.out]; rfl)
        go_upto_region 6 with (first | (go_at_call 46; refine (HNu.out _).mono ?_; rintro r w9 ⟨rfl, hw9⟩; subst w9) | (go_at_call 94; refine HH.out.mono ?_; rintro r w4 ⟨rfl, hb4⟩; have C5 := Lib.hid (C4.out.go hb4); have HKW4 := Lib.hid (HKW3.out.on hb4); have HKV4 := Lib.hid (HKV3.out.on hb4); obtain ⟨j0, j1, j2, j3⟩ := part_cells (C5.out.kept (w2.heap.size, _) List.mem_cons_self); clear hb4) | (go_at_call 47; refine (HJ.out _ C5.out HKW4.out HKV4.out).mono ?_; rintro r w5 ⟨rfl, hb5⟩; have C6 := Lib.hid (C5.out.go hb5); have HKW5 := Lib.hid (HKW4.out.on hb5); have HKV5 := Lib.hid (HKV4.out.on hb5); clear hb5))
        obtain ⟨i0, i1, i2, i3⟩ := part_cells (C6.out.kept (w2.heap.size, _) List.mem_cons_self)
        go_wp2_with (refine wpList_store_row rfl 64 _ _ rfl W.heap.size #[fnV 94 #[ptr q], fnV 95 #[ptr q], fnV 96 #[ptr q], fnV 97 #[ptr q]] rfl rfl 64 _ (C6.out.kept (W.heap.size, _) (List.mem_cons_of_mem _ List.mem_cons_self)) Tryz.sizePart rfl (by simp [Value.oneCell']) ?_)
        have HO2 : Hid (∀ c, W.heap.size ≠ c → (w5.setRow W.heap.size #[fnV 94 #[ptr q], fnV 95 #[ptr q], fnV 96 #[ptr q], fnV 97 #[ptr q]]).heap[c]? = w5.heap[c]?) := Lib.hid (fun c hc => setRow_other _ _ _ _ (Ne.symm hc))
        refine bodyPost_ret (v := .tuple #[.agg #[fnV 94 #[ptr q], fnV 95 #[ptr q], fnV 96 #[ptr q], fnV 97 #[ptr q]], .int .i64 0]) (res2c Tryz.results27 _ _ W.heap.size 64 #[fnV 94 #[ptr q], fnV 95 #[ptr q], fnV 96 #[ptr q], fnV 97 #[ptr q]] (0, 0) _ rfl (setRow_heap _ _ _ _ _ _ (C6.out.kept (W.heap.size, _) (List.mem_cons_of_mem _ List.mem_cons_self))) Tryz.underlying64 rfl Tryz.sizePart) rfl ⟨_, _, _, _, by rw [HQ.out], ⟨rfl, rfl, rfl, rfl⟩, (fun _ => ⟨B, HKW5.out.move (C6.out.kept (W.heap.size, _) (List.mem_cons_of_mem _ List.mem_cons_self)) HO2.out, by rw [HKk.out]; exact HKV5.out.move (C6.out.kept (W.heap.size, _) (List.mem_cons_of_mem _ List.mem_cons_self)) HO2.out⟩), below_setRow C6.out.below (Nat.le_refl _) _⟩
theorem held_any (eb : Nat) (e : PE) (vn vb vu vm : Value) (W : World) (hE : W.heap[eb]? = some (.cells (evC e vn vb vu vm) 35 (0, 0))) (he : Env3 W) (hL : Lst W e vn vb vu vm) : Calls Tryz.prog 27 #[ptr eb] W (HeldAt W e) := by
  cases hl : longE e with
  | true => exact heldF_long eb e vn vb vu vm W hE he hL hl
  | false =>
    by_cases hk : 1 ≤ e.k ∧ e.k ≤ 11
    · obtain ⟨kk, hkk⟩ := Int.eq_ofNat_of_zero_le (show 0 ≤ e.k by omega)
      by_cases hn : 2 ≤ e.n ∧ numB e.n = true
      · exact heldF_ok eb e vn vb vu vm W hE he hL hl kk hkk (by omega) (by omega) hn
      · exact heldF_num eb e vn vb vu vm W hE he hL hl kk hkk (by omega) (by omega) hn
    · exact heldF_kind eb e vn vb vu vm W hE he hL hl hk
end Go.Proofs.YtbncaiocmklgnaaGreatDoor

/- event: Decode, of the bytes of an event with a name. -/
import Derived.Test.YtbncaiocmklgnaaGreatDoorV11p
import Derived.Defers
import Derived.Recover
namespace Go.Proofs.YtbncaiocmklgnaaGreatDoor
open Go.RowKit Go.Lib

/-- Two results in cells, the second one of one cell. -/
theorem resCC {P : Program} {fn : Func} {p u : Tmp} {ty ty2 : TypeId} (h : fn.results = #[.cell p ty, .cell u ty2]) (tmps : Array Value) (w : World) (g g2 : Nat) (t : TypeId) (cs : Array Value) (fr : Nat × Nat) (d : TypeDesc) (v : Value)
    (hp : tmps.getD p undef = .pointer (some ⟨g, 0, none⟩)) (hg : w.heap[g]? = some (.cells cs t fr)) (hu : P.underlying ty = some d) (hd : (match d with | .struct _ | .array _ _ => true | _ => false) = true) (hi : (P.info? ty).map (·.size) = some cs.size)
    (hq : tmps.getD u undef = .pointer (some ⟨g2, 0, none⟩)) (hl : (loadVar ty2 ⟨g2, 0, none⟩).run P w = .ok v w) :
    (results fn tmps).run P w = .ok (.tuple #[.agg cs, v]) w := by
  have hp' : tmps[p]?.getD undef = .pointer (some ⟨g, 0, none⟩) := by simpa using hp
  have hq' : tmps[u]?.getD undef = .pointer (some ⟨g2, 0, none⟩) := by simpa using hq
  simp [results, h, hp', hq', asAddr, Result.andThen, run_loadVar_row w g t ty cs fr d hg hu hd hi, hl]
theorem errno_load (w : World) (g : Nat) (v : Value) (hv : w.cell? ⟨g, 0, none⟩ = some v) : (loadVar 24 ⟨g, 0, none⟩).run Tryz.prog w = .ok v w := by
  have ha : (isAgg 24).run Tryz.prog w = .ok false w := by
    simp [isAgg, go_sem]
  simp [loadVar, ha, Result.andThen, go_sem, hv]
theorem decode1_idle (a b : Nat) (w : World) :
    CallsD Tryz.prog 33 #[ptr a, ptr b] .returning w fun e u' w' => e = .returned (.tuple #[]) ∧ u' = .returning ∧ w' = w := by
  refine callsD_of_wpS Tryz.func33 rfl fun c₀ cs hu => ?_
  apply wpS_seq
  apply wpS_region
  simp [wpOpsS, go_sem, recoverD, hu, Tryz.ntmps33, Exit.thenS]
  refine wpS_cond (t := false) (by simp [Act.eval, Array.replicate]) ?_
  simp only [Bool.false_eq_true, if_false]
  refine wpS_of_wp (wp_skip ?_)
  cases c₀
  simp_all [bodyPostS, results, Tryz.results33]
theorem KB.kc {cb : Nat} {w W W' : World} {K K2 : List (Nat × Obj)} {o0 : Obj} (h : KB w ((cb, o0) :: K) W) (h2 : KC cb W K2 W') (hc : w.heap.size ≤ cb) (hn : ∀ x, x ∈ K → x.1 ≠ cb) : KB w K W' := by
  refine ⟨h.below.trans ⟨h2.os, h2.tape, h2.output, h2.size, fun g hg => ?_⟩, fun x hx => ?_⟩
  · exact h2.old g (Nat.lt_of_lt_of_le hg h.below.size) (by omega)
  · rw [h2.old _ (lt_of_heap (h.kept x (List.mem_cons_of_mem _ hx))) (hn x hx)]
    exact h.kept x (List.mem_cons_of_mem _ hx)
set_option maxHeartbeats 8000000 in
set_option maxRecDepth 20000 in
theorem Decode_name (n : UInt8) (s : ByteArray) (w : World) (he : Env w) (hn : 2 ≤ n.toNat ∧ n.toNat ≤ 127) (hc : (wire (L s)).2 = 0) (hs : s.size ≤ 127) :
    Calls Tryz.prog 16 #[.string (S (evB n s))] w fun e w' => e = .returned (.tuple #[.agg (evV (n.toNat : Int) 10 s none 0 0), .int .i64 0]) ∧ Below w.heap.size w w' := by
  have hm := Tryz.makeF
  have e1 : (UInt8.ofNat s.size).toNat = s.size := by simp; omega
  have e2 : (L s).length = s.size := L_length s
  have hsz : (S (evB n s)).size = 3 + s.size := by rw [S_size]; unfold evB; simp; omega
  have hle : ¬ 2097152 < ((S (evB n s)).size : Int) := by rw [hsz]; omega
  have hls : S ((L s).take s.size) = s := by rw [← e2, List.take_length]; rfl
  have HEv : Hid (∀ cb X, X.heap[cb]? = some (curO (evB n s)) → Calls Tryz.prog 34 #[ptr cb] X fun e w' => e = .returned (.agg (evV (n.toNat : Int) 10 s none 0 0)) ∧ ∃ l2, KC cb X [(cb, curO l2)] w') := Lib.hid (fun cb X hX => by
    have h1 := event_name (cb := cb) (n := n) (k := UInt8.ofNat s.size) (l := L s) (w := X) ⟨hX⟩ (by rw [e2]; omega) hn.2 (by rw [e1]; exact hs) (by rw [e1, e2]; exact Nat.le_refl _)
    rw [e1, hls] at h1
    exact h1.mono (fun e w' ⟨q1, q2⟩ => ⟨q1, _, q2⟩))
  have HEn := Lib.hid (fun X (hX : Env X) => Encode_name n s X hX hn hc hs)
  have HE := Lib.hid he
  have tt : ((S (evB n s)).toList == (S (evB n s)).toList) = true := by simp
  clear e1 e2 hsz hls he hn hc hs
  obtain ⟨bs, hbs⟩ : ∃ bs, S (evB n s) = bs := ⟨_, rfl⟩
  have HBs := Lib.hid hbs
  rw [hbs] at HEn hle tt ⊢
  clear hbs
  go_enter_defers Tryz.func16, Tryz.ntmps16
  go_upto_region 5 with fail
  obtain ⟨W1, hW1⟩ : ∃ W1, ((w.alloc (.cells ev0 35)).alloc (.cells #[.int .i64 0] 24)).alloc (.cells #[.string bs] 74) = W1 := ⟨_, rfl⟩
  rw [hW1]
  have C1 : Hid (KB w [(w.heap.size + 1 + 1, curO (evB n s)), (w.heap.size + 1, .cells #[.int .i64 0] 24 (0, 0)), (w.heap.size, .cells ev0 35 (0, 0))] W1) := Lib.hid (by
    have h0 : KB w [] w := ⟨Below.refl _ _, fun x hx => by cases hx⟩
    have h1 := ((h0.box (.cells ev0 35)).box (.cells #[.int .i64 0] 24)).box (.cells #[.string bs] 74)
    rw [hW1, show ((w.alloc (.cells ev0 35)).alloc (.cells #[.int .i64 0] 24)).heap.size = w.heap.size + 1 + 1 by simp, show (w.alloc (.cells ev0 35)).heap.size = w.heap.size + 1 by simp, ← HBs.out] at h1
    exact h1)
  clear hW1
  have HK : Hid (∀ K2 X, KC (w.heap.size + 1 + 1) W1 K2 X → KB w [(w.heap.size + 1, .cells #[.int .i64 0] 24 (0, 0)), (w.heap.size, .cells ev0 35 (0, 0))] X) := Lib.hid (fun K2 X hX => C1.out.kc hX (by omega) (fun x hx => by
    simp only [List.mem_cons, List.not_mem_nil, or_false] at hx
    rcases hx with rfl | rfl
    · show w.heap.size + 1 ≠ w.heap.size + 1 + 1; omega
    · show w.heap.size ≠ w.heap.size + 1 + 1; omega))
  go_upto_region 6 with (first | (go_at_call 34; refine (HEv.out _ _ (C1.out.kept (w.heap.size + 1 + 1, _) List.mem_cons_self)).mono ?_; rintro e w2 ⟨rfl, l2, hk2⟩; have C2 := Lib.hid (HK.out _ _ hk2); clear hk2) | (refine wpList_store_row rfl 35 _ _ rfl w2.heap.size (evV (n.toNat : Int) 10 s none 0 0) rfl rfl 35 _ (heap_new _ _) (Tryz.sizeEv (n.toNat : Int) 10 s none 0 0) rfl (ev_one _ _ _ _ _ _) ?_))
  obtain ⟨W3, hW3⟩ : ∃ W3, (w2.alloc (.cells ev0 35)).setRow w2.heap.size (evV (n.toNat : Int) 10 s none 0 0) = W3 := ⟨_, rfl⟩
  rw [hW3]
  have C3 := Lib.hid (C2.out.boxed ev0 35 (evV (n.toNat : Int) 10 s none 0 0))
  rw [hW3] at C3
  clear hW3 C2 HK C1
  go_upto_region 9 with (first | (refine wpList_load_row rfl 35 _ rfl w2.heap.size rfl 35 _ (0, 0) _ (C3.out.kept (w2.heap.size, _) List.mem_cons_self) Tryz.underlying35 rfl (Tryz.sizeEv (n.toNat : Int) 10 s none 0 0) ?_) | (go_at_call 12; refine (HEn.out _ (HE.out.go C3.out.below)).mono ?_; rintro e w4 ⟨rfl, hb4⟩; have C4 := Lib.hid (C3.out.go hb4); clear hb4))
  have HZ : Hid (KB w [(w.heap.size, .cells (evV (n.toNat : Int) 10 s none 0 0) 35 (0, 0)), (w.heap.size + 1, .cells #[.int .i64 0] 24 (0, 0))] (w4.setRow w.heap.size (evV (n.toNat : Int) 10 s none 0 0))) := Lib.hid (by
    have h1 : KB w [(w.heap.size, .cells ev0 35 (0, 0)), (w.heap.size + 1, .cells #[.int .i64 0] 24 (0, 0))] w4 := C4.out.sub (fun x hx => by
      simp only [List.mem_cons, List.not_mem_nil, or_false] at hx ⊢
      rcases hx with h | h <;> simp [h])
    exact h1.row (Nat.le_refl _) (fun x hx => by rw [List.mem_singleton.1 hx]; show w.heap.size + 1 ≠ w.heap.size; omega) _)
  have z0 : (w4.setRow w.heap.size (evV (n.toNat : Int) 10 s none 0 0)).cell? ⟨w.heap.size + 1, 0, none⟩ = some (.int .i64 0) := cell_of (HZ.out.kept (w.heap.size + 1, _) (List.mem_cons_of_mem _ List.mem_cons_self)) 0
  have z1 : (w4.setRow w.heap.size (evV (n.toNat : Int) 10 s none 0 0)).frozen? ⟨w.heap.size + 1, 0, none⟩ = false := frozen_of (HZ.out.kept (w.heap.size + 1, _) (List.mem_cons_of_mem _ List.mem_cons_self)) 0
  go_wp2_with (first | (refine wpList_load_row rfl 35 _ rfl w2.heap.size rfl 35 _ (0, 0) _ (C4.out.kept (w2.heap.size, _) List.mem_cons_self) Tryz.underlying35 rfl (Tryz.sizeEv (n.toNat : Int) 10 s none 0 0) ?_) | (refine wpList_store_row rfl 35 _ _ rfl w.heap.size (evV (n.toNat : Int) 10 s none 0 0) rfl rfl 35 _ (C4.out.kept (w.heap.size, _) (List.mem_cons_of_mem _ (List.mem_cons_of_mem _ List.mem_cons_self))) (Tryz.sizeEv (n.toNat : Int) 10 s none 0 0) rfl (ev_one _ _ _ _ _ _) ?_))
  refine leaves_cons (f := 33) (args := #[ptr w.heap.size, ptr (w.heap.size + 1)]) (by simp) (by simp [go_sem]) ?_
  refine (decode1_idle w.heap.size (w.heap.size + 1) _).mono ?_
  rintro e u' w'' ⟨rfl, rfl, rfl⟩
  have HY : KB w [(w.heap.size + 1, .cells (#[.int .i64 0].setIfInBounds 0 (.int .i64 0)) 24 (0, 0)), (w.heap.size, .cells (evV (n.toNat : Int) 10 s none 0 0) 35 (0, 0))] ((w4.setRow w.heap.size (evV (n.toNat : Int) 10 s none 0 0)).setCell ⟨w.heap.size + 1, 0, none⟩ (.int .i64 0)) := by
    have h1 : KB w [(w.heap.size + 1, .cells #[.int .i64 0] 24 (0, 0)), (w.heap.size, .cells (evV (n.toNat : Int) 10 s none 0 0) 35 (0, 0))] (w4.setRow w.heap.size (evV (n.toNat : Int) 10 s none 0 0)) := HZ.out.sub (fun x hx => by
      simp only [List.mem_cons, List.not_mem_nil, or_false] at hx ⊢
      rcases hx with h | h <;> simp [h])
    exact h1.cell (Nat.le_succ _) (fun x hx => by rw [List.mem_singleton.1 hx]; show w.heap.size ≠ w.heap.size + 1; omega) 0 _
  exact ⟨_, resCC Tryz.results16 _ _ w.heap.size (w.heap.size + 1) 35 (evV (n.toNat : Int) 10 s none 0 0) (0, 0) _ (.int .i64 0) rfl (HY.kept (w.heap.size, _) (List.mem_cons_of_mem _ List.mem_cons_self)) Tryz.underlying35 rfl (Tryz.sizeEv (n.toNat : Int) 10 s none 0 0) rfl (errno_load _ _ _ (cell_of (HY.kept (w.heap.size + 1, _) List.mem_cons_self) 0)), rfl, HY.below⟩
end Go.Proofs.YtbncaiocmklgnaaGreatDoor

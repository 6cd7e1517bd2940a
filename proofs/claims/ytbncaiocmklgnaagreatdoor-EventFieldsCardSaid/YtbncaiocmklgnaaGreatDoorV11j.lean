/- event: kindOf, isLong, hasJust, held. -/
import Derived.Test.YtbncaiocmklgnaaGreatDoorV11i
namespace Go.Proofs.YtbncaiocmklgnaaGreatDoor
open Go.RowKit Go.Lib

/-- What kindOf answers of the name's kinds. -/
def NamePart (w : World) (v0 v1 v2 v3 : Value) (w' : World) : Prop :=
  ∃ p q, v0 = fnV 87 #[ptr q, ptr p] ∧ v1 = fnV 88 #[ptr p] ∧ v2 = fnV 90 #[ptr p] ∧ v3 = fnV 92 #[ptr p] ∧
    w'.heap[p]? = some (.cells #[fnV 70 #[]] 106 (0, 0)) ∧ w'.heap[q]? = some (.cells #[fnV 71 #[]] 89 (0, 0)) ∧ Below w.heap.size w w'
theorem ne_obj {W : World} {p q : Nat} {o1 o2 : Obj} (h1 : W.heap[p]? = some o1) (h2 : W.heap[q]? = some o2) (hn : objT o1 ≠ objT o2) : p ≠ q := fun e => by
  rw [e, h2] at h1
  exact hn (by rw [Option.some.inj h1])
/-- Two results, the first one in a cell. -/
theorem res2c {P : Program} {fn : Func} {p u : Tmp} {ty : TypeId} (h : fn.results = #[.cell p ty, .tmp u]) (tmps : Array Value) (w : World) (g : Nat) (t : TypeId) (cs : Array Value) (fr : Nat × Nat) (d : TypeDesc)
    (hp : tmps.getD p undef = .pointer (some ⟨g, 0, none⟩)) (hg : w.heap[g]? = some (.cells cs t fr))
    (hu : P.underlying ty = some d) (hd : (match d with | .struct _ | .array _ _ => true | _ => false) = true) (hi : (P.info? ty).map (·.size) = some cs.size) :
    (results fn tmps).run P w = .ok (.tuple #[.agg cs, tmps.getD u undef]) w := by
  have hp' : tmps[p]?.getD undef = .pointer (some ⟨g, 0, none⟩) := by simpa using hp
  simp [results, h, hp', asAddr, Result.andThen, run_loadVar_row w g t ty cs fr d hg hu hd hi]
set_option maxHeartbeats 1000000 in
theorem kindOf_10 (w : World) : Calls Tryz.prog 45 #[.int .i64 10] w fun e w' => ∃ v0 v1 v2 v3, e = .returned (.tuple #[.agg #[v0, v1, v2, v3], .bool true]) ∧ NamePart w v0 v1 v2 v3 w' := by
  obtain ⟨W1, hW1⟩ : ∃ W1, w.alloc (.cells nil4 64) = W1 := ⟨_, rfl⟩
  have h1 : W1.heap[w.heap.size]? = some (.cells nil4 64 (0, 0)) := by rw [← hW1]; exact heap_new _ _
  have hb1 : Below w.heap.size w W1 := by rw [← hW1]; exact below_box (Below.refl _ _) _
  have HK := Lib.hid (kinds_any W1)
  have hix := Tryz.kix
  have HE := Lib.hid (And.intro h1 hb1)
  clear h1 hb1
  go_enter Tryz.func45, Tryz.ntmps45
  go_upto_region 3 with fail
  (try rw [hW1])
  clear hW1
  go_wp2_with (first | (go_at_call 59; refine HK.out.mono ?_; rintro e w2 ⟨f, p, q, rfl, hf, hp, hq, hb⟩; have H2 := Lib.hid (And.intro hf (And.intro hp (And.intro hq hb))); have HR := Lib.hid (show w2.heap[w.heap.size]? = some (.cells nil4 64 (0, 0)) by rw [hb.block _ (lt_of_heap HE.out.1)]; exact HE.out.1); clear hf hp hq hb) | (refine wpList_store_row rfl 64 _ _ rfl w.heap.size #[f 40, f 41, f 42, f 43] rfl rfl 64 _ HR.out Tryz.sizePart rfl (by simp [H2.out.1, Value.oneCell']) ?_))
  refine bodyPost_ret (v := .tuple #[.agg #[f 40, f 41, f 42, f 43], .bool true]) (res2c Tryz.results45 _ _ w.heap.size 64 #[f 40, f 41, f 42, f 43] (0, 0) _ rfl (setRow_heap _ _ _ _ _ _ HR.out) Tryz.underlying64 rfl Tryz.sizePart) rfl ⟨f 40, f 41, f 42, f 43, rfl, p, q, H2.out.1.1, H2.out.1.2.1, H2.out.1.2.2.1, H2.out.1.2.2.2, ?_, ?_, ?_⟩
  · rw [setRow_other _ _ _ _ (ne_obj H2.out.2.1 HR.out (by simp [objT]))]; exact H2.out.2.1
  · rw [setRow_other _ _ _ _ (ne_obj H2.out.2.2.1 HR.out (by simp [objT]))]; exact H2.out.2.2.1
  · exact below_setRow (HE.out.2.trans (H2.out.2.2.2.mono HE.out.2.size)) (Nat.le_refl _) _
set_option maxHeartbeats 1000000 in
theorem kindOf_0 (w : World) : Calls Tryz.prog 45 #[.int .i64 0] w fun e w' => e = .returned (.tuple #[.agg nil4, .bool false]) ∧ Below w.heap.size w w' := by
  obtain ⟨W1, hW1⟩ : ∃ W1, w.alloc (.cells nil4 64) = W1 := ⟨_, rfl⟩
  have h1 : W1.heap[w.heap.size]? = some (.cells nil4 64 (0, 0)) := by rw [← hW1]; exact heap_new _ _
  have hb1 : Below w.heap.size w W1 := by rw [← hW1]; exact below_box (Below.refl _ _) _
  have HE := Lib.hid (And.intro h1 hb1)
  clear h1 hb1
  go_enter Tryz.func45, Tryz.ntmps45
  go_upto_region 2 with fail
  (try rw [hW1])
  clear hW1
  go_wp2_with (refine wpList_store_row rfl 64 _ _ rfl w.heap.size nil4 rfl rfl 64 _ HE.out.1 Tryz.sizePart rfl (by simp [Value.oneCell']) ?_)
  refine bodyPost_ret (v := .tuple #[.agg nil4, .bool false]) (res2c Tryz.results45 _ _ w.heap.size 64 nil4 (0, 0) _ rfl (setRow_heap _ _ _ _ _ _ HE.out.1) Tryz.underlying64 rfl Tryz.sizePart) rfl ⟨rfl, below_setRow HE.out.2 (Nat.le_refl _) _⟩
set_option maxHeartbeats 2000000 in
theorem isLong_no (eb : Nat) (n k : Int) (s : ByteArray) (a : Option Addr) (l c : Nat) (w : World) (h : w.heap[eb]? = some (.cells (evV n k s a l c) 35 (0, 0))) (hl : l ≤ 16) :
    Calls Tryz.prog 44 #[ptr eb] w fun e w' => e = .returned (.bool false) ∧ w' = w := by
  obtain ⟨_, _, _, _, _, _, c6, c7, c8, c9, _, _, _, _, _, _, _, c17⟩ := ev_cells h
  have h1 : ¬ 16 < (l : Int) := by omega
  clear h hl
  go_enter Tryz.func44, Tryz.ntmps44
  go_wp2_with fail
  go_loopw [40] (fun i wr => ∃ (X : World), X = wr ∧ i = .int .i64 0 ∧ X = w) (fun _ _ => 0)
  case atStart => exact ⟨_, rfl, rfl, rfl⟩
  case round =>
    obtain ⟨X, hX, rfl, hw⟩ := hrel
    subst hX
    subst hw
    go_wp2_with fail
    go_ret
    exact ⟨rfl, rfl⟩
set_option maxHeartbeats 2000000 in
theorem isLong_yes (eb : Nat) (n k : Int) (s : ByteArray) (a : Option Addr) (l c : Nat) (w : World) (h : w.heap[eb]? = some (.cells (evV n k s a l c) 35 (0, 0))) (hl : 16 < l) :
    Calls Tryz.prog 44 #[ptr eb] w fun e w' => e = .returned (.bool true) ∧ w' = w := by
  obtain ⟨_, _, _, _, _, _, c6, c7, c8, c9, _, _, _, _, _, _, _, c17⟩ := ev_cells h
  have h1 : 16 < (l : Int) := by omega
  clear h hl
  go_enter Tryz.func44, Tryz.ntmps44
  go_wp2_with fail
  go_ret
  exact ⟨rfl, rfl⟩
end Go.Proofs.YtbncaiocmklgnaaGreatDoor

/- view: Hear. -/
import Derived.Test.YtiphbnmnoofpkaaQ16q
namespace Go.Proofs.Ytiphbnmnoofpkaa
open Go.RowKit

def tabV (P : Nat) : Array Value := #[.nilFunc, .nilFunc, .nilFunc, .nilFunc, .func (.func 40) #[.pointer (some ⟨P, 0, none⟩)] #[], .func (.func 41) #[.pointer (some ⟨P, 0, none⟩)] #[], .func (.func 42) #[.pointer (some ⟨P, 0, none⟩)] #[], .func (.func 43) #[.pointer (some ⟨P, 0, none⟩)] #[], .func (.func 44) #[.pointer (some ⟨P, 0, none⟩)] #[], .func (.func 45) #[.pointer (some ⟨P, 0, none⟩)] #[], .nilFunc, .nilFunc]
theorem Try.sizeTab : (Try.prog.info? 88).map (·.size) = some 12 := by kernel_rfl
theorem Try.eqFn (fn : Nat) (v : Value) (w : World) : (binOp .eql 57 (.func (.func fn) #[v] #[]) .nilFunc).run Try.prog w = .ok (.bool false) w := by kernel_rfl
theorem Try.eqNil (w : World) : (binOp .eql 57 .nilFunc .nilFunc).run Try.prog w = .ok (.bool true) w := by kernel_rfl
set_option maxHeartbeats 1000000 in
set_option maxRecDepth 20000 in
theorem Hear_no {P : Nat} {V : PV} {fp : List Nat} {w : World} (h : VW P V fp w) (e : EV) (own : Bool) (hk : hearF e.k = none) :
    Calls Try.prog 19 #[.pointer (some ⟨P, 0, none⟩), .agg (evA e), .bool own] w fun r w' => r = .returned (.tuple #[]) ∧ VG P V fp w w' := by
  obtain ⟨W1, hW1⟩ : ∃ W1, w.alloc (.cells (evA e) 38) = W1 := ⟨_, rfl⟩
  have h1 : W1.heap[w.heap.size]? = some (.cells (evA e) 38 (0, 0)) := by rw [← hW1]; exact heap_new _ _
  have hb1 : Below w.heap.size w W1 := by rw [← hW1]; exact below_box (Below.refl _ _) (Nat.le_refl _) _
  obtain ⟨W2, hW2⟩ : ∃ W2, (W1.alloc (.cells #[.nilFunc, .nilFunc, .nilFunc, .nilFunc, .nilFunc, .nilFunc, .nilFunc, .nilFunc, .nilFunc, .nilFunc, .nilFunc, .nilFunc] 88)).setRow W1.heap.size (tabV P) = W2 := ⟨_, rfl⟩
  have h2 : W2.heap[W1.heap.size]? = some (.cells (tabV P) 88 (0, 0)) := by rw [← hW2]; exact setRow_heap _ _ _ _ _ _ (heap_new W1 _)
  have hb2 : Below W1.heap.size W1 W2 := by
    rw [← hW2]
    exact ⟨rfl, rfl, rfl, by simp, fun b hb => by rw [setRow_other _ _ _ _ (by omega)]; exact Below.heap_alloc _ _ _ hb⟩
  have hwz : w.heap.size < W1.heap.size := lt_of_heap h1
  have h3 : W2.heap[w.heap.size]? = some (.cells (evA e) 38 (0, 0)) := by rw [hb2.block _ hwz]; exact h1
  obtain ⟨_, c1, _⟩ := evA_cells h3
  obtain ⟨rv, cv, R, hV, hpl, rfl⟩ := h
  have hV1 := hV.on hb1
  have d0 := hV1.cells.c0
  have HO : Hid (VG P V (fpV P rv cv R) w W2) := Lib.hid ⟨_, ⟨rv, cv, R, hV1.on hb2, hpl, rfl⟩, (FO.below hb1).trans (FO.below hb2)⟩
  have y : ∀ k v, (tabV P)[k]? = some v → W2.cell? ⟨W1.heap.size, k, none⟩ = some v := fun k v hv => by rw [cell_of h2 k]; exact hv
  have y0 : W2.cell? ⟨W1.heap.size, 0, none⟩ = some .nilFunc := y 0 _ rfl
  have y1 : W2.cell? ⟨W1.heap.size, 1, none⟩ = some .nilFunc := y 1 _ rfl
  have y2 : W2.cell? ⟨W1.heap.size, 2, none⟩ = some .nilFunc := y 2 _ rfl
  have y3 : W2.cell? ⟨W1.heap.size, 3, none⟩ = some .nilFunc := y 3 _ rfl
  have ya : W2.cell? ⟨W1.heap.size, 10, none⟩ = some .nilFunc := y 10 _ rfl
  have yb : W2.cell? ⟨W1.heap.size, 11, none⟩ = some .nilFunc := y 11 _ rfl
  have hkk : e.k < 0 ∨ 11 < e.k ∨ e.k = 0 ∨ e.k = 1 ∨ e.k = 2 ∨ e.k = 3 ∨ e.k = 10 ∨ e.k = 11 := by
    unfold hearF at hk
    by_cases a : e.k < 0
    · exact .inl a
    by_cases b : 11 < e.k
    · exact .inr (.inl b)
    (repeat' split at hk) <;> (first | omega | cases hk)
  clear hV hV1 hb1 hb2 h1 h2 h3 hpl hwz y hk
  have q0 := Try.eqFn
  have q1 := Try.eqNil
  go_enter Try.func19, Try.ntmps19
  go_upto_region 1 with fail
  (try rw [hW1])
  clear hW1
  go_upto_region 3 with (refine wpList_store_row rfl 88 _ _ rfl W1.heap.size (tabV P) rfl rfl 88 _ (heap_new _ _) Try.sizeTab rfl (by simp [tabV, Value.oneCell']) ?_)
  (try rw [hW2])
  clear hW2 d0
  generalize e.k = kk at *
  rcases hkk with hk | hk | rfl | rfl | rfl | rfl | rfl | rfl
  · go_wp2_with fail
    first | refine bodyPost_end (results_none rfl _ _ _) rfl ?_ | refine bodyPost_ret (results_none rfl _ _ _) rfl ?_
    exact ⟨rfl, HO.out⟩
  · have hk0 : ¬ kk < 0 := by omega
    go_wp2_with fail
    first | refine bodyPost_end (results_none rfl _ _ _) rfl ?_ | refine bodyPost_ret (results_none rfl _ _ _) rfl ?_
    exact ⟨rfl, HO.out⟩
  all_goals
    go_wp2_with fail
    first | refine bodyPost_end (results_none rfl _ _ _) rfl ?_ | refine bodyPost_ret (results_none rfl _ _ _) rfl ?_
    exact ⟨rfl, HO.out⟩
set_option maxHeartbeats 1000000 in
set_option maxRecDepth 20000 in
theorem Hear_some {P : Nat} {V : PV} {fp : List Nat} {w : World} {N : Nat} (h : VW P V fp w) (hk : PVok V N) (e : EV) (own : Bool) (us : List Int) (ms : List ME) (hN : N + (1 + us.length) ≤ 1000000) (he : EvAt w e us ms) (ho : EvOut w fp e us ms) (fn kn : Nat) (hf : hearF e.k = some fn) (hkn : e.k = (kn : Int)) (hk11 : kn ≤ 11) (hfn : (tabV P)[kn]? = some (.func (.func fn) #[.pointer (some ⟨P, 0, none⟩)] #[]))
    (eg : ∀ args w, (callFunc fn args).run Try.prog w = .ok (.enter fn args) w) :
    Calls Try.prog 19 #[.pointer (some ⟨P, 0, none⟩), .agg (evA e), .bool own] w fun r w' => r = .returned (.tuple #[]) ∧ VG P (hearP V (plE e us ms) own) fp w w' := by
  obtain ⟨W1, hW1⟩ : ∃ W1, w.alloc (.cells (evA e) 38) = W1 := ⟨_, rfl⟩
  have h1 : W1.heap[w.heap.size]? = some (.cells (evA e) 38 (0, 0)) := by rw [← hW1]; exact heap_new _ _
  have hb1 : Below w.heap.size w W1 := by rw [← hW1]; exact below_box (Below.refl _ _) (Nat.le_refl _) _
  obtain ⟨W2, hW2⟩ : ∃ W2, (W1.alloc (.cells #[.nilFunc, .nilFunc, .nilFunc, .nilFunc, .nilFunc, .nilFunc, .nilFunc, .nilFunc, .nilFunc, .nilFunc, .nilFunc, .nilFunc] 88)).setRow W1.heap.size (tabV P) = W2 := ⟨_, rfl⟩
  have h2 : W2.heap[W1.heap.size]? = some (.cells (tabV P) 88 (0, 0)) := by rw [← hW2]; exact setRow_heap _ _ _ _ _ _ (heap_new W1 _)
  have hb2 : Below W1.heap.size W1 W2 := by
    rw [← hW2]
    exact ⟨rfl, rfl, rfl, by simp, fun b hb => by rw [setRow_other _ _ _ _ (by omega)]; exact Below.heap_alloc _ _ _ hb⟩
  have hwz : w.heap.size < W1.heap.size := lt_of_heap h1
  have h3 : W2.heap[w.heap.size]? = some (.cells (evA e) 38 (0, 0)) := by rw [hb2.block _ hwz]; exact h1
  obtain ⟨_, c1, _⟩ := evA_cells h3
  have hbd : Below w.heap.size w W2.drew := (hb1.trans (hb2.mono hb1.size)).drew
  have HC := Lib.hid ((hear_fn (h.on hbd) hk e own us ms hN (he.on hbd) (ho.on hbd.size) fn hf).mono (fun r w' ⟨q1, q2⟩ => (⟨q1, by
    obtain ⟨fp', k1, k2⟩ := q2
    exact ⟨fp', k1, (FO.below hbd).trans k2⟩⟩ : _ ∧ VG P (hearP V (plE e us ms) own) fp w w')))
  have yk : W2.cell? ⟨W1.heap.size, kn, none⟩ = some (.func (.func fn) #[.pointer (some ⟨P, 0, none⟩)] #[]) := by rw [cell_of h2 kn]; exact hfn
  have d0 : W1.cell? ⟨P, 0, none⟩ = some (.bool true) := by
    obtain ⟨rv, cv, R, hV, _, rfl⟩ := h
    exact (hV.on hb1).cells.c0
  have HEv : Hid (W2.drew.heap[w.heap.size]? = some (.cells (evA e) 38 (0, 0))) := Lib.hid h3
  clear h hb1 hb2 h1 h2 h3 hwz he ho hbd hf hfn
  rw [hkn] at c1
  have hk0 : ¬ (kn : Int) < 0 := by omega
  have hk1 : ¬ (11 : Int) < (kn : Int) := by omega
  have hk2 : ¬ (12 : Int) ≤ (kn : Int) := by omega
  have q0 := Try.eqFn
  have q1 := Try.eqNil
  go_enter Try.func19, Try.ntmps19
  go_upto_region 1 with fail
  (try rw [hW1])
  clear hW1
  go_upto_region 3 with (refine wpList_store_row rfl 88 _ _ rfl W1.heap.size (tabV P) rfl rfl 88 _ (heap_new _ _) Try.sizeTab rfl (by simp [tabV, Value.oneCell']) ?_)
  (try rw [hW2])
  clear hW2 d0
  go_upto_region 4 with fail
  --R Hear4--
  refine wp_region_N 6 (fun X => X = W2.drew) (by kernel_rfl) ?_
  refine wpAnyN_take (i := 0) (oi := { dst := some 44, op := Go.Op.fieldAddr 38 (Go.Operand.tmp 4) 1, type := 0, pos := "hear.go:27", after := #[], guard := none }) (oL := { dst := some 50, op := Go.Op.call { callee := Go.Callee.value (Go.Operand.tmp 47), args := #[Go.Operand.tmp 48, Go.Operand.tmp 49], argTypes := #[38, 4] }, type := 0, pos := "hear.go:27", after := #[{ on := 3, ground := Go.Ground.data }, { on := 4, ground := Go.Ground.data }, { on := 5, ground := Go.Ground.data }], guard := none }) (v := .pointer (some ⟨w.heap.size, 1, none⟩)) rfl rfl (by kernel_rfl) (by kernel_rfl) (by kernel_rfl) (by kernel_rfl) (fun _ _ _ h => h) (Or.inl ⟨by kernel_rfl, ?_⟩) rfl ?_
  · (intro X hX; subst hX <;> (go_simp; try (with_reducible rfl)))
  (try simp only [Act.put, List.setIfInBounds_toArray, List.set_cons_zero, List.set_cons_succ])
  refine wpAnyN_take (i := 1) (oi := { dst := some 45, op := Go.Op.load 3 (Go.Operand.tmp 44), type := 3, pos := "hear.go:27", after := #[{ on := 0, ground := Go.Ground.data }], guard := none }) (oL := { dst := some 50, op := Go.Op.call { callee := Go.Callee.value (Go.Operand.tmp 47), args := #[Go.Operand.tmp 48, Go.Operand.tmp 49], argTypes := #[38, 4] }, type := 0, pos := "hear.go:27", after := #[{ on := 3, ground := Go.Ground.data }, { on := 4, ground := Go.Ground.data }, { on := 5, ground := Go.Ground.data }], guard := none }) (v := .int .i64 (kn : Int)) rfl rfl (by kernel_rfl) (by kernel_rfl) (by kernel_rfl) (by kernel_rfl) (fun _ _ _ h => h) (Or.inl ⟨by kernel_rfl, ?_⟩) rfl ?_
  · (intro X hX; subst hX <;> (go_simp; try (with_reducible rfl)))
  (try simp only [Act.put, List.setIfInBounds_toArray, List.set_cons_zero, List.set_cons_succ])
  refine wpAnyN_take (i := 2) (oi := { dst := some 46, op := Go.Op.indexAddr 88 (Go.Operand.tmp 6) (Go.Operand.tmp 45), type := 0, pos := "hear.go:27", after := #[{ on := 1, ground := Go.Ground.data }], guard := none }) (oL := { dst := some 50, op := Go.Op.call { callee := Go.Callee.value (Go.Operand.tmp 47), args := #[Go.Operand.tmp 48, Go.Operand.tmp 49], argTypes := #[38, 4] }, type := 0, pos := "hear.go:27", after := #[{ on := 3, ground := Go.Ground.data }, { on := 4, ground := Go.Ground.data }, { on := 5, ground := Go.Ground.data }], guard := none }) (v := .pointer (some ⟨W1.heap.size, kn, none⟩)) rfl rfl (by kernel_rfl) (by kernel_rfl) (by kernel_rfl) (by kernel_rfl) (fun _ _ _ h => h) (Or.inl ⟨by kernel_rfl, ?_⟩) rfl ?_
  · (intro X hX; subst hX <;> (go_simp; try (with_reducible rfl)))
  (try simp only [Act.put, List.setIfInBounds_toArray, List.set_cons_zero, List.set_cons_succ])
  refine wpAnyN_take (i := 3) (oi := { dst := some 47, op := Go.Op.load 57 (Go.Operand.tmp 46), type := 57, pos := "hear.go:27", after := #[{ on := 2, ground := Go.Ground.data }], guard := none }) (oL := { dst := some 50, op := Go.Op.call { callee := Go.Callee.value (Go.Operand.tmp 47), args := #[Go.Operand.tmp 48, Go.Operand.tmp 49], argTypes := #[38, 4] }, type := 0, pos := "hear.go:27", after := #[{ on := 3, ground := Go.Ground.data }, { on := 4, ground := Go.Ground.data }, { on := 5, ground := Go.Ground.data }], guard := none }) (v := .func (.func fn) #[.pointer (some ⟨P, 0, none⟩)] #[]) rfl rfl (by kernel_rfl) (by kernel_rfl) (by kernel_rfl) (by kernel_rfl) (fun _ _ _ h => h) (Or.inl ⟨by kernel_rfl, ?_⟩) rfl ?_
  · (intro X hX; subst hX <;> (go_simp; try (with_reducible rfl)))
  (try simp only [Act.put, List.setIfInBounds_toArray, List.set_cons_zero, List.set_cons_succ])
  refine wpAnyN_take (i := 5) (oi := { dst := some 49, op := Go.Op.move (Go.Operand.tmp 2), type := 4, pos := "hear.go:27", after := #[], guard := none }) (oL := { dst := some 50, op := Go.Op.call { callee := Go.Callee.value (Go.Operand.tmp 47), args := #[Go.Operand.tmp 48, Go.Operand.tmp 49], argTypes := #[38, 4] }, type := 0, pos := "hear.go:27", after := #[{ on := 3, ground := Go.Ground.data }, { on := 4, ground := Go.Ground.data }, { on := 5, ground := Go.Ground.data }], guard := none }) (v := .bool own) rfl rfl (by kernel_rfl) (by kernel_rfl) (by kernel_rfl) (by kernel_rfl) (fun _ _ _ h => h) (Or.inl ⟨by kernel_rfl, ?_⟩) rfl ?_
  · (intro X hX; subst hX <;> (go_simp; try (with_reducible rfl)))
  (try simp only [Act.put, List.setIfInBounds_toArray, List.set_cons_zero, List.set_cons_succ])
  refine wpAnyN_one (i := 4) (o := { dst := some 48, op := Go.Op.load 38 (Go.Operand.tmp 4), type := 38, pos := "hear.go:27", after := #[], guard := none }) (by kernel_rfl) rfl (fun K hK => ?_)
  refine wp_load_row 38 _ rfl w.heap.size rfl 38 _ (0, 0) _ HEv.out Try.underlying38 rfl (Try.sizeEvA e) ?_
  refine hK.out _ _ (fun _ => rfl) ?_
  clear hK K
  (try simp only [Act.put, List.setIfInBounds_toArray, List.set_cons_zero, List.set_cons_succ])
  refine wpAnyN_one (i := 6) (o := { dst := some 50, op := Go.Op.call { callee := Go.Callee.value (Go.Operand.tmp 47), args := #[Go.Operand.tmp 48, Go.Operand.tmp 49], argTypes := #[38, 4] }, type := 0, pos := "hear.go:27", after := #[{ on := 3, ground := Go.Ground.data }, { on := 4, ground := Go.Ground.data }, { on := 5, ground := Go.Ground.data }], guard := none }) (by kernel_rfl) rfl (fun K hK => ?_)
  go_simp
  refine HC.out.mono ?_
  rintro r w4 ⟨rfl, ho⟩
  have HO := Lib.hid ho
  clear ho
  refine hK.out _ _ (fun e => absurd (e.symm.trans (by kernel_rfl) : false = true) Bool.false_ne_true) ?_
  clear hK K
  (try simp only [Act.put, List.setIfInBounds_toArray, List.set_cons_zero, List.set_cons_succ])
  refine wpAnyN_of_H (S' := fun _ => True) _ _ _ _ (by kernel_rfl) ?_
  refine wpAnyH_done (by kernel_rfl) ?_ _
  --E Hear4--
  go_wp2_with fail
  first | refine bodyPost_end (results_none rfl _ _ _) rfl ?_ | refine bodyPost_ret (results_none rfl _ _ _) rfl ?_
  exact ⟨rfl, HO.out⟩
theorem hearP_no {V : PV} {e : EV} {us : List Int} {ms : List ME} {own : Bool} (h : hearF e.k = none) : hearP V (plE e us ms) own = V := by
  unfold hearF at h
  unfold hearP plE
  repeat' split at h
  all_goals (first | (cases h; done) | skip)
  simp only [*, if_false]
theorem Hear_any {P : Nat} {V : PV} {fp : List Nat} {w : World} {N : Nat} (h : VW P V fp w) (hk : PVok V N) (e : EV) (own : Bool) (us : List Int) (ms : List ME) (hN : N + (1 + us.length) ≤ 1000000) (he : EvAt w e us ms) (ho : EvOut w fp e us ms) :
    Calls Try.prog 19 #[.pointer (some ⟨P, 0, none⟩), .agg (evA e), .bool own] w fun r w' => r = .returned (.tuple #[]) ∧ VG P (hearP V (plE e us ms) own) fp w w' := by
  cases hf : hearF e.k with
  | none => rw [hearP_no hf]; exact Hear_no h e own hf
  | some fn =>
    have hf' := hf
    unfold hearF at hf'
    by_cases k4 : e.k = 4
    · rw [if_pos k4] at hf'
      cases hf'
      exact Hear_some h hk e own us ms hN he ho _ 4 hf k4 (by omega) rfl (enters_of Try.func40 (by kernel_rfl) rfl)
    rw [if_neg k4] at hf'
    by_cases k5 : e.k = 5
    · rw [if_pos k5] at hf'
      cases hf'
      exact Hear_some h hk e own us ms hN he ho _ 5 hf k5 (by omega) rfl (enters_of Try.func41 (by kernel_rfl) rfl)
    rw [if_neg k5] at hf'
    by_cases k6 : e.k = 6
    · rw [if_pos k6] at hf'
      cases hf'
      exact Hear_some h hk e own us ms hN he ho _ 6 hf k6 (by omega) rfl (enters_of Try.func42 (by kernel_rfl) rfl)
    rw [if_neg k6] at hf'
    by_cases k7 : e.k = 7
    · rw [if_pos k7] at hf'
      cases hf'
      exact Hear_some h hk e own us ms hN he ho _ 7 hf k7 (by omega) rfl (enters_of Try.func43 (by kernel_rfl) rfl)
    rw [if_neg k7] at hf'
    by_cases k8 : e.k = 8
    · rw [if_pos k8] at hf'
      cases hf'
      exact Hear_some h hk e own us ms hN he ho _ 8 hf k8 (by omega) rfl (enters_of Try.func44 (by kernel_rfl) rfl)
    rw [if_neg k8] at hf'
    by_cases k9 : e.k = 9
    · rw [if_pos k9] at hf'
      cases hf'
      exact Hear_some h hk e own us ms hN he ho _ 9 hf k9 (by omega) rfl (enters_of Try.func45 (by kernel_rfl) rfl)
    rw [if_neg k9] at hf'
    cases hf'
end Go.Proofs.Ytiphbnmnoofpkaa

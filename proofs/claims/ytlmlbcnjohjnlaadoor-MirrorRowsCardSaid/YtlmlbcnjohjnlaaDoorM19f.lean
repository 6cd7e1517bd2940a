/- mirror: what an answer changes, by its kind. -/
import Derived.Test.YtlmlbcnjohjnlaaDoorM19e
namespace Go.Proofs.YtlmlbcnjohjnlaaDoor
open Go.RowKit

theorem Tryd.eqFn2 (fn : Nat) (c : Array Value) (w : World) : (binOp .eql 87 (.func (.func fn) #[] c) .nilFunc).run Tryd.prog w = .ok (.bool false) w := by kernel_rfl
set_option maxRecDepth 20000 in
set_option maxHeartbeats 2000000 in
theorem change_11 (P : Nat) (a : AN) (hk : a.k = 11) (w : World) (R : Value → World → World → Prop) (H0 : ∀ X, Below w.heap.size w X → Calls Tryd.prog 32 #[.pointer (some ⟨P, 0, none⟩), .agg (anC a)] X fun e w' => ∃ v, e = .returned v ∧ R v X w') :
    Calls Tryd.prog 20 #[.pointer (some ⟨P, 0, none⟩), .agg (anC a)] w fun e w' => ∃ v X, e = .returned v ∧ Below w.heap.size w X ∧ R v X w' := by
  have H := Lib.hid H0
  have q1 : Below w.heap.size w (w.alloc (anO a)) := (Below.refl _ _).alloc (Nat.le_refl _) _
  obtain ⟨Y, hY⟩ : ∃ Y, w.alloc (anO a) = Y := ⟨_, rfl⟩
  have hz : Y.heap.size = w.heap.size + 1 := by rw [← hY]; simp
  have r0 : Y.heap[w.heap.size]? = some (anO a) := by rw [← hY]; exact heap_new _ _
  rw [hY] at q1
  have Q1 := Lib.hid q1
  have R0 := Lib.hid r0
  have HZ := Lib.hid hz
  have HY := Lib.hid hY
  have HK := Lib.hid hk
  have H1 : Hid (kndA.all (·.oneCell') = true) := Lib.hid (by kernel_rfl)
  have HS : Hid ((Tryd.prog.info? 88).map (·.size) = some kndA.size) := Lib.hid (by kernel_rfl)
  have eqf := Tryd.eqFn2
  clear H0 q1 r0 hz hY hk
  unfold anO at HY
  go_enter Tryd.func20, Tryd.ntmps20
  go_upto_region 1 with fail
  rw [HY.out]
  clear HY
  go_upto_region 2 with (first | (go_at_call 27; refine (kinds_any _).mono ?_; rintro e w2 ⟨rfl, hb2⟩; have HB2 := Lib.hid hb2; clear hb2) | (refine wpList_store_row rfl 88 _ _ rfl w2.heap.size kndA rfl rfl 88 _ (heap_new _ _) HS.out rfl H1.out ?_))
  refine wp_gen (fun Y3 hY3 => ?_)
  obtain ⟨hb3, hn3⟩ := box_below hY3.symm
  have hba : Below Y.heap.size Y Y3 := HB2.out.trans (hb3.mono HB2.out.size)
  have rA : Y3.heap[w.heap.size]? = some (anO a) := bel_at hba (by rw [HZ.out]; omega) R0.out
  have c0 : Y3.cell? ⟨w.heap.size, 0, none⟩ = some (.int .i64 11) := by rw [(an_cells rA).1, HK.out]
  have cK : Y3.cell? ⟨w2.heap.size, 11, none⟩ = some (.func (.func 32) #[] #[]) := by
    rw [cell_of hn3]
    rfl
  have HC : Hid (Y3.drew.rangeAt w.heap.size 0 (anC a).toList) := Lib.hid (an_range (X := Y3.drew) rA)
  have HB3d : Hid (Below w.heap.size w Y3.drew) := Lib.hid ((Q1.out.trans (hba.mono Q1.out.size)).drew)
  clear hY3 hb3 hn3 hba rA HK HZ R0 Q1 HB2 HS H1
  go_upto_region 4 with fail
  refine wp_region_N 6 (fun X => X = Y3.drew) (by kernel_rfl) ?_
  refine wpAnyN_take (i := 0) (oi := { dst := some 22, op := Go.Op.fieldAddr 43 (Go.Operand.tmp 3) 0, type := 0, pos := "hear.go:38", after := #[], guard := none }) (oL := { dst := some 28, op := Go.Op.call { callee := Go.Callee.value (Go.Operand.tmp 25), args := #[Go.Operand.tmp 26, Go.Operand.tmp 27], argTypes := #[24, 43] }, type := 1, pos := "hear.go:38", after := #[{ on := 3, ground := Go.Ground.data }, { on := 4, ground := Go.Ground.data }, { on := 5, ground := Go.Ground.data }], guard := none }) (v := .pointer (some ⟨w.heap.size, 0, none⟩)) rfl rfl (by kernel_rfl) (by kernel_rfl) (by kernel_rfl) (by kernel_rfl) (fun _ _ _ h => h) (Or.inl ⟨by kernel_rfl, ?_⟩) rfl ?_
  · (intro X hX; subst hX <;> (go_simp; try (with_reducible rfl)))
  (try simp only [Act.put, List.setIfInBounds_toArray, List.set_cons_zero, List.set_cons_succ])
  refine wpAnyN_take (i := 1) (oi := { dst := some 23, op := Go.Op.load 3 (Go.Operand.tmp 22), type := 3, pos := "hear.go:38", after := #[{ on := 0, ground := Go.Ground.data }], guard := none }) (oL := { dst := some 28, op := Go.Op.call { callee := Go.Callee.value (Go.Operand.tmp 25), args := #[Go.Operand.tmp 26, Go.Operand.tmp 27], argTypes := #[24, 43] }, type := 1, pos := "hear.go:38", after := #[{ on := 3, ground := Go.Ground.data }, { on := 4, ground := Go.Ground.data }, { on := 5, ground := Go.Ground.data }], guard := none }) (v := .int .i64 11) rfl rfl (by kernel_rfl) (by kernel_rfl) (by kernel_rfl) (by kernel_rfl) (fun _ _ _ h => h) (Or.inl ⟨by kernel_rfl, ?_⟩) rfl ?_
  · (intro X hX; subst hX <;> (go_simp; try (with_reducible rfl)))
  (try simp only [Act.put, List.setIfInBounds_toArray, List.set_cons_zero, List.set_cons_succ])
  refine wpAnyN_take (i := 2) (oi := { dst := some 24, op := Go.Op.indexAddr 88 (Go.Operand.tmp 5) (Go.Operand.tmp 23), type := 0, pos := "hear.go:38", after := #[{ on := 1, ground := Go.Ground.data }], guard := none }) (oL := { dst := some 28, op := Go.Op.call { callee := Go.Callee.value (Go.Operand.tmp 25), args := #[Go.Operand.tmp 26, Go.Operand.tmp 27], argTypes := #[24, 43] }, type := 1, pos := "hear.go:38", after := #[{ on := 3, ground := Go.Ground.data }, { on := 4, ground := Go.Ground.data }, { on := 5, ground := Go.Ground.data }], guard := none }) (v := .pointer (some ⟨w2.heap.size, 11, none⟩)) rfl rfl (by kernel_rfl) (by kernel_rfl) (by kernel_rfl) (by kernel_rfl) (fun _ _ _ h => h) (Or.inl ⟨by kernel_rfl, ?_⟩) rfl ?_
  · (intro X hX; subst hX <;> (go_simp; try (with_reducible rfl)))
  (try simp only [Act.put, List.setIfInBounds_toArray, List.set_cons_zero, List.set_cons_succ])
  refine wpAnyN_take (i := 3) (oi := { dst := some 25, op := Go.Op.load 87 (Go.Operand.tmp 24), type := 87, pos := "hear.go:38", after := #[{ on := 2, ground := Go.Ground.data }], guard := none }) (oL := { dst := some 28, op := Go.Op.call { callee := Go.Callee.value (Go.Operand.tmp 25), args := #[Go.Operand.tmp 26, Go.Operand.tmp 27], argTypes := #[24, 43] }, type := 1, pos := "hear.go:38", after := #[{ on := 3, ground := Go.Ground.data }, { on := 4, ground := Go.Ground.data }, { on := 5, ground := Go.Ground.data }], guard := none }) (v := .func (.func 32) #[] #[]) rfl rfl (by kernel_rfl) (by kernel_rfl) (by kernel_rfl) (by kernel_rfl) (fun _ _ _ h => h) (Or.inl ⟨by kernel_rfl, ?_⟩) rfl ?_
  · (intro X hX; subst hX <;> (go_simp; try (with_reducible rfl)))
  (try simp only [Act.put, List.setIfInBounds_toArray, List.set_cons_zero, List.set_cons_succ])
  refine wpAnyN_take (i := 4) (oi := { dst := some 26, op := Go.Op.move (Go.Operand.tmp 0), type := 24, pos := "hear.go:38", after := #[], guard := none }) (oL := { dst := some 28, op := Go.Op.call { callee := Go.Callee.value (Go.Operand.tmp 25), args := #[Go.Operand.tmp 26, Go.Operand.tmp 27], argTypes := #[24, 43] }, type := 1, pos := "hear.go:38", after := #[{ on := 3, ground := Go.Ground.data }, { on := 4, ground := Go.Ground.data }, { on := 5, ground := Go.Ground.data }], guard := none }) (v := .pointer (some ⟨P, 0, none⟩)) rfl rfl (by kernel_rfl) (by kernel_rfl) (by kernel_rfl) (by kernel_rfl) (fun _ _ _ h => h) (Or.inl ⟨by kernel_rfl, ?_⟩) rfl ?_
  · (intro X hX; subst hX <;> (go_simp; try (with_reducible rfl)))
  (try simp only [Act.put, List.setIfInBounds_toArray, List.set_cons_zero, List.set_cons_succ])
  refine wpAnyN_one (i := 5) (o := { dst := some 27, op := Go.Op.load 43 (Go.Operand.tmp 3), type := 43, pos := "hear.go:38", after := #[], guard := none }) (by kernel_rfl) rfl (fun K hK => ?_)
  refine wp_load_mid 43 _ rfl w.heap.size 0 rfl _ _ HC.out Tryd.underlying43 rfl Tryd.sizeAn ?_
  refine hK.out _ _ (fun _ => rfl) ?_
  clear hK K
  (try simp only [Act.put, List.setIfInBounds_toArray, List.set_cons_zero, List.set_cons_succ])
  refine wpAnyN_one (i := 6) (o := { dst := some 28, op := Go.Op.call { callee := Go.Callee.value (Go.Operand.tmp 25), args := #[Go.Operand.tmp 26, Go.Operand.tmp 27], argTypes := #[24, 43] }, type := 1, pos := "hear.go:38", after := #[{ on := 3, ground := Go.Ground.data }, { on := 4, ground := Go.Ground.data }, { on := 5, ground := Go.Ground.data }], guard := none }) (by kernel_rfl) rfl (fun K hK => ?_)
  go_simp
  refine (H.out _ HB3d.out).mono ?_
  rintro e w4 ⟨v, rfl, hr⟩
  have HR := Lib.hid hr
  clear hr
  refine hK.out _ _ (fun e => absurd (e.symm.trans (by kernel_rfl) : false = true) Bool.false_ne_true) ?_
  clear hK K
  (try simp only [Act.put, List.setIfInBounds_toArray, List.set_cons_zero, List.set_cons_succ])
  refine wpAnyN_of_H (S' := fun _ => True) _ _ _ _ (by kernel_rfl) ?_
  refine wpAnyH_take (i := 7) (oi := { dst := some 4, op := Go.Op.assign (Go.Operand.tmp 28), type := 1, pos := "hear.go:38", after := #[{ on := 6, ground := Go.Ground.data }, { on := 6, ground := Go.Ground.chain }, { on := 0, ground := Go.Ground.phase }, { on := 1, ground := Go.Ground.phase }, { on := 2, ground := Go.Ground.phase }, { on := 3, ground := Go.Ground.phase }, { on := 4, ground := Go.Ground.phase }, { on := 5, ground := Go.Ground.phase }, { on := 6, ground := Go.Ground.phase }], guard := none }) (v := v) rfl (by kernel_rfl) (by kernel_rfl) (by kernel_rfl) (fun _ _ _ h => h) (Or.inl ⟨by kernel_rfl, ?_⟩) trivial ?_
  · (intro X hX; go_simp; try (with_reducible rfl))
  (try simp only [Act.put, List.setIfInBounds_toArray, List.set_cons_zero, List.set_cons_succ])
  refine wpAnyH_done (by kernel_rfl) ?_ _
  go_wp2_with fail
  go_ret
  exact ⟨v, _, rfl, HB3d.out, HR.out⟩
set_option maxRecDepth 20000 in
set_option maxHeartbeats 2000000 in
theorem change_1 (P : Nat) (a : AN) (hk : a.k = 1) (w : World) (R : Value → World → World → Prop) (H0 : ∀ X, Below w.heap.size w X → Calls Tryd.prog 30 #[.pointer (some ⟨P, 0, none⟩), .agg (anC a)] X fun e w' => ∃ v, e = .returned v ∧ R v X w') :
    Calls Tryd.prog 20 #[.pointer (some ⟨P, 0, none⟩), .agg (anC a)] w fun e w' => ∃ v X, e = .returned v ∧ Below w.heap.size w X ∧ R v X w' := by
  have H := Lib.hid H0
  have q1 : Below w.heap.size w (w.alloc (anO a)) := (Below.refl _ _).alloc (Nat.le_refl _) _
  obtain ⟨Y, hY⟩ : ∃ Y, w.alloc (anO a) = Y := ⟨_, rfl⟩
  have hz : Y.heap.size = w.heap.size + 1 := by rw [← hY]; simp
  have r0 : Y.heap[w.heap.size]? = some (anO a) := by rw [← hY]; exact heap_new _ _
  rw [hY] at q1
  have Q1 := Lib.hid q1
  have R0 := Lib.hid r0
  have HZ := Lib.hid hz
  have HY := Lib.hid hY
  have HK := Lib.hid hk
  have H1 : Hid (kndA.all (·.oneCell') = true) := Lib.hid (by kernel_rfl)
  have HS : Hid ((Tryd.prog.info? 88).map (·.size) = some kndA.size) := Lib.hid (by kernel_rfl)
  have eqf := Tryd.eqFn2
  clear H0 q1 r0 hz hY hk
  unfold anO at HY
  go_enter Tryd.func20, Tryd.ntmps20
  go_upto_region 1 with fail
  rw [HY.out]
  clear HY
  go_upto_region 2 with (first | (go_at_call 27; refine (kinds_any _).mono ?_; rintro e w2 ⟨rfl, hb2⟩; have HB2 := Lib.hid hb2; clear hb2) | (refine wpList_store_row rfl 88 _ _ rfl w2.heap.size kndA rfl rfl 88 _ (heap_new _ _) HS.out rfl H1.out ?_))
  refine wp_gen (fun Y3 hY3 => ?_)
  obtain ⟨hb3, hn3⟩ := box_below hY3.symm
  have hba : Below Y.heap.size Y Y3 := HB2.out.trans (hb3.mono HB2.out.size)
  have rA : Y3.heap[w.heap.size]? = some (anO a) := bel_at hba (by rw [HZ.out]; omega) R0.out
  have c0 : Y3.cell? ⟨w.heap.size, 0, none⟩ = some (.int .i64 1) := by rw [(an_cells rA).1, HK.out]
  have cK : Y3.cell? ⟨w2.heap.size, 1, none⟩ = some (.func (.func 30) #[] #[]) := by
    rw [cell_of hn3]
    rfl
  have HC : Hid (Y3.drew.rangeAt w.heap.size 0 (anC a).toList) := Lib.hid (an_range (X := Y3.drew) rA)
  have HB3d : Hid (Below w.heap.size w Y3.drew) := Lib.hid ((Q1.out.trans (hba.mono Q1.out.size)).drew)
  clear hY3 hb3 hn3 hba rA HK HZ R0 Q1 HB2 HS H1
  go_upto_region 4 with fail
  refine wp_region_N 6 (fun X => X = Y3.drew) (by kernel_rfl) ?_
  refine wpAnyN_take (i := 0) (oi := { dst := some 22, op := Go.Op.fieldAddr 43 (Go.Operand.tmp 3) 0, type := 0, pos := "hear.go:38", after := #[], guard := none }) (oL := { dst := some 28, op := Go.Op.call { callee := Go.Callee.value (Go.Operand.tmp 25), args := #[Go.Operand.tmp 26, Go.Operand.tmp 27], argTypes := #[24, 43] }, type := 1, pos := "hear.go:38", after := #[{ on := 3, ground := Go.Ground.data }, { on := 4, ground := Go.Ground.data }, { on := 5, ground := Go.Ground.data }], guard := none }) (v := .pointer (some ⟨w.heap.size, 0, none⟩)) rfl rfl (by kernel_rfl) (by kernel_rfl) (by kernel_rfl) (by kernel_rfl) (fun _ _ _ h => h) (Or.inl ⟨by kernel_rfl, ?_⟩) rfl ?_
  · (intro X hX; subst hX <;> (go_simp; try (with_reducible rfl)))
  (try simp only [Act.put, List.setIfInBounds_toArray, List.set_cons_zero, List.set_cons_succ])
  refine wpAnyN_take (i := 1) (oi := { dst := some 23, op := Go.Op.load 3 (Go.Operand.tmp 22), type := 3, pos := "hear.go:38", after := #[{ on := 0, ground := Go.Ground.data }], guard := none }) (oL := { dst := some 28, op := Go.Op.call { callee := Go.Callee.value (Go.Operand.tmp 25), args := #[Go.Operand.tmp 26, Go.Operand.tmp 27], argTypes := #[24, 43] }, type := 1, pos := "hear.go:38", after := #[{ on := 3, ground := Go.Ground.data }, { on := 4, ground := Go.Ground.data }, { on := 5, ground := Go.Ground.data }], guard := none }) (v := .int .i64 1) rfl rfl (by kernel_rfl) (by kernel_rfl) (by kernel_rfl) (by kernel_rfl) (fun _ _ _ h => h) (Or.inl ⟨by kernel_rfl, ?_⟩) rfl ?_
  · (intro X hX; subst hX <;> (go_simp; try (with_reducible rfl)))
  (try simp only [Act.put, List.setIfInBounds_toArray, List.set_cons_zero, List.set_cons_succ])
  refine wpAnyN_take (i := 2) (oi := { dst := some 24, op := Go.Op.indexAddr 88 (Go.Operand.tmp 5) (Go.Operand.tmp 23), type := 0, pos := "hear.go:38", after := #[{ on := 1, ground := Go.Ground.data }], guard := none }) (oL := { dst := some 28, op := Go.Op.call { callee := Go.Callee.value (Go.Operand.tmp 25), args := #[Go.Operand.tmp 26, Go.Operand.tmp 27], argTypes := #[24, 43] }, type := 1, pos := "hear.go:38", after := #[{ on := 3, ground := Go.Ground.data }, { on := 4, ground := Go.Ground.data }, { on := 5, ground := Go.Ground.data }], guard := none }) (v := .pointer (some ⟨w2.heap.size, 1, none⟩)) rfl rfl (by kernel_rfl) (by kernel_rfl) (by kernel_rfl) (by kernel_rfl) (fun _ _ _ h => h) (Or.inl ⟨by kernel_rfl, ?_⟩) rfl ?_
  · (intro X hX; subst hX <;> (go_simp; try (with_reducible rfl)))
  (try simp only [Act.put, List.setIfInBounds_toArray, List.set_cons_zero, List.set_cons_succ])
  refine wpAnyN_take (i := 3) (oi := { dst := some 25, op := Go.Op.load 87 (Go.Operand.tmp 24), type := 87, pos := "hear.go:38", after := #[{ on := 2, ground := Go.Ground.data }], guard := none }) (oL := { dst := some 28, op := Go.Op.call { callee := Go.Callee.value (Go.Operand.tmp 25), args := #[Go.Operand.tmp 26, Go.Operand.tmp 27], argTypes := #[24, 43] }, type := 1, pos := "hear.go:38", after := #[{ on := 3, ground := Go.Ground.data }, { on := 4, ground := Go.Ground.data }, { on := 5, ground := Go.Ground.data }], guard := none }) (v := .func (.func 30) #[] #[]) rfl rfl (by kernel_rfl) (by kernel_rfl) (by kernel_rfl) (by kernel_rfl) (fun _ _ _ h => h) (Or.inl ⟨by kernel_rfl, ?_⟩) rfl ?_
  · (intro X hX; subst hX <;> (go_simp; try (with_reducible rfl)))
  (try simp only [Act.put, List.setIfInBounds_toArray, List.set_cons_zero, List.set_cons_succ])
  refine wpAnyN_take (i := 4) (oi := { dst := some 26, op := Go.Op.move (Go.Operand.tmp 0), type := 24, pos := "hear.go:38", after := #[], guard := none }) (oL := { dst := some 28, op := Go.Op.call { callee := Go.Callee.value (Go.Operand.tmp 25), args := #[Go.Operand.tmp 26, Go.Operand.tmp 27], argTypes := #[24, 43] }, type := 1, pos := "hear.go:38", after := #[{ on := 3, ground := Go.Ground.data }, { on := 4, ground := Go.Ground.data }, { on := 5, ground := Go.Ground.data }], guard := none }) (v := .pointer (some ⟨P, 0, none⟩)) rfl rfl (by kernel_rfl) (by kernel_rfl) (by kernel_rfl) (by kernel_rfl) (fun _ _ _ h => h) (Or.inl ⟨by kernel_rfl, ?_⟩) rfl ?_
  · (intro X hX; subst hX <;> (go_simp; try (with_reducible rfl)))
  (try simp only [Act.put, List.setIfInBounds_toArray, List.set_cons_zero, List.set_cons_succ])
  refine wpAnyN_one (i := 5) (o := { dst := some 27, op := Go.Op.load 43 (Go.Operand.tmp 3), type := 43, pos := "hear.go:38", after := #[], guard := none }) (by kernel_rfl) rfl (fun K hK => ?_)
  refine wp_load_mid 43 _ rfl w.heap.size 0 rfl _ _ HC.out Tryd.underlying43 rfl Tryd.sizeAn ?_
  refine hK.out _ _ (fun _ => rfl) ?_
  clear hK K
  (try simp only [Act.put, List.setIfInBounds_toArray, List.set_cons_zero, List.set_cons_succ])
  refine wpAnyN_one (i := 6) (o := { dst := some 28, op := Go.Op.call { callee := Go.Callee.value (Go.Operand.tmp 25), args := #[Go.Operand.tmp 26, Go.Operand.tmp 27], argTypes := #[24, 43] }, type := 1, pos := "hear.go:38", after := #[{ on := 3, ground := Go.Ground.data }, { on := 4, ground := Go.Ground.data }, { on := 5, ground := Go.Ground.data }], guard := none }) (by kernel_rfl) rfl (fun K hK => ?_)
  go_simp
  refine (H.out _ HB3d.out).mono ?_
  rintro e w4 ⟨v, rfl, hr⟩
  have HR := Lib.hid hr
  clear hr
  refine hK.out _ _ (fun e => absurd (e.symm.trans (by kernel_rfl) : false = true) Bool.false_ne_true) ?_
  clear hK K
  (try simp only [Act.put, List.setIfInBounds_toArray, List.set_cons_zero, List.set_cons_succ])
  refine wpAnyN_of_H (S' := fun _ => True) _ _ _ _ (by kernel_rfl) ?_
  refine wpAnyH_take (i := 7) (oi := { dst := some 4, op := Go.Op.assign (Go.Operand.tmp 28), type := 1, pos := "hear.go:38", after := #[{ on := 6, ground := Go.Ground.data }, { on := 6, ground := Go.Ground.chain }, { on := 0, ground := Go.Ground.phase }, { on := 1, ground := Go.Ground.phase }, { on := 2, ground := Go.Ground.phase }, { on := 3, ground := Go.Ground.phase }, { on := 4, ground := Go.Ground.phase }, { on := 5, ground := Go.Ground.phase }, { on := 6, ground := Go.Ground.phase }], guard := none }) (v := v) rfl (by kernel_rfl) (by kernel_rfl) (by kernel_rfl) (fun _ _ _ h => h) (Or.inl ⟨by kernel_rfl, ?_⟩) trivial ?_
  · (intro X hX; go_simp; try (with_reducible rfl))
  (try simp only [Act.put, List.setIfInBounds_toArray, List.set_cons_zero, List.set_cons_succ])
  refine wpAnyH_done (by kernel_rfl) ?_ _
  go_wp2_with fail
  go_ret
  exact ⟨v, _, rfl, HB3d.out, HR.out⟩
end Go.Proofs.YtlmlbcnjohjnlaaDoor

/- mirror: whether an answer ends the picture. -/
namespace Go.Proofs.YtlmlbcnjohjnlaaDoor
open Go.RowKit

def ownBad (a : AN) : Bool := a.k == 1 && !a.tag.toList.isEmpty && a.out == 3
set_option maxRecDepth 20000 in
set_option maxHeartbeats 2000000 in
theorem begins_any (P : Nat) (q : Value) (bg : Bool) (k : Option AK) (a : AN) (w : World) (hq : w.cell? ⟨P, 0, none⟩ = some q) (h7 : w.cell? ⟨P, 7, none⟩ = some (.bool bg)) (hP : P < w.heap.size) (hh : Hand w q k) :
    Calls Tryd.prog 21 #[.pointer (some ⟨P, 0, none⟩), .agg (anC a)] w fun e w' => e = .returned (.bool (opn k && !bg && !ownBad a)) ∧ Below w.heap.size w w' := by
  have q1 : Below w.heap.size w (w.alloc (anO a)) := (Below.refl _ _).alloc (Nat.le_refl _) _
  obtain ⟨Y, hY⟩ : ∃ Y, w.alloc (anO a) = Y := ⟨_, rfl⟩
  have r0 : Y.heap[w.heap.size]? = some (anO a) := by rw [← hY]; exact heap_new _ _
  rw [hY] at q1
  obtain ⟨c0, c1, c2, _, _, _⟩ := an_cells r0
  have HI : Hid (Calls Tryd.prog 28 #[.pointer (some ⟨P, 0, none⟩)] Y fun e w' => e = .returned (.bool (opn k)) ∧ Below Y.heap.size Y w') := Lib.hid (isOpening_any P q k Y (by rw [q1.cell (p := ⟨P, 0, none⟩) hP]; exact hq) (Nat.lt_of_lt_of_le hP q1.size) (hh.on q1))
  have H7 : Hid (∀ X, Below Y.heap.size Y X → X.cell? ⟨P, 7, none⟩ = some (.bool bg)) := Lib.hid (fun X hX => by rw [hX.cell (p := ⟨P, 7, none⟩) (Nat.lt_of_lt_of_le hP q1.size), q1.cell (p := ⟨P, 7, none⟩) hP]; exact h7)
  have Q1 := Lib.hid q1
  have HY := Lib.hid hY
  obtain ⟨ob, hob⟩ : ∃ ob, opn k = ob := ⟨_, rfl⟩
  rw [hob] at HI ⊢
  obtain ⟨bd, hbd⟩ : ∃ bd, ownBad a = bd := ⟨_, rfl⟩
  rw [hbd]
  unfold ownBad at hbd
  clear hY q1 r0 hq h7 hh hob
  unfold anO at HY
  obtain ⟨x1, hx1⟩ : ∃ x, (a.k == 1) = x := ⟨_, rfl⟩
  obtain ⟨x2, hx2⟩ : ∃ x, a.tag.toList.isEmpty = x := ⟨_, rfl⟩
  obtain ⟨x3, hx3⟩ : ∃ x, (a.out == 3) = x := ⟨_, rfl⟩
  rw [hx1, hx2, hx3] at hbd
  subst hbd
  cases x1 <;> cases x2 <;> cases x3 <;> cases ob <;> cases bg <;> (
    simp only [Bool.and_true, Bool.and_false, Bool.not_true, Bool.not_false]
    go_enter Tryd.func21, Tryd.ntmps21
    go_upto_region 1 with fail
    rw [HY.out]
    clear HY
    go_wp2_with (go_at_call 28; refine HI.out.mono ?_; rintro e w3 ⟨rfl, hb3⟩; have d7 := H7.out _ hb3; have HB3 := Lib.hid hb3; clear hb3)
    go_ret
    first | exact ⟨rfl, Q1.out.trans (HB3.out.mono Q1.out.size)⟩ | exact Q1.out.trans (HB3.out.mono Q1.out.size))
end Go.Proofs.YtlmlbcnjohjnlaaDoor

/- view: tellFlags, its walk. -/
import Derived.Test.YtiphbnmnoofpkaaQ16v
namespace Go.Proofs.Ytiphbnmnoofpkaa
open Go.RowKit

section
variable {P : Nat} {val : Int} {rv cv : Value} {R : List RE} {C : List Int} {w : World} {N : Nat}
set_option maxRecDepth 100000 in
set_option maxHeartbeats 1000000 in
theorem tellFlags_any (h : VAt P val rv cv R C w) (hR : R.length ≤ 1000000) (tv : Value) (T : List TDE) (hT : TdRow w tv T) (hTf : FlT w T) (hTl : T.length ≤ 2000000) :
    Calls Try.prog 38 #[.pointer (some ⟨P, 0, none⟩), tv] w fun e w' => ∃ tv', e = .returned tv' ∧ TdRow w' tv' (T ++ flagE 0 R) ∧ FlT w' (T ++ flagE 0 R) ∧ VAt P val rv cv (R.map calmE) C w' ∧ FO (tv.ownBlock.toList ++ fpV P rv cv R) (tv'.ownBlock.toList ++ fpV P rv cv (R.map calmE)) w w' := by
  have c2 := h.cells.c2
  by_cases hR0 : R = []
  · subst hR0
    obtain ⟨a2, k2, hv2⟩ := ownsRow_shape h.rows
    subst hv2
    have HF : Hid (TdRow w tv (T ++ flagE 0 []) ∧ FlT w (T ++ flagE 0 []) ∧ VAt P val (.slice a2 ([] : List RE).length k2) cv (([] : List RE).map calmE) C w ∧ FO (tv.ownBlock.toList ++ fpV P (.slice a2 ([] : List RE).length k2) cv []) (tv.ownBlock.toList ++ fpV P (.slice a2 ([] : List RE).length k2) cv (([] : List RE).map calmE)) w w) := Lib.hid ⟨by simpa [flagE] using hT, by simpa [flagE] using hTf, h, FO.refl _ _⟩
    clear h hT hTf
    go_enter Try.func38, Try.ntmps38
    go_wp2
    go_step3
    go_wp2
    go_step3
    go_wp2
    refine wp_loop_rounds 1 ?_
    rw [rounds_succ]
    go_wp2
    (try rw [Exit.noGoto_ret])
    go_ret
    exact ⟨_, rfl, HF.out⟩
  · have hRp : 0 < R.length := List.length_pos_iff.2 hR0
    obtain ⟨g, cap, hv2, _⟩ := h.row_at hRp
    subst hv2
    have H0 : Hid (TF P val g cap cv R C T tv w 0 tv w) := Lib.hid ⟨by simpa [atK] using h, by simpa [flagE] using hT, by simpa [flagE] using hTf, by simpa [atK] using FO.refl _ _⟩
    clear h hT hTf hR0
    go_enter Try.func38, Try.ntmps38
    go_wp2
    go_step3
    go_wp2
    go_step3
    go_wp2
    go_loopw [1, 12] (fun v1 i wr => ∃ (k : Nat) (s1 : Value), k ≤ R.length ∧ i = .int .i64 k ∧ s1 = v1 ∧ TF P val g cap cv R C T tv w k s1 wr) (fun _ i _ => R.length - (intOf i).toNat)
    case atStart => exact ⟨0, _, Nat.zero_le _, rfl, rfl, H0.out⟩
    case round =>
      clear c2
      obtain ⟨k, s1, hk, rfl, hs1, hG⟩ := hrel
      subst hs1
      by_cases hlt : k < R.length
      · have hlti : (k : Int) < (R.length : Int) := by omega
        have hkl : k < (atK R k).length := by rw [atK_length]; exact hlt
        have hVk : VAt P val (.slice (some ⟨g, 0, none⟩) (atK R k).length cap) cv (atK R k) C wr := by rw [atK_length]; exact hG.view
        obtain ⟨g3, cap3, e3, c4, c5, c6, c7, _⟩ := hVk.row_at hkl
        cases e3
        rw [atK_get R k hlt] at c4 c5 c6 c7
        obtain ⟨Y, hY⟩ : ∃ Y, wr.alloc (.cells #[.int .i64 (R.getD k RE0).uid, .bool (R.getD k RE0).gone, .bool (R.getD k RE0).rct, (R.getD k RE0).ptr] 75) = Y := ⟨_, rfl⟩
        have hbY : Below wr.heap.size wr Y := by rw [← hY]; exact (Below.refl _ _).alloc (Nat.le_refl _) _
        have hYn : Y.heap[wr.heap.size]? = some (.cells #[.int .i64 (R.getD k RE0).uid, .bool (R.getD k RE0).gone, .bool (R.getD k RE0).rct, (R.getD k RE0).ptr] 75 (0, 0)) := by rw [← hY]; exact heap_new _ _
        have hYs : Y.heap.size = wr.heap.size + 1 := by rw [← hY]; simp
        have d1 : Y.cell? ⟨wr.heap.size, 1, none⟩ = some (.bool (R.getD k RE0).gone) := cell_of hYn 1
        have d3 : Y.cell? ⟨wr.heap.size, 3, none⟩ = some (R.getD k RE0).ptr := cell_of hYn 3
        have hwr : IntKind.i64.wrap ((k : Int) + 1) = (k : Int) + 1 := by rw [IntKind.wrap_i64]; omega
        clear hVk
        cases hgn : (R.getD k RE0).gone with
        | true =>
          rw [hgn] at c5 d1 hY
          obtain ⟨yo, hyo⟩ : ∃ yo, (R.getD k RE0).ptr = .pointer yo := ⟨_, rfl⟩
          rw [hyo] at c7 d3 hY
          have G4 := Lib.hid (hG.skip hlt hbY (by unfold calmE; rw [if_pos hgn]) (by unfold fE; rw [if_pos hgn]))
          clear hG hgn hyo hYn hbY
          generalize (R.getD k RE0).uid = x at *
          generalize (R.getD k RE0).rct = yr at *
          have HY := Lib.hid hY
          clear hY
          go_upto_region 4 with fail
          (try rw [HY.out])
          clear HY
          go_wp2_with fail
          go_roundw
          case rel => exact ⟨k + 1, _, by omega, by go_num, rfl, G4.out⟩
          case measure => simp [intOf]; omega
        | false =>
          rw [hgn] at c5 d1 hY
          cases htn : (R.getD k RE0).tn with
          | none =>
            have hyo : (R.getD k RE0).ptr = .pointer none := by unfold RE.ptr; rw [htn]; rfl
            rw [hyo] at c7 d3 hY
            have G4 := Lib.hid (hG.skip hlt hbY (by
              unfold calmE
              rw [if_neg (by rw [hgn]; simp)]
              generalize R.getD k RE0 = q at htn
              cases q
              simp only at htn
              rw [htn]) (by unfold fE; rw [if_neg (by rw [hgn]; simp), htn]))
            clear hG hgn hyo hYn hbY htn
            generalize (R.getD k RE0).uid = x at *
            generalize (R.getD k RE0).rct = yr at *
            have HY := Lib.hid hY
            clear hY
            go_upto_region 4 with fail
            (try rw [HY.out])
            clear HY
            go_wp2_with fail
            go_roundw
            case rel => exact ⟨k + 1, _, by omega, by go_num, rfl, G4.out⟩
            case measure => simp [intOf]; omega
          | some t =>
            have hyo : (R.getD k RE0).ptr = .pointer (some ⟨t.blk, 0, none⟩) := by unfold RE.ptr; rw [htn]; rfl
            rw [hyo] at c7 d3 hY
            have hmem : R.getD k RE0 ∈ atK R k := by rw [← atK_get R k hlt]; exact getD_mem' hkl
            have htu := hG.view.turns _ hmem t htn
            obtain ⟨fa, fc, hfv⟩ := ownsRow_shape htu.row
            obtain ⟨a1, c1, hs1⟩ := ownsRow_shape hG.told
            obtain ⟨a4, n4, k4, W4, r4, x2, x3, x4, g4⟩ := hG.tell hlt hbY hYs hgn t htn fa fc hfv hR hTl
            obtain ⟨cx, hcx⟩ := Option.isSome_iff_exists.1 x3
            have HRun := Lib.hid r4
            have G4 := Lib.hid g4
            have hto : Y.heap[t.blk]? = some (.cells #[.int .i64 t.num, .slice fa t.fl.length fc] 99 (0, 0)) := by
              rw [hbY.block _ (lt_of_heap htu.obj), htu.obj, ← hfv]; rfl
            have hXf : ∀ X, Below Y.heap.size Y X → X.cell? ⟨wr.heap.size, 0, none⟩ = some (.int .i64 (R.getD k RE0).uid) ∧ X.cell? ⟨wr.heap.size, 3, none⟩ = some (.pointer (some ⟨t.blk, 0, none⟩)) ∧ X.cell? ⟨t.blk, 0, none⟩ = some (.int .i64 t.num) ∧ X.cell? ⟨t.blk, 1, none⟩ = some (.slice fa t.fl.length fc) := fun X hX => by
              have hl1 : wr.heap.size < Y.heap.size := lt_of_heap hYn
              have hl2 : t.blk < Y.heap.size := lt_of_heap hto
              rw [hX.cell (p := ⟨wr.heap.size, 0, none⟩) hl1, hX.cell (p := ⟨wr.heap.size, 3, none⟩) hl1, hX.cell (p := ⟨t.blk, 0, none⟩) hl2, hX.cell (p := ⟨t.blk, 1, none⟩) hl2]
              exact ⟨cell_of hYn 0, d3, cell_of hto 0, cell_of hto 1⟩
            have HX := Lib.hid hXf
            have HBd : Hid (Below Y.heap.size Y Y.drew) := Lib.hid (Below.refl _ _).drew
            have HB3 : Hid (Below Y.heap.size Y (Y.drew.alloc (.cells #[.int .i64 4, .int .i64 ((k : Int) + 1), .int .i64 (R.getD k RE0).uid, .int .i64 t.num, .slice fa t.fl.length fc] 43))) := Lib.hid (((Below.refl _ _).drew).alloc (Nat.le_refl _) _)
            subst hs1
            clear hG hgn hyo hYn hbY htn hto hXf r4 g4 htu hfv hmem x3
            generalize (T ++ flagE 0 (R.take k)).length = n1 at *
            generalize (R.getD k RE0).uid = x at *
            generalize (R.getD k RE0).rct = yr at *
            generalize t.fl.length = nf at *
            generalize t.num = num at *
            generalize t.blk = tb at *
            have HY := Lib.hid hY
            clear hY
            go_upto_region 4 with fail
            (try rw [HY.out])
            clear HY
            go_upto_region 5 with fail
            --R Flags5--
            refine wp_region_N 17 (fun X => Below Y.heap.size Y X) (by kernel_rfl) ?_
            refine wpAnyN_take (i := 0) (oi := { dst := some 24, op := Go.Op.move (Go.Operand.tmp 1), type := 32, pos := "take.go:51", after := #[], guard := none }) (oL := { dst := some 41, op := Go.Op.call { callee := Go.Callee.builtin Go.Builtin.append, args := #[Go.Operand.tmp 24, Go.Operand.tmp 40], argTypes := #[32, 32] }, type := 32, pos := "take.go:51", after := #[{ on := 0, ground := Go.Ground.data }, { on := 16, ground := Go.Ground.data }], guard := none }) (v := .slice a1 n1 c1) rfl rfl (by kernel_rfl) (by kernel_rfl) (by kernel_rfl) (by kernel_rfl) (fun _ _ _ h => h) (Or.inl ⟨by kernel_rfl, ?_⟩) HBd.out ?_
            · (intro X hX; obtain ⟨z1, z2, z3, z4⟩ := HX.out X hX <;> (go_simp; try (with_reducible rfl)))
            (try simp only [Act.put, List.setIfInBounds_toArray, List.set_cons_zero, List.set_cons_succ])
            refine wpAnyN_take (i := 1) (oi := { dst := some 25, op := Go.Op.move (Go.Operand.tmp 5), type := 3, pos := "take.go:51", after := #[], guard := none }) (oL := { dst := some 41, op := Go.Op.call { callee := Go.Callee.builtin Go.Builtin.append, args := #[Go.Operand.tmp 24, Go.Operand.tmp 40], argTypes := #[32, 32] }, type := 32, pos := "take.go:51", after := #[{ on := 0, ground := Go.Ground.data }, { on := 16, ground := Go.Ground.data }], guard := none }) (v := .int .i64 (k : Int)) rfl rfl (by kernel_rfl) (by kernel_rfl) (by kernel_rfl) (by kernel_rfl) (fun _ _ _ h => h) (Or.inl ⟨by kernel_rfl, ?_⟩) HBd.out ?_
            · (intro X hX; obtain ⟨z1, z2, z3, z4⟩ := HX.out X hX <;> (go_simp; try (with_reducible rfl)))
            (try simp only [Act.put, List.setIfInBounds_toArray, List.set_cons_zero, List.set_cons_succ])
            refine wpAnyN_take (i := 2) (oi := { dst := some 26, op := Go.Op.binOp Go.BinOp.add 3 (Go.Operand.tmp 25) (Go.Operand.const (Go.Value.int Go.IntKind.i64 1)) 3, type := 3, pos := "take.go:51", after := #[{ on := 1, ground := Go.Ground.data }], guard := none }) (oL := { dst := some 41, op := Go.Op.call { callee := Go.Callee.builtin Go.Builtin.append, args := #[Go.Operand.tmp 24, Go.Operand.tmp 40], argTypes := #[32, 32] }, type := 32, pos := "take.go:51", after := #[{ on := 0, ground := Go.Ground.data }, { on := 16, ground := Go.Ground.data }], guard := none }) (v := .int .i64 ((k : Int) + 1)) rfl rfl (by kernel_rfl) (by kernel_rfl) (by kernel_rfl) (by kernel_rfl) (fun _ _ _ h => h) (Or.inl ⟨by kernel_rfl, ?_⟩) HBd.out ?_
            · (intro X hX; obtain ⟨z1, z2, z3, z4⟩ := HX.out X hX <;> (go_simp; try (with_reducible rfl)))
            (try simp only [Act.put, List.setIfInBounds_toArray, List.set_cons_zero, List.set_cons_succ])
            refine wpAnyN_take (i := 3) (oi := { dst := some 27, op := Go.Op.fieldAddr 75 (Go.Operand.tmp 6) 0, type := 0, pos := "take.go:51", after := #[], guard := none }) (oL := { dst := some 41, op := Go.Op.call { callee := Go.Callee.builtin Go.Builtin.append, args := #[Go.Operand.tmp 24, Go.Operand.tmp 40], argTypes := #[32, 32] }, type := 32, pos := "take.go:51", after := #[{ on := 0, ground := Go.Ground.data }, { on := 16, ground := Go.Ground.data }], guard := none }) (v := .pointer (some ⟨wr.heap.size, 0, none⟩)) rfl rfl (by kernel_rfl) (by kernel_rfl) (by kernel_rfl) (by kernel_rfl) (fun _ _ _ h => h) (Or.inl ⟨by kernel_rfl, ?_⟩) HBd.out ?_
            · (intro X hX; obtain ⟨z1, z2, z3, z4⟩ := HX.out X hX <;> (go_simp; try (with_reducible rfl)))
            (try simp only [Act.put, List.setIfInBounds_toArray, List.set_cons_zero, List.set_cons_succ])
            refine wpAnyN_take (i := 4) (oi := { dst := some 28, op := Go.Op.load 3 (Go.Operand.tmp 27), type := 3, pos := "take.go:51", after := #[{ on := 3, ground := Go.Ground.data }], guard := none }) (oL := { dst := some 41, op := Go.Op.call { callee := Go.Callee.builtin Go.Builtin.append, args := #[Go.Operand.tmp 24, Go.Operand.tmp 40], argTypes := #[32, 32] }, type := 32, pos := "take.go:51", after := #[{ on := 0, ground := Go.Ground.data }, { on := 16, ground := Go.Ground.data }], guard := none }) (v := .int .i64 x) rfl rfl (by kernel_rfl) (by kernel_rfl) (by kernel_rfl) (by kernel_rfl) (fun _ _ _ h => h) (Or.inl ⟨by kernel_rfl, ?_⟩) HBd.out ?_
            · (intro X hX; obtain ⟨z1, z2, z3, z4⟩ := HX.out X hX <;> (go_simp; try (with_reducible rfl)))
            (try simp only [Act.put, List.setIfInBounds_toArray, List.set_cons_zero, List.set_cons_succ])
            refine wpAnyN_take (i := 5) (oi := { dst := some 29, op := Go.Op.fieldAddr 75 (Go.Operand.tmp 6) 3, type := 0, pos := "take.go:51", after := #[], guard := none }) (oL := { dst := some 41, op := Go.Op.call { callee := Go.Callee.builtin Go.Builtin.append, args := #[Go.Operand.tmp 24, Go.Operand.tmp 40], argTypes := #[32, 32] }, type := 32, pos := "take.go:51", after := #[{ on := 0, ground := Go.Ground.data }, { on := 16, ground := Go.Ground.data }], guard := none }) (v := .pointer (some ⟨wr.heap.size, 3, none⟩)) rfl rfl (by kernel_rfl) (by kernel_rfl) (by kernel_rfl) (by kernel_rfl) (fun _ _ _ h => h) (Or.inl ⟨by kernel_rfl, ?_⟩) HBd.out ?_
            · (intro X hX; obtain ⟨z1, z2, z3, z4⟩ := HX.out X hX <;> (go_simp; try (with_reducible rfl)))
            (try simp only [Act.put, List.setIfInBounds_toArray, List.set_cons_zero, List.set_cons_succ])
            refine wpAnyN_take (i := 6) (oi := { dst := some 30, op := Go.Op.load 73 (Go.Operand.tmp 29), type := 73, pos := "take.go:51", after := #[{ on := 5, ground := Go.Ground.data }], guard := none }) (oL := { dst := some 41, op := Go.Op.call { callee := Go.Callee.builtin Go.Builtin.append, args := #[Go.Operand.tmp 24, Go.Operand.tmp 40], argTypes := #[32, 32] }, type := 32, pos := "take.go:51", after := #[{ on := 0, ground := Go.Ground.data }, { on := 16, ground := Go.Ground.data }], guard := none }) (v := .pointer (some ⟨tb, 0, none⟩)) rfl rfl (by kernel_rfl) (by kernel_rfl) (by kernel_rfl) (by kernel_rfl) (fun _ _ _ h => h) (Or.inl ⟨by kernel_rfl, ?_⟩) HBd.out ?_
            · (intro X hX; obtain ⟨z1, z2, z3, z4⟩ := HX.out X hX <;> (go_simp; try (with_reducible rfl)))
            (try simp only [Act.put, List.setIfInBounds_toArray, List.set_cons_zero, List.set_cons_succ])
            refine wpAnyN_take (i := 7) (oi := { dst := some 31, op := Go.Op.nilCheck (Go.Operand.tmp 30), type := 0, pos := "take.go:51", after := #[{ on := 6, ground := Go.Ground.data }], guard := none }) (oL := { dst := some 41, op := Go.Op.call { callee := Go.Callee.builtin Go.Builtin.append, args := #[Go.Operand.tmp 24, Go.Operand.tmp 40], argTypes := #[32, 32] }, type := 32, pos := "take.go:51", after := #[{ on := 0, ground := Go.Ground.data }, { on := 16, ground := Go.Ground.data }], guard := none }) (v := .pointer (some ⟨tb, 0, none⟩)) rfl rfl (by kernel_rfl) (by kernel_rfl) (by kernel_rfl) (by kernel_rfl) (fun _ _ _ h => h) (Or.inl ⟨by kernel_rfl, ?_⟩) HBd.out ?_
            · (intro X hX; obtain ⟨z1, z2, z3, z4⟩ := HX.out X hX <;> (go_simp; try (with_reducible rfl)))
            (try simp only [Act.put, List.setIfInBounds_toArray, List.set_cons_zero, List.set_cons_succ])
            refine wpAnyN_take (i := 8) (oi := { dst := some 32, op := Go.Op.fieldAddr 99 (Go.Operand.tmp 31) 0, type := 0, pos := "take.go:51", after := #[{ on := 7, ground := Go.Ground.data }], guard := none }) (oL := { dst := some 41, op := Go.Op.call { callee := Go.Callee.builtin Go.Builtin.append, args := #[Go.Operand.tmp 24, Go.Operand.tmp 40], argTypes := #[32, 32] }, type := 32, pos := "take.go:51", after := #[{ on := 0, ground := Go.Ground.data }, { on := 16, ground := Go.Ground.data }], guard := none }) (v := .pointer (some ⟨tb, 0, none⟩)) rfl rfl (by kernel_rfl) (by kernel_rfl) (by kernel_rfl) (by kernel_rfl) (fun _ _ _ h => h) (Or.inl ⟨by kernel_rfl, ?_⟩) HBd.out ?_
            · (intro X hX; obtain ⟨z1, z2, z3, z4⟩ := HX.out X hX <;> (go_simp; try (with_reducible rfl)))
            (try simp only [Act.put, List.setIfInBounds_toArray, List.set_cons_zero, List.set_cons_succ])
            refine wpAnyN_take (i := 9) (oi := { dst := some 33, op := Go.Op.load 3 (Go.Operand.tmp 32), type := 3, pos := "take.go:51", after := #[{ on := 8, ground := Go.Ground.data }], guard := none }) (oL := { dst := some 41, op := Go.Op.call { callee := Go.Callee.builtin Go.Builtin.append, args := #[Go.Operand.tmp 24, Go.Operand.tmp 40], argTypes := #[32, 32] }, type := 32, pos := "take.go:51", after := #[{ on := 0, ground := Go.Ground.data }, { on := 16, ground := Go.Ground.data }], guard := none }) (v := .int .i64 num) rfl rfl (by kernel_rfl) (by kernel_rfl) (by kernel_rfl) (by kernel_rfl) (fun _ _ _ h => h) (Or.inl ⟨by kernel_rfl, ?_⟩) HBd.out ?_
            · (intro X hX; obtain ⟨z1, z2, z3, z4⟩ := HX.out X hX <;> (go_simp; try (with_reducible rfl)))
            (try simp only [Act.put, List.setIfInBounds_toArray, List.set_cons_zero, List.set_cons_succ])
            refine wpAnyN_take (i := 10) (oi := { dst := some 34, op := Go.Op.fieldAddr 75 (Go.Operand.tmp 6) 3, type := 0, pos := "take.go:51", after := #[], guard := none }) (oL := { dst := some 41, op := Go.Op.call { callee := Go.Callee.builtin Go.Builtin.append, args := #[Go.Operand.tmp 24, Go.Operand.tmp 40], argTypes := #[32, 32] }, type := 32, pos := "take.go:51", after := #[{ on := 0, ground := Go.Ground.data }, { on := 16, ground := Go.Ground.data }], guard := none }) (v := .pointer (some ⟨wr.heap.size, 3, none⟩)) rfl rfl (by kernel_rfl) (by kernel_rfl) (by kernel_rfl) (by kernel_rfl) (fun _ _ _ h => h) (Or.inl ⟨by kernel_rfl, ?_⟩) HBd.out ?_
            · (intro X hX; obtain ⟨z1, z2, z3, z4⟩ := HX.out X hX <;> (go_simp; try (with_reducible rfl)))
            (try simp only [Act.put, List.setIfInBounds_toArray, List.set_cons_zero, List.set_cons_succ])
            refine wpAnyN_take (i := 11) (oi := { dst := some 35, op := Go.Op.load 73 (Go.Operand.tmp 34), type := 73, pos := "take.go:51", after := #[{ on := 10, ground := Go.Ground.data }], guard := none }) (oL := { dst := some 41, op := Go.Op.call { callee := Go.Callee.builtin Go.Builtin.append, args := #[Go.Operand.tmp 24, Go.Operand.tmp 40], argTypes := #[32, 32] }, type := 32, pos := "take.go:51", after := #[{ on := 0, ground := Go.Ground.data }, { on := 16, ground := Go.Ground.data }], guard := none }) (v := .pointer (some ⟨tb, 0, none⟩)) rfl rfl (by kernel_rfl) (by kernel_rfl) (by kernel_rfl) (by kernel_rfl) (fun _ _ _ h => h) (Or.inl ⟨by kernel_rfl, ?_⟩) HBd.out ?_
            · (intro X hX; obtain ⟨z1, z2, z3, z4⟩ := HX.out X hX <;> (go_simp; try (with_reducible rfl)))
            (try simp only [Act.put, List.setIfInBounds_toArray, List.set_cons_zero, List.set_cons_succ])
            refine wpAnyN_take (i := 12) (oi := { dst := some 36, op := Go.Op.nilCheck (Go.Operand.tmp 35), type := 0, pos := "take.go:51", after := #[{ on := 11, ground := Go.Ground.data }], guard := none }) (oL := { dst := some 41, op := Go.Op.call { callee := Go.Callee.builtin Go.Builtin.append, args := #[Go.Operand.tmp 24, Go.Operand.tmp 40], argTypes := #[32, 32] }, type := 32, pos := "take.go:51", after := #[{ on := 0, ground := Go.Ground.data }, { on := 16, ground := Go.Ground.data }], guard := none }) (v := .pointer (some ⟨tb, 0, none⟩)) rfl rfl (by kernel_rfl) (by kernel_rfl) (by kernel_rfl) (by kernel_rfl) (fun _ _ _ h => h) (Or.inl ⟨by kernel_rfl, ?_⟩) HBd.out ?_
            · (intro X hX; obtain ⟨z1, z2, z3, z4⟩ := HX.out X hX <;> (go_simp; try (with_reducible rfl)))
            (try simp only [Act.put, List.setIfInBounds_toArray, List.set_cons_zero, List.set_cons_succ])
            refine wpAnyN_take (i := 13) (oi := { dst := some 37, op := Go.Op.fieldAddr 99 (Go.Operand.tmp 36) 1, type := 0, pos := "take.go:51", after := #[{ on := 12, ground := Go.Ground.data }], guard := none }) (oL := { dst := some 41, op := Go.Op.call { callee := Go.Callee.builtin Go.Builtin.append, args := #[Go.Operand.tmp 24, Go.Operand.tmp 40], argTypes := #[32, 32] }, type := 32, pos := "take.go:51", after := #[{ on := 0, ground := Go.Ground.data }, { on := 16, ground := Go.Ground.data }], guard := none }) (v := .pointer (some ⟨tb, 1, none⟩)) rfl rfl (by kernel_rfl) (by kernel_rfl) (by kernel_rfl) (by kernel_rfl) (fun _ _ _ h => h) (Or.inl ⟨by kernel_rfl, ?_⟩) HBd.out ?_
            · (intro X hX; obtain ⟨z1, z2, z3, z4⟩ := HX.out X hX <;> (go_simp; try (with_reducible rfl)))
            (try simp only [Act.put, List.setIfInBounds_toArray, List.set_cons_zero, List.set_cons_succ])
            refine wpAnyN_take (i := 14) (oi := { dst := some 38, op := Go.Op.load 22 (Go.Operand.tmp 37), type := 22, pos := "take.go:51", after := #[{ on := 13, ground := Go.Ground.data }], guard := none }) (oL := { dst := some 41, op := Go.Op.call { callee := Go.Callee.builtin Go.Builtin.append, args := #[Go.Operand.tmp 24, Go.Operand.tmp 40], argTypes := #[32, 32] }, type := 32, pos := "take.go:51", after := #[{ on := 0, ground := Go.Ground.data }, { on := 16, ground := Go.Ground.data }], guard := none }) (v := .slice fa nf fc) rfl rfl (by kernel_rfl) (by kernel_rfl) (by kernel_rfl) (by kernel_rfl) (fun _ _ _ h => h) (Or.inl ⟨by kernel_rfl, ?_⟩) HBd.out ?_
            · (intro X hX; obtain ⟨z1, z2, z3, z4⟩ := HX.out X hX <;> (go_simp; try (with_reducible rfl)))
            (try simp only [Act.put, List.setIfInBounds_toArray, List.set_cons_zero, List.set_cons_succ])
            refine wpAnyN_take (i := 15) (oi := { dst := some 39, op := Go.Op.build 43 #[(0, Go.Operand.const (Go.Value.int Go.IntKind.i64 4)), (1, Go.Operand.tmp 26), (2, Go.Operand.tmp 28), (3, Go.Operand.tmp 33), (4, Go.Operand.tmp 38)], type := 43, pos := "take.go:51", after := #[{ on := 2, ground := Go.Ground.data }, { on := 4, ground := Go.Ground.data }, { on := 9, ground := Go.Ground.data }, { on := 14, ground := Go.Ground.data }], guard := none }) (oL := { dst := some 41, op := Go.Op.call { callee := Go.Callee.builtin Go.Builtin.append, args := #[Go.Operand.tmp 24, Go.Operand.tmp 40], argTypes := #[32, 32] }, type := 32, pos := "take.go:51", after := #[{ on := 0, ground := Go.Ground.data }, { on := 16, ground := Go.Ground.data }], guard := none }) (v := .agg #[.int .i64 4, .int .i64 ((k : Int) + 1), .int .i64 x, .int .i64 num, .slice fa nf fc]) rfl rfl (by kernel_rfl) (by kernel_rfl) (by kernel_rfl) (by kernel_rfl) (fun _ _ _ h => h) (Or.inl ⟨by kernel_rfl, ?_⟩) HBd.out ?_
            · (intro X hX; obtain ⟨z1, z2, z3, z4⟩ := HX.out X hX <;> (go_simp; try (with_reducible rfl)))
            (try simp only [Act.put, List.setIfInBounds_toArray, List.set_cons_zero, List.set_cons_succ])
            refine wpAnyN_one (i := 16) (o := { dst := some 40, op := Go.Op.buildSlice 32 1 #[(0, Go.Operand.tmp 39)], type := 32, pos := "take.go:51", after := #[{ on := 15, ground := Go.Ground.data }], guard := none }) (by kernel_rfl) rfl (fun K hK => ?_)
            go_simp
            refine hK.out _ _ (fun _ => HB3.out) ?_
            clear hK K
            (try simp only [Act.put, List.setIfInBounds_toArray, List.set_cons_zero, List.set_cons_succ])
            refine wpAnyN_one (i := 17) (o := { dst := some 41, op := Go.Op.call { callee := Go.Callee.builtin Go.Builtin.append, args := #[Go.Operand.tmp 24, Go.Operand.tmp 40], argTypes := #[32, 32] }, type := 32, pos := "take.go:51", after := #[{ on := 0, ground := Go.Ground.data }, { on := 16, ground := Go.Ground.data }], guard := none }) (by kernel_rfl) rfl (fun K hK => ?_)
            refine step_append_run (u := .slice a1 n1 c1) (v := .slice (some ⟨wr.heap.size + 1, 0, none⟩) 1 1) rfl _ _ _ rfl 32 rfl rfl rfl _ _ HRun.out ?_
            refine hK.out _ _ (fun e => absurd (e.symm.trans (by kernel_rfl) : false = true) Bool.false_ne_true) ?_
            clear hK K
            (try simp only [Act.put, List.setIfInBounds_toArray, List.set_cons_zero, List.set_cons_succ])
            refine wpAnyN_of_H (S' := fun _ => True) _ _ _ _ (by kernel_rfl) ?_
            refine wpAnyH_take (i := 18) (oi := { dst := some 1, op := Go.Op.assign (Go.Operand.tmp 41), type := 32, pos := "take.go:51", after := #[{ on := 17, ground := Go.Ground.data }, { on := 17, ground := Go.Ground.chain }, { on := 0, ground := Go.Ground.phase }, { on := 1, ground := Go.Ground.phase }, { on := 2, ground := Go.Ground.phase }, { on := 3, ground := Go.Ground.phase }, { on := 4, ground := Go.Ground.phase }, { on := 5, ground := Go.Ground.phase }, { on := 6, ground := Go.Ground.phase }, { on := 7, ground := Go.Ground.phase }, { on := 8, ground := Go.Ground.phase }, { on := 9, ground := Go.Ground.phase }, { on := 10, ground := Go.Ground.phase }, { on := 11, ground := Go.Ground.phase }, { on := 12, ground := Go.Ground.phase }, { on := 13, ground := Go.Ground.phase }, { on := 14, ground := Go.Ground.phase }, { on := 15, ground := Go.Ground.phase }, { on := 16, ground := Go.Ground.phase }, { on := 17, ground := Go.Ground.phase }], guard := none }) (v := .slice a4 n4 k4) rfl (by kernel_rfl) (by kernel_rfl) (by kernel_rfl) (fun _ _ _ h => h) (Or.inl ⟨by kernel_rfl, ?_⟩) trivial ?_
            · (intro X hX; go_simp; try (with_reducible rfl))
            (try simp only [Act.put, List.setIfInBounds_toArray, List.set_cons_zero, List.set_cons_succ])
            refine wpAnyH_done (by kernel_rfl) ?_ _
            --E Flags5--
            go_wp2_with fail
            go_roundw
            case rel => exact ⟨k + 1, _, by omega, by go_num, rfl, G4.out⟩
            case measure => simp [intOf]; omega
      · obtain rfl : k = R.length := by omega
        obtain ⟨g1, g2, g3, g4⟩ := hG
        have ea : atK R R.length = R.map calmE := by unfold atK; rw [List.take_of_length_le (Nat.le_refl _), List.drop_of_length_le (Nat.le_refl _), List.append_nil]
        rw [List.take_of_length_le (Nat.le_refl _)] at g2 g3
        rw [ea] at g1 g4
        have HF := Lib.hid (And.intro g2 (And.intro g3 (And.intro g1 g4)))
        clear g1 g2 g3 g4
        go_wp2
        (try rw [Exit.noGoto_ret])
        go_ret
        exact ⟨_, rfl, HF.out⟩
end
end Go.Proofs.Ytiphbnmnoofpkaa

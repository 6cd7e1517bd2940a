/- mirror: a row is taken out of a list of rows. -/
import Derived.Test.YtlmlbcnjohjnlaaDoorN19m
import Derived.Lib.SliceRun
import Derived.Test.YtlmlbcnjohjnlaaDoorM19t
import Derived.Test.YtlmlbcnjohjnlaaDoorVd
namespace Go.Proofs.YtlmlbcnjohjnlaaDoor
open Go.RowKit

theorem Tryd.clear_row (w : World) (ty : TypeId) (g o c : Nat) (hc : ∀ j, j < 3 → (w.cell? ⟨g, o + j, none⟩).isSome = true) (hf : ∀ j, j < 3 → w.frozen? ⟨g, o + j, none⟩ = false) :
    (Builtin.clear_ #[70] ty #[.slice (some ⟨g, o, none⟩) 1 c]).run Tryd.prog w = .ok (.tuple #[]) (w.setCells g o (rwL [RW0])) := by
  have hzc : (Builtin.zeroCells #[.int .i64 0, .bool false, .slice none 0 0] 1).toList = rwL [RW0] := zero_rows 1
  have hst := run_storeCells_cells (P := Tryd.prog) g o (rwL [RW0]) 0 w (by simpa [rwL, rwC] using hc) (by simpa [rwL, rwC] using hf) (by intro v hv; simp [rwL, rwC, RW0] at hv; rcases hv with rfl | rfl | rfl <;> rfl)
  simp only [Nat.add_zero] at hst
  simp [Builtin.clear_, run_underlying Tryd.underlying70]
  rw [show (Builtin.zeroCells (Value.agg #[.int .i64 0, .bool false, .slice none 0 0]).cells 1).toList = rwL [RW0] from hzc, hst]
  rfl
def DelOut (v : Value) (n : Nat) (xs : List Value) (w : World) (e : Ending) (w' : World) : Prop := ∃ v', e = .returned v' ∧ RowAt w' 98 3 v' n xs ∧ w.grownBy w' v.ownBlock ∧ v'.ownBlock = v.ownBlock
set_option maxRecDepth 100000 in
set_option maxHeartbeats 2000000 in
theorem delete_row (v : Value) (n i j : Nat) (xs : List Value) (w : World) (h : RowAt w 98 3 v n xs) (hi : i < n) (hl : n ≤ 1000000) (hj : j = i + 1) (h1 : ∀ u ∈ xs, u.oneCell' = true) :
    Calls Tryd.prog 48 #[v, .int .i64 (i : Int), .int .i64 (j : Int)] w (DelOut v (n - 1) (xs.take (i * 3) ++ xs.drop (j * 3)) w) := by
  have hxl := h.1
  rcases h.2 with ⟨_, h0⟩ | ⟨g, o, cap, cur, rfl, hg, hnc, hcs, htk⟩
  · omega
  obtain ⟨m, hm⟩ : ∃ m, n = m + 1 := ⟨n - 1, by omega⟩
  obtain ⟨i0, hi0, hz0, hz1, hz2⟩ := info_parts' Tryd.infoRw
  obtain ⟨o2, c2, ho2, hform⟩ : ∃ o2 c2, (o2 = o + j * 3 ∨ n = j) ∧ ((j < cap ∧ o2 = o + j * 3 ∧ c2 = cap - j) ∨ (j = cap ∧ o2 = o ∧ c2 = 0)) := by
    by_cases hq : j < cap
    · exact ⟨_, cap - j, .inl rfl, .inl ⟨hq, rfl, rfl⟩⟩
    · exact ⟨o, 0, .inr (by omega), .inr ⟨by omega, rfl, rfl⟩⟩
  have hnl : (xs.drop (j * 3)).length = (n - j) * 3 := by rw [List.length_drop, hxl, Nat.sub_mul]
  have hsrc : Src Tryd.prog 3 70 (.slice (some ⟨g, o2, none⟩) (n - j) c2) (n - j) (xs.drop (j * 3)) w.drew := Src.ofSlice w.drew Tryd.underlying70 _ _ _ _ hnl (fun k u hk => by
    have hkl := (List.getElem?_eq_some_iff.1 hk).1
    rw [hnl] at hkl
    have ho3 : o2 = o + j * 3 := by omega
    subst ho3
    rw [List.getElem?_drop, ← htk, List.getElem?_take, if_pos (by omega), List.getElem?_drop] at hk
    rw [Addr.add_lit, cell_of (show w.drew.heap[g]? = some (.cells cur 98 (0, 0)) from hg), ← hk]
    simp [Nat.add_assoc]) (fun u hu => h1 u (List.mem_of_mem_drop hu))
  have hrun := run_append_room_src (P := Tryd.prog) w.drew 70 70 70 98 i0 Tryd.underlying70 hi0 g o i cap (.slice (some ⟨g, o2, none⟩) (n - j) c2) (n - j) (xs.drop (j * 3)) (by rw [hz1]; exact hsrc) (by omega) (fun k hk => by
    rw [hz1]
    rw [hnl] at hk
    rw [cell_of (show w.drew.heap[g]? = some (.cells cur 98 (0, 0)) from hg)]
    simp
    omega) (fun k hk => frozen_of (show w.drew.heap[g]? = some (.cells cur 98 (0, 0)) from hg) _)
  rw [hz1] at hrun
  obtain ⟨W1, hW1⟩ : ∃ W1, w.drew.setCells g (o + i * 3) (xs.drop (j * 3)) = W1 := ⟨_, rfl⟩
  rw [hW1, show i + (n - j) = m from by omega] at hrun
  obtain ⟨cur1, hg1, hl1⟩ := heap_setCells_at (xs.drop (j * 3)) (o + i * 3) w.drew cur hg (by rw [hnl]; omega)
  obtain ⟨s1, s2, s3, s4, s5⟩ := size_setCells' g (xs.drop (j * 3)) (o + i * 3) w.drew
  rw [hW1] at hg1 s1 s2 s3 s4 s5
  have hcl : ∀ ty, (Builtin.clear_ #[70] ty #[.slice (some ⟨g, o + m * 3, none⟩) 1 (cap - m)]).run Tryd.prog W1 = .ok (.tuple #[]) (W1.setCells g (o + m * 3) (rwL [RW0])) := fun ty => Tryd.clear_row W1 ty g (o + m * 3) (cap - m) (fun k hk => by
    have hsz := congrArg List.length hl1
    simp only [List.length_append, List.length_take, List.length_drop, Array.length_toList, hxl] at hsz
    rw [cell_of hg1]
    simp
    omega) (fun k hk => frozen_of hg1 _)
  have hsz1 : cur1.size = cur.size := by
    have hsz := congrArg List.length hl1
    simp only [List.length_append, List.length_take, List.length_drop, Array.length_toList, hxl] at hsz
    omega
  obtain ⟨cur2, hg2, hl2⟩ := heap_setCells_at (rwL [RW0]) (o + m * 3) W1 cur1 hg1 (by rw [rwL_len]; simp; omega)
  obtain ⟨t1, t2, t3, t4, t5⟩ := size_setCells' g (rwL [RW0]) (o + m * 3) W1
  have HF : Hid (DelOut (.slice (some ⟨g, o, none⟩) n cap) (n - 1) (xs.take (i * 3) ++ xs.drop (j * 3)) w (.returned (.slice (some ⟨g, o, none⟩) m cap)) (W1.setCells g (o + m * 3) (rwL [RW0]))) := Lib.hid (by
    refine ⟨_, rfl, ⟨?_, .inr ⟨g, o, cap, cur2, by rw [show n - 1 = m from by omega], hg2, by omega, ?_, ?_⟩⟩, ⟨t2.trans s2, t3.trans s3, t4.trans s4, ?_, fun k hk hne => ?_⟩, rfl⟩
    · rw [List.length_append, hnl, List.length_take, hxl]; omega
    · have hsz := congrArg List.length hl2
      simp only [List.length_append, List.length_take, List.length_drop, Array.length_toList, rwL_len, List.length_singleton] at hsz
      omega
    · have hxt : (cur.toList.take (o + i * 3)).drop o = xs.take (i * 3) := by
        rw [List.drop_take, ← htk, List.take_take]
        congr 1
        omega
      have ho1 : o ≤ (cur.toList.take (o + i * 3)).length := by rw [List.length_take, Array.length_toList]; omega
      have ho2' : (cur1.toList.take (o + m * 3)).length = o + m * 3 := by rw [List.length_take, Array.length_toList]; omega
      rw [hl2, List.append_assoc, List.drop_append, show o - (cur1.toList.take (o + m * 3)).length = 0 from by omega, List.drop_zero, List.take_append, List.length_drop, ho2', show (n - 1) * 3 - (o + m * 3 - o) = 0 from by omega, List.take_zero, List.append_nil, List.drop_take, List.take_take,
        show min ((n - 1) * 3) (o + m * 3 - o) = m * 3 from by omega, hl1, List.append_assoc, List.drop_append, show o - (cur.toList.take (o + i * 3)).length = 0 from by omega, List.drop_zero, hxt, ← List.append_assoc]
      have hlen : (xs.take (i * 3) ++ xs.drop (j * 3)).length = m * 3 := by rw [List.length_append, hnl, List.length_take, hxl]; omega
      rw [← hlen]
      exact List.take_left
    · show w.heap.size ≤ _
      rw [t1, s1]
      exact Nat.le_refl _
    · have hkg : k ≠ g := fun e => hne (by rw [e]; rfl)
      rw [t5 k hkg, s5 k hkg]
      rfl)
  have HRun := Lib.hid hrun
  have hne : ((i : Int) == (j : Int)) = false := by rw [beq_eq_false_iff_ne]; omega
  have z1 : j ≤ n := by omega
  have z2 : i ≤ j := by omega
  have z3 : n ≤ cap := by omega
  have z4 : m ≤ n := by omega
  have z5 : i ≤ cap := by omega
  have z6 : j ≤ cap := by omega
  have z7 : m ≤ cap := by omega
  have z8 : n ≤ 1000000 := by omega
  have z9 : i < n := by omega
  have za : m < cap := by omega
  have zc : cap = j → n - j = 0 := fun e => by omega
  rw [show (1 : Nat) = n - m by omega] at hcl
  clear h hg hcs htk hW1 hg1 hl1 s1 s2 s3 s4 s5 hg2 hl2 t1 t2 t3 t4 t5 hm hi0 hz0 hz1 hz2 hnc hj hi hl ho2 hnl hsrc hrun hxl h1 hsz1
  rcases hform with ⟨hq, rfl, rfl⟩ | ⟨hq, ho4, rfl⟩
  · clear zc
    have zq : ¬ cap = j := by omega
    have zm : ¬ cap = m := by omega
    go_enter Tryd.func48, Tryd.ntmps48
    go_wp2_with fail
    refine wp_region_N 6 (fun X => X = w.drew) (by kernel_rfl) ?_
    refine wpAnyN_take (i := 0) (oi := { dst := some 20, op := Go.Op.move (Go.Operand.tmp 0), type := 70, pos := "slices.go:232", after := #[], guard := none }) (oL := { dst := some 26, op := Go.Op.call { callee := Go.Callee.builtin Go.Builtin.append, args := #[Go.Operand.tmp 22, Go.Operand.tmp 25], argTypes := #[70, 70] }, type := 70, pos := "slices.go:232", after := #[{ on := 2, ground := Go.Ground.data }, { on := 5, ground := Go.Ground.data }], guard := none }) (v := .slice (some ⟨g, o, none⟩) n cap) rfl rfl (by kernel_rfl) (by kernel_rfl) (by kernel_rfl) (by kernel_rfl) (fun _ _ _ h => h) (Or.inl ⟨by kernel_rfl, ?_⟩) rfl ?_
    · (intro X hX; subst hX <;> (go_simp; try (with_reducible rfl)))
    (try simp only [Act.put, List.setIfInBounds_toArray, List.set_cons_zero, List.set_cons_succ])
    refine wpAnyN_take (i := 1) (oi := { dst := some 21, op := Go.Op.move (Go.Operand.tmp 1), type := 3, pos := "slices.go:232", after := #[], guard := none }) (oL := { dst := some 26, op := Go.Op.call { callee := Go.Callee.builtin Go.Builtin.append, args := #[Go.Operand.tmp 22, Go.Operand.tmp 25], argTypes := #[70, 70] }, type := 70, pos := "slices.go:232", after := #[{ on := 2, ground := Go.Ground.data }, { on := 5, ground := Go.Ground.data }], guard := none }) (v := .int .i64 (i : Int)) rfl rfl (by kernel_rfl) (by kernel_rfl) (by kernel_rfl) (by kernel_rfl) (fun _ _ _ h => h) (Or.inl ⟨by kernel_rfl, ?_⟩) rfl ?_
    · (intro X hX; subst hX <;> (go_simp; try (with_reducible rfl)))
    (try simp only [Act.put, List.setIfInBounds_toArray, List.set_cons_zero, List.set_cons_succ])
    refine wpAnyN_take (i := 2) (oi := { dst := some 22, op := Go.Op.slice 70 (Go.Operand.tmp 20) none (some (Go.Operand.tmp 21)) none, type := 70, pos := "slices.go:232", after := #[{ on := 0, ground := Go.Ground.data }, { on := 1, ground := Go.Ground.data }], guard := none }) (oL := { dst := some 26, op := Go.Op.call { callee := Go.Callee.builtin Go.Builtin.append, args := #[Go.Operand.tmp 22, Go.Operand.tmp 25], argTypes := #[70, 70] }, type := 70, pos := "slices.go:232", after := #[{ on := 2, ground := Go.Ground.data }, { on := 5, ground := Go.Ground.data }], guard := none }) (v := .slice (some ⟨g, o, none⟩) i cap) rfl rfl (by kernel_rfl) (by kernel_rfl) (by kernel_rfl) (by kernel_rfl) (fun _ _ _ h => h) (Or.inl ⟨by kernel_rfl, ?_⟩) rfl ?_
    · (intro X hX; subst hX <;> (go_simp; try (with_reducible rfl)))
    (try simp only [Act.put, List.setIfInBounds_toArray, List.set_cons_zero, List.set_cons_succ])
    refine wpAnyN_take (i := 3) (oi := { dst := some 23, op := Go.Op.move (Go.Operand.tmp 0), type := 70, pos := "slices.go:232", after := #[], guard := none }) (oL := { dst := some 26, op := Go.Op.call { callee := Go.Callee.builtin Go.Builtin.append, args := #[Go.Operand.tmp 22, Go.Operand.tmp 25], argTypes := #[70, 70] }, type := 70, pos := "slices.go:232", after := #[{ on := 2, ground := Go.Ground.data }, { on := 5, ground := Go.Ground.data }], guard := none }) (v := .slice (some ⟨g, o, none⟩) n cap) rfl rfl (by kernel_rfl) (by kernel_rfl) (by kernel_rfl) (by kernel_rfl) (fun _ _ _ h => h) (Or.inl ⟨by kernel_rfl, ?_⟩) rfl ?_
    · (intro X hX; subst hX <;> (go_simp; try (with_reducible rfl)))
    (try simp only [Act.put, List.setIfInBounds_toArray, List.set_cons_zero, List.set_cons_succ])
    refine wpAnyN_take (i := 4) (oi := { dst := some 24, op := Go.Op.move (Go.Operand.tmp 2), type := 3, pos := "slices.go:232", after := #[], guard := none }) (oL := { dst := some 26, op := Go.Op.call { callee := Go.Callee.builtin Go.Builtin.append, args := #[Go.Operand.tmp 22, Go.Operand.tmp 25], argTypes := #[70, 70] }, type := 70, pos := "slices.go:232", after := #[{ on := 2, ground := Go.Ground.data }, { on := 5, ground := Go.Ground.data }], guard := none }) (v := .int .i64 (j : Int)) rfl rfl (by kernel_rfl) (by kernel_rfl) (by kernel_rfl) (by kernel_rfl) (fun _ _ _ h => h) (Or.inl ⟨by kernel_rfl, ?_⟩) rfl ?_
    · (intro X hX; subst hX <;> (go_simp; try (with_reducible rfl)))
    (try simp only [Act.put, List.setIfInBounds_toArray, List.set_cons_zero, List.set_cons_succ])
    refine wpAnyN_take (i := 5) (oi := { dst := some 25, op := Go.Op.slice 70 (Go.Operand.tmp 23) (some (Go.Operand.tmp 24)) none none, type := 70, pos := "slices.go:232", after := #[{ on := 3, ground := Go.Ground.data }, { on := 4, ground := Go.Ground.data }], guard := none }) (oL := { dst := some 26, op := Go.Op.call { callee := Go.Callee.builtin Go.Builtin.append, args := #[Go.Operand.tmp 22, Go.Operand.tmp 25], argTypes := #[70, 70] }, type := 70, pos := "slices.go:232", after := #[{ on := 2, ground := Go.Ground.data }, { on := 5, ground := Go.Ground.data }], guard := none }) (v := .slice (some ⟨g, o + j * 3, none⟩) (n - j) (cap - j)) rfl rfl (by kernel_rfl) (by kernel_rfl) (by kernel_rfl) (by kernel_rfl) (fun _ _ _ h => h) (Or.inl ⟨by kernel_rfl, ?_⟩) rfl ?_
    · (intro X hX; subst hX <;> (go_simp; try (with_reducible rfl)))
    (try simp only [Act.put, List.setIfInBounds_toArray, List.set_cons_zero, List.set_cons_succ])
    refine wpAnyN_one (i := 6) (o := { dst := some 26, op := Go.Op.call { callee := Go.Callee.builtin Go.Builtin.append, args := #[Go.Operand.tmp 22, Go.Operand.tmp 25], argTypes := #[70, 70] }, type := 70, pos := "slices.go:232", after := #[{ on := 2, ground := Go.Ground.data }, { on := 5, ground := Go.Ground.data }], guard := none }) (by kernel_rfl) rfl (fun K hK => ?_)
    refine step_append_run (u := .slice (some ⟨g, o, none⟩) i cap) (v := .slice (some ⟨g, o + j * 3, none⟩) (n - j) (cap - j)) rfl _ _ _ rfl 70 rfl rfl rfl _ _ HRun.out ?_
    refine hK.out _ _ (fun e => absurd (e.symm.trans (by kernel_rfl) : false = true) Bool.false_ne_true) ?_
    clear hK K
    (try simp only [Act.put, List.setIfInBounds_toArray, List.set_cons_zero, List.set_cons_succ])
    refine wpAnyN_of_H (S' := fun _ => True) _ _ _ _ (by kernel_rfl) ?_
    refine wpAnyH_take (i := 7) (oi := { dst := some 0, op := Go.Op.assign (Go.Operand.tmp 26), type := 70, pos := "slices.go:232", after := #[{ on := 6, ground := Go.Ground.data }, { on := 6, ground := Go.Ground.chain }, { on := 0, ground := Go.Ground.phase }, { on := 1, ground := Go.Ground.phase }, { on := 2, ground := Go.Ground.phase }, { on := 3, ground := Go.Ground.phase }, { on := 4, ground := Go.Ground.phase }, { on := 5, ground := Go.Ground.phase }, { on := 6, ground := Go.Ground.phase }], guard := none }) (v := .slice (some ⟨g, o, none⟩) m cap) rfl (by kernel_rfl) (by kernel_rfl) (by kernel_rfl) (fun _ _ _ h => h) (Or.inl ⟨by kernel_rfl, ?_⟩) trivial ?_
    · (intro X hX; go_simp; try (with_reducible rfl))
    (try simp only [Act.put, List.setIfInBounds_toArray, List.set_cons_zero])
    refine wpAnyH_done (by kernel_rfl) ?_ _
    all_goals
      go_wp2_with (simp only [hcl])
      go_ret
      exact HF.out
  · obtain rfl : o = o2 := ho4.symm
    rw [zc hq.symm] at HRun
    have hnj : n = j := by have := zc hq.symm; omega
    subst hnj
    subst hq
    clear zc
    have zm : ¬ n = m := by omega
    go_enter Tryd.func48, Tryd.ntmps48
    go_wp2_with fail
    refine wp_region_N 6 (fun X => X = w.drew) (by kernel_rfl) ?_
    refine wpAnyN_take (i := 0) (oi := { dst := some 20, op := Go.Op.move (Go.Operand.tmp 0), type := 70, pos := "slices.go:232", after := #[], guard := none }) (oL := { dst := some 26, op := Go.Op.call { callee := Go.Callee.builtin Go.Builtin.append, args := #[Go.Operand.tmp 22, Go.Operand.tmp 25], argTypes := #[70, 70] }, type := 70, pos := "slices.go:232", after := #[{ on := 2, ground := Go.Ground.data }, { on := 5, ground := Go.Ground.data }], guard := none }) (v := .slice (some ⟨g, o, none⟩) n n) rfl rfl (by kernel_rfl) (by kernel_rfl) (by kernel_rfl) (by kernel_rfl) (fun _ _ _ h => h) (Or.inl ⟨by kernel_rfl, ?_⟩) rfl ?_
    · (intro X hX; subst hX <;> (go_simp; try (with_reducible rfl)))
    (try simp only [Act.put, List.setIfInBounds_toArray, List.set_cons_zero, List.set_cons_succ])
    refine wpAnyN_take (i := 1) (oi := { dst := some 21, op := Go.Op.move (Go.Operand.tmp 1), type := 3, pos := "slices.go:232", after := #[], guard := none }) (oL := { dst := some 26, op := Go.Op.call { callee := Go.Callee.builtin Go.Builtin.append, args := #[Go.Operand.tmp 22, Go.Operand.tmp 25], argTypes := #[70, 70] }, type := 70, pos := "slices.go:232", after := #[{ on := 2, ground := Go.Ground.data }, { on := 5, ground := Go.Ground.data }], guard := none }) (v := .int .i64 (i : Int)) rfl rfl (by kernel_rfl) (by kernel_rfl) (by kernel_rfl) (by kernel_rfl) (fun _ _ _ h => h) (Or.inl ⟨by kernel_rfl, ?_⟩) rfl ?_
    · (intro X hX; subst hX <;> (go_simp; try (with_reducible rfl)))
    (try simp only [Act.put, List.setIfInBounds_toArray, List.set_cons_zero, List.set_cons_succ])
    refine wpAnyN_take (i := 2) (oi := { dst := some 22, op := Go.Op.slice 70 (Go.Operand.tmp 20) none (some (Go.Operand.tmp 21)) none, type := 70, pos := "slices.go:232", after := #[{ on := 0, ground := Go.Ground.data }, { on := 1, ground := Go.Ground.data }], guard := none }) (oL := { dst := some 26, op := Go.Op.call { callee := Go.Callee.builtin Go.Builtin.append, args := #[Go.Operand.tmp 22, Go.Operand.tmp 25], argTypes := #[70, 70] }, type := 70, pos := "slices.go:232", after := #[{ on := 2, ground := Go.Ground.data }, { on := 5, ground := Go.Ground.data }], guard := none }) (v := .slice (some ⟨g, o, none⟩) i n) rfl rfl (by kernel_rfl) (by kernel_rfl) (by kernel_rfl) (by kernel_rfl) (fun _ _ _ h => h) (Or.inl ⟨by kernel_rfl, ?_⟩) rfl ?_
    · (intro X hX; subst hX <;> (go_simp; try (with_reducible rfl)))
    (try simp only [Act.put, List.setIfInBounds_toArray, List.set_cons_zero, List.set_cons_succ])
    refine wpAnyN_take (i := 3) (oi := { dst := some 23, op := Go.Op.move (Go.Operand.tmp 0), type := 70, pos := "slices.go:232", after := #[], guard := none }) (oL := { dst := some 26, op := Go.Op.call { callee := Go.Callee.builtin Go.Builtin.append, args := #[Go.Operand.tmp 22, Go.Operand.tmp 25], argTypes := #[70, 70] }, type := 70, pos := "slices.go:232", after := #[{ on := 2, ground := Go.Ground.data }, { on := 5, ground := Go.Ground.data }], guard := none }) (v := .slice (some ⟨g, o, none⟩) n n) rfl rfl (by kernel_rfl) (by kernel_rfl) (by kernel_rfl) (by kernel_rfl) (fun _ _ _ h => h) (Or.inl ⟨by kernel_rfl, ?_⟩) rfl ?_
    · (intro X hX; subst hX <;> (go_simp; try (with_reducible rfl)))
    (try simp only [Act.put, List.setIfInBounds_toArray, List.set_cons_zero, List.set_cons_succ])
    refine wpAnyN_take (i := 4) (oi := { dst := some 24, op := Go.Op.move (Go.Operand.tmp 2), type := 3, pos := "slices.go:232", after := #[], guard := none }) (oL := { dst := some 26, op := Go.Op.call { callee := Go.Callee.builtin Go.Builtin.append, args := #[Go.Operand.tmp 22, Go.Operand.tmp 25], argTypes := #[70, 70] }, type := 70, pos := "slices.go:232", after := #[{ on := 2, ground := Go.Ground.data }, { on := 5, ground := Go.Ground.data }], guard := none }) (v := .int .i64 (n : Int)) rfl rfl (by kernel_rfl) (by kernel_rfl) (by kernel_rfl) (by kernel_rfl) (fun _ _ _ h => h) (Or.inl ⟨by kernel_rfl, ?_⟩) rfl ?_
    · (intro X hX; subst hX <;> (go_simp; try (with_reducible rfl)))
    (try simp only [Act.put, List.setIfInBounds_toArray, List.set_cons_zero, List.set_cons_succ])
    refine wpAnyN_take (i := 5) (oi := { dst := some 25, op := Go.Op.slice 70 (Go.Operand.tmp 23) (some (Go.Operand.tmp 24)) none none, type := 70, pos := "slices.go:232", after := #[{ on := 3, ground := Go.Ground.data }, { on := 4, ground := Go.Ground.data }], guard := none }) (oL := { dst := some 26, op := Go.Op.call { callee := Go.Callee.builtin Go.Builtin.append, args := #[Go.Operand.tmp 22, Go.Operand.tmp 25], argTypes := #[70, 70] }, type := 70, pos := "slices.go:232", after := #[{ on := 2, ground := Go.Ground.data }, { on := 5, ground := Go.Ground.data }], guard := none }) (v := .slice (some ⟨g, o, none⟩) (0) (0)) rfl rfl (by kernel_rfl) (by kernel_rfl) (by kernel_rfl) (by kernel_rfl) (fun _ _ _ h => h) (Or.inl ⟨by kernel_rfl, ?_⟩) rfl ?_
    · (intro X hX; subst hX <;> (go_simp; try (with_reducible rfl)))
    (try simp only [Act.put, List.setIfInBounds_toArray, List.set_cons_zero, List.set_cons_succ])
    refine wpAnyN_one (i := 6) (o := { dst := some 26, op := Go.Op.call { callee := Go.Callee.builtin Go.Builtin.append, args := #[Go.Operand.tmp 22, Go.Operand.tmp 25], argTypes := #[70, 70] }, type := 70, pos := "slices.go:232", after := #[{ on := 2, ground := Go.Ground.data }, { on := 5, ground := Go.Ground.data }], guard := none }) (by kernel_rfl) rfl (fun K hK => ?_)
    refine step_append_run (u := .slice (some ⟨g, o, none⟩) i n) (v := .slice (some ⟨g, o, none⟩) (0) (0)) rfl _ _ _ rfl 70 rfl rfl rfl _ _ HRun.out ?_
    refine hK.out _ _ (fun e => absurd (e.symm.trans (by kernel_rfl) : false = true) Bool.false_ne_true) ?_
    clear hK K
    (try simp only [Act.put, List.setIfInBounds_toArray, List.set_cons_zero, List.set_cons_succ])
    refine wpAnyN_of_H (S' := fun _ => True) _ _ _ _ (by kernel_rfl) ?_
    refine wpAnyH_take (i := 7) (oi := { dst := some 0, op := Go.Op.assign (Go.Operand.tmp 26), type := 70, pos := "slices.go:232", after := #[{ on := 6, ground := Go.Ground.data }, { on := 6, ground := Go.Ground.chain }, { on := 0, ground := Go.Ground.phase }, { on := 1, ground := Go.Ground.phase }, { on := 2, ground := Go.Ground.phase }, { on := 3, ground := Go.Ground.phase }, { on := 4, ground := Go.Ground.phase }, { on := 5, ground := Go.Ground.phase }, { on := 6, ground := Go.Ground.phase }], guard := none }) (v := .slice (some ⟨g, o, none⟩) m n) rfl (by kernel_rfl) (by kernel_rfl) (by kernel_rfl) (fun _ _ _ h => h) (Or.inl ⟨by kernel_rfl, ?_⟩) trivial ?_
    · (intro X hX; go_simp; try (with_reducible rfl))
    (try simp only [Act.put, List.setIfInBounds_toArray, List.set_cons_zero])
    refine wpAnyH_done (by kernel_rfl) ?_ _
    all_goals
      go_wp2_with (simp only [hcl])
      go_ret
      exact HF.out
end Go.Proofs.YtlmlbcnjohjnlaaDoor

/- mirror: what an EXPUNGE changes. -/
namespace Go.Proofs.YtlmlbcnjohjnlaaDoor
open Go.RowKit

def keepH (M : PM) : Bool := match M.q with
  | [] => false
  | c :: _ => keepA c
/-- What an EXPUNGE changes. -/
def expF (M : PM) (x : Int) : Option (PM → PM) :=
  if telM M = false ∨ keepH M = true ∨ hasM M x = false then none
  else some (fun N => { N with rows := N.rows.eraseIdx (x - 1).toNat })
def EpS (P : Nat) (m : Obj) (ba : Nat) (a : AN) (bp : Nat) (X : World) : Prop := X.heap[ba]? = some (anO a) ∧ X.heap[bp]? = some (ppO P) ∧ X.heap[P]? = some m
theorem EpS.cells {P ba bp : Nat} {a : AN} {q rows was : Value} {sel bg : Bool} {v n h : Int} {X : World} (k : EpS P (mirO q sel v n h rows was bg) ba a bp X) : X.cell? ⟨ba, 6, none⟩ = some (.int .i64 a.num) ∧ X.cell? ⟨bp, 0, none⟩ = some (.pointer (some ⟨P, 1, none⟩)) ∧ X.cell? ⟨P, 5, none⟩ = some rows := by
  refine ⟨(an_cells k.1).2.2.2.2.2, ?_, (mir_cells k.2.2).c5⟩
  have := k.2.1
  unfold ppO at this
  exact cell_of this 0
theorem isFn_expunge1 : IsFn 47 := fun _ _ => by kernel_rfl
theorem All2.erase {α β : Type} {R : α → β → Prop} : ∀ {l : List α} {m : List β}, All2 R l m → ∀ i, All2 R (l.eraseIdx i) (m.eraseIdx i)
  | [], [], _, _ => trivial
  | _ :: _, _ :: _, h, 0 => h.2
  | _ :: _, _ :: _, h, i + 1 => ⟨h.1, All2.erase h.2 i⟩
theorem rwL_erase (rs : List RW) (i j : Nat) (hj : j = i + 1) : (rwL rs).take (i * 3) ++ (rwL rs).drop (j * 3) = rwL (rs.eraseIdx i) := by
  subst hj
  induction rs generalizing i with
  | nil => simp [rwL]
  | cons r rs ih =>
    have hr : rwL (r :: rs) = rwC r ++ rwL rs := by simp [rwL]
    have hl : (rwC r).length = 3 := rfl
    cases i with
    | zero =>
      rw [hr]
      simp only [Nat.zero_mul, List.take_zero, List.nil_append, List.eraseIdx_cons_zero, Nat.zero_add, Nat.one_mul]
      rw [List.drop_append, hl]
      simp [rwC]
    | succ i =>
      rw [hr, List.eraseIdx_cons_succ, show rwL (r :: rs.eraseIdx i) = rwC r ++ rwL (rs.eraseIdx i) from by simp [rwL], ← ih i, List.take_append, List.drop_append, hl, List.take_of_length_le (by rw [hl]; omega), List.drop_eq_nil_of_le (by rw [hl]; omega),
        show (i + 1) * 3 - 3 = i * 3 from by omega, show (i + 1 + 1) * 3 - 3 = (i + 1) * 3 from by omega, List.nil_append, List.append_assoc]
theorem rwL_one {fr : List Nat} {X : World} : ∀ {rs : List RW} {L : List PR}, All2 (RWin fr X) rs L → ∀ u ∈ rwL rs, u.oneCell' = true
  | [], [], _, u, hu => by simp [rwL] at hu
  | r :: rs, p :: L, h, u, hu => by
    have hr : rwL (r :: rs) = rwC r ++ rwL rs := by simp [rwL]
    rw [hr, List.mem_append] at hu
    rcases hu with hu | hu
    · obtain ⟨a, c, e⟩ := h.1.fl.shape
      simp only [rwC, e, List.mem_cons, List.not_mem_nil, or_false] at hu
      rcases hu with rfl | rfl | rfl <;> rfl
    · exact rwL_one h.2 u hu
set_option maxRecDepth 10000 in
set_option maxHeartbeats 2000000 in
theorem expunge1_any (P : Nat) (q : Value) (sel : Bool) (v n h : Int) (ra : Option Addr) (rn rc : Nat) (was : Value) (bg : Bool) (xs : List Value) (a : AN) (y : Int) (i : Nat) (hy : a.num = y) (hyi : y - 1 = (i : Int)) (hi : i < rn) (hn : rn ≤ 1000000) (h1 : ∀ u ∈ xs, u.oneCell' = true) (ba bp : Nat) (w : World) (hA : w.heap[ba]? = some (anO a)) (hB : w.heap[bp]? = some (ppO P)) (hM : w.heap[P]? = some (mirO q sel v n h (.slice ra rn rc) was bg)) (hR : RowAt w 98 3 (.slice ra rn rc) rn xs) :
    Calls Tryd.prog 47 #[.pointer (some ⟨bp, 0, none⟩), .pointer (some ⟨ba, 0, none⟩)] w (ExOut P q sel v n h (.slice ra rn rc) was bg (rn - 1) (xs.take (i * 3) ++ xs.drop ((i + 1) * 3)) w) := by
  have hpr : (Value.slice ra rn rc).ownBlock ≠ some P := fun e => by
    obtain ⟨cs, hc⟩ := hR.kind e
    exact kind_ne hc hM (by decide) rfl
  have keep : ∀ Wm, w.grownBy Wm (Value.slice ra rn rc).ownBlock → ∀ (b : Nat) (cs : Array Value) (t : TypeId) (f : Nat × Nat), w.heap[b]? = some (.cells cs t f) → t ≠ 98 → Wm.heap[b]? = some (.cells cs t f) := fun Wm hgr b cs t f e ht => by
    rw [hgr.block b (lt_of_heap e) (fun e' => by
      obtain ⟨cs', hc⟩ := hR.kind e'.symm
      exact kind_ne e hc ht rfl)]
    exact e
  have hS0 : EpS P (mirO q sel v n h (.slice ra rn rc) was bg) ba a bp w := ⟨hA, hB, hM⟩
  have HS0 : Hid (EpS P (mirO q sel v n h (.slice ra rn rc) was bg) ba a bp w.drew) := Lib.hid hS0
  have HYe := Lib.hid hy
  have HD : Hid (Calls Tryd.prog 48 #[.slice ra rn rc, .int .i64 (i : Int), .int .i64 y] w.drew (DelOut (.slice ra rn rc) (rn - 1) (xs.take (i * 3) ++ xs.drop ((i + 1) * 3)) w.drew)) := Lib.hid (by
    have := delete_row (.slice ra rn rc) rn i (i + 1) xs w.drew (hR : RowAt w.drew _ _ _ _ _) hi hn rfl h1
    rw [show ((i + 1 : Nat) : Int) = y from by omega] at this
    exact this)
  have FIN : Hid (∀ (Wm : World) (rv : Value), RowAt Wm 98 3 rv (rn - 1) (xs.take (i * 3) ++ xs.drop ((i + 1) * 3)) → w.drew.grownBy Wm (Value.slice ra rn rc).ownBlock → rv.ownBlock = (Value.slice ra rn rc).ownBlock → EpS P (mirO q sel v n h (.slice ra rn rc) was bg) ba a bp Wm ∧ ExOut P q sel v n h (.slice ra rn rc) was bg (rn - 1) (xs.take (i * 3) ++ xs.drop ((i + 1) * 3)) w (.returned (.tuple #[])) (Wm.setCell ⟨P, 5, none⟩ rv)) := Lib.hid (fun Wm rv hrow hgr0 ho => by
    have hgr : w.grownBy Wm (Value.slice ra rn rc).ownBlock := ⟨hgr0.os, hgr0.tape, hgr0.output, hgr0.size, hgr0.block⟩
    have kM := keep Wm hgr P _ _ _ hM (by decide)
    refine ⟨⟨keep Wm hgr ba _ _ _ hA (by decide), keep Wm hgr bp _ _ _ hB (by decide), kM⟩, rfl, rv, Stays.setCell ?_ (.inl (by simp)) _, mir_set5 kM _, hrow.same (fun b e => Below.heap_setCell _ _ _ _ (fun e' => ?_)), fun b e => .inl (ho ▸ e)⟩
    · exact Stays.ofGrown (fp := P :: (Value.slice ra rn rc).ownBlock.toList) hgr (fun b e => by simp [e])
    · have e2 : b = P := e'
      subst e2
      exact hpr (ho ▸ e))
  have hwr : IntKind.i64.wrap (y - 1) = (i : Int) := by rw [hyi, IntKind.wrap_i64]; omega
  clear hA hB hM hR keep hpr hy hyi hi hn h1 hS0
  go_enter Tryd.func47, Tryd.ntmps47
  go_wp2_with fail
  refine wp_region_N 13 (fun X => EpS P (mirO q sel v n h (.slice ra rn rc) was bg) ba a bp X) (by kernel_rfl) ?_
  refine wpAnyN_take (i := 0) (oi := { dst := some 2, op := Go.Op.load 96 (Go.Operand.tmp 0), type := 96, pos := "hear.go:137", after := #[], guard := none }) (oL := { dst := none, op := Go.Op.store 70 (Go.Operand.tmp 14) (Go.Operand.tmp 12), type := 0, pos := "hear.go:137", after := #[{ on := 12, ground := Go.Ground.data }, { on := 10, ground := Go.Ground.data }, { on := 10, ground := Go.Ground.chain }, { on := 0, ground := Go.Ground.phase }, { on := 1, ground := Go.Ground.phase }, { on := 2, ground := Go.Ground.phase }, { on := 3, ground := Go.Ground.phase }, { on := 4, ground := Go.Ground.phase }, { on := 5, ground := Go.Ground.phase }, { on := 6, ground := Go.Ground.phase }, { on := 7, ground := Go.Ground.phase }, { on := 8, ground := Go.Ground.phase }, { on := 9, ground := Go.Ground.phase }, { on := 10, ground := Go.Ground.phase }], guard := none }) (v := .pointer (some ⟨P, 1, none⟩)) rfl rfl (by kernel_rfl) (by kernel_rfl) (by kernel_rfl) (by kernel_rfl) (fun _ _ _ h => h) (Or.inl ⟨by kernel_rfl, ?_⟩) HS0.out ?_
  · (intro X hX; obtain ⟨x0, x1, x2⟩ := EpS.cells hX; rw [HYe.out] at x0 <;> (go_simp; try (with_reducible rfl)))
  (try simp only [Act.put, List.setIfInBounds_toArray, List.set_cons_zero, List.set_cons_succ])
  refine wpAnyN_take (i := 1) (oi := { dst := some 3, op := Go.Op.load 96 (Go.Operand.tmp 0), type := 96, pos := "hear.go:137", after := #[], guard := none }) (oL := { dst := none, op := Go.Op.store 70 (Go.Operand.tmp 14) (Go.Operand.tmp 12), type := 0, pos := "hear.go:137", after := #[{ on := 12, ground := Go.Ground.data }, { on := 10, ground := Go.Ground.data }, { on := 10, ground := Go.Ground.chain }, { on := 0, ground := Go.Ground.phase }, { on := 1, ground := Go.Ground.phase }, { on := 2, ground := Go.Ground.phase }, { on := 3, ground := Go.Ground.phase }, { on := 4, ground := Go.Ground.phase }, { on := 5, ground := Go.Ground.phase }, { on := 6, ground := Go.Ground.phase }, { on := 7, ground := Go.Ground.phase }, { on := 8, ground := Go.Ground.phase }, { on := 9, ground := Go.Ground.phase }, { on := 10, ground := Go.Ground.phase }], guard := none }) (v := .pointer (some ⟨P, 1, none⟩)) rfl rfl (by kernel_rfl) (by kernel_rfl) (by kernel_rfl) (by kernel_rfl) (fun _ _ _ h => h) (Or.inl ⟨by kernel_rfl, ?_⟩) HS0.out ?_
  · (intro X hX; obtain ⟨x0, x1, x2⟩ := EpS.cells hX; rw [HYe.out] at x0 <;> (go_simp; try (with_reducible rfl)))
  (try simp only [Act.put, List.setIfInBounds_toArray, List.set_cons_zero, List.set_cons_succ])
  refine wpAnyN_take (i := 2) (oi := { dst := some 4, op := Go.Op.nilCheck (Go.Operand.tmp 3), type := 0, pos := "hear.go:137", after := #[{ on := 1, ground := Go.Ground.data }], guard := none }) (oL := { dst := none, op := Go.Op.store 70 (Go.Operand.tmp 14) (Go.Operand.tmp 12), type := 0, pos := "hear.go:137", after := #[{ on := 12, ground := Go.Ground.data }, { on := 10, ground := Go.Ground.data }, { on := 10, ground := Go.Ground.chain }, { on := 0, ground := Go.Ground.phase }, { on := 1, ground := Go.Ground.phase }, { on := 2, ground := Go.Ground.phase }, { on := 3, ground := Go.Ground.phase }, { on := 4, ground := Go.Ground.phase }, { on := 5, ground := Go.Ground.phase }, { on := 6, ground := Go.Ground.phase }, { on := 7, ground := Go.Ground.phase }, { on := 8, ground := Go.Ground.phase }, { on := 9, ground := Go.Ground.phase }, { on := 10, ground := Go.Ground.phase }], guard := none }) (v := .pointer (some ⟨P, 1, none⟩)) rfl rfl (by kernel_rfl) (by kernel_rfl) (by kernel_rfl) (by kernel_rfl) (fun _ _ _ h => h) (Or.inl ⟨by kernel_rfl, ?_⟩) HS0.out ?_
  · (intro X hX; obtain ⟨x0, x1, x2⟩ := EpS.cells hX; rw [HYe.out] at x0 <;> (go_simp; try (with_reducible rfl)))
  (try simp only [Act.put, List.setIfInBounds_toArray, List.set_cons_zero, List.set_cons_succ])
  refine wpAnyN_take (i := 3) (oi := { dst := some 5, op := Go.Op.fieldAddr 73 (Go.Operand.tmp 4) 4, type := 0, pos := "hear.go:137", after := #[{ on := 2, ground := Go.Ground.data }], guard := none }) (oL := { dst := none, op := Go.Op.store 70 (Go.Operand.tmp 14) (Go.Operand.tmp 12), type := 0, pos := "hear.go:137", after := #[{ on := 12, ground := Go.Ground.data }, { on := 10, ground := Go.Ground.data }, { on := 10, ground := Go.Ground.chain }, { on := 0, ground := Go.Ground.phase }, { on := 1, ground := Go.Ground.phase }, { on := 2, ground := Go.Ground.phase }, { on := 3, ground := Go.Ground.phase }, { on := 4, ground := Go.Ground.phase }, { on := 5, ground := Go.Ground.phase }, { on := 6, ground := Go.Ground.phase }, { on := 7, ground := Go.Ground.phase }, { on := 8, ground := Go.Ground.phase }, { on := 9, ground := Go.Ground.phase }, { on := 10, ground := Go.Ground.phase }], guard := none }) (v := .pointer (some ⟨P, 5, none⟩)) rfl rfl (by kernel_rfl) (by kernel_rfl) (by kernel_rfl) (by kernel_rfl) (fun _ _ _ h => h) (Or.inl ⟨by kernel_rfl, ?_⟩) HS0.out ?_
  · (intro X hX; obtain ⟨x0, x1, x2⟩ := EpS.cells hX; rw [HYe.out] at x0 <;> (go_simp; try (with_reducible rfl)))
  (try simp only [Act.put, List.setIfInBounds_toArray, List.set_cons_zero, List.set_cons_succ])
  refine wpAnyN_take (i := 4) (oi := { dst := some 6, op := Go.Op.load 70 (Go.Operand.tmp 5), type := 70, pos := "hear.go:137", after := #[{ on := 3, ground := Go.Ground.data }], guard := none }) (oL := { dst := none, op := Go.Op.store 70 (Go.Operand.tmp 14) (Go.Operand.tmp 12), type := 0, pos := "hear.go:137", after := #[{ on := 12, ground := Go.Ground.data }, { on := 10, ground := Go.Ground.data }, { on := 10, ground := Go.Ground.chain }, { on := 0, ground := Go.Ground.phase }, { on := 1, ground := Go.Ground.phase }, { on := 2, ground := Go.Ground.phase }, { on := 3, ground := Go.Ground.phase }, { on := 4, ground := Go.Ground.phase }, { on := 5, ground := Go.Ground.phase }, { on := 6, ground := Go.Ground.phase }, { on := 7, ground := Go.Ground.phase }, { on := 8, ground := Go.Ground.phase }, { on := 9, ground := Go.Ground.phase }, { on := 10, ground := Go.Ground.phase }], guard := none }) (v := .slice ra rn rc) rfl rfl (by kernel_rfl) (by kernel_rfl) (by kernel_rfl) (by kernel_rfl) (fun _ _ _ h => h) (Or.inl ⟨by kernel_rfl, ?_⟩) HS0.out ?_
  · (intro X hX; obtain ⟨x0, x1, x2⟩ := EpS.cells hX; rw [HYe.out] at x0 <;> (go_simp; try (with_reducible rfl)))
  (try simp only [Act.put, List.setIfInBounds_toArray, List.set_cons_zero, List.set_cons_succ])
  refine wpAnyN_take (i := 5) (oi := { dst := some 7, op := Go.Op.fieldAddr 43 (Go.Operand.tmp 1) 6, type := 0, pos := "hear.go:137", after := #[], guard := none }) (oL := { dst := none, op := Go.Op.store 70 (Go.Operand.tmp 14) (Go.Operand.tmp 12), type := 0, pos := "hear.go:137", after := #[{ on := 12, ground := Go.Ground.data }, { on := 10, ground := Go.Ground.data }, { on := 10, ground := Go.Ground.chain }, { on := 0, ground := Go.Ground.phase }, { on := 1, ground := Go.Ground.phase }, { on := 2, ground := Go.Ground.phase }, { on := 3, ground := Go.Ground.phase }, { on := 4, ground := Go.Ground.phase }, { on := 5, ground := Go.Ground.phase }, { on := 6, ground := Go.Ground.phase }, { on := 7, ground := Go.Ground.phase }, { on := 8, ground := Go.Ground.phase }, { on := 9, ground := Go.Ground.phase }, { on := 10, ground := Go.Ground.phase }], guard := none }) (v := .pointer (some ⟨ba, 6, none⟩)) rfl rfl (by kernel_rfl) (by kernel_rfl) (by kernel_rfl) (by kernel_rfl) (fun _ _ _ h => h) (Or.inl ⟨by kernel_rfl, ?_⟩) HS0.out ?_
  · (intro X hX; obtain ⟨x0, x1, x2⟩ := EpS.cells hX; rw [HYe.out] at x0 <;> (go_simp; try (with_reducible rfl)))
  (try simp only [Act.put, List.setIfInBounds_toArray, List.set_cons_zero, List.set_cons_succ])
  refine wpAnyN_take (i := 6) (oi := { dst := some 8, op := Go.Op.load 3 (Go.Operand.tmp 7), type := 3, pos := "hear.go:137", after := #[{ on := 5, ground := Go.Ground.data }], guard := none }) (oL := { dst := none, op := Go.Op.store 70 (Go.Operand.tmp 14) (Go.Operand.tmp 12), type := 0, pos := "hear.go:137", after := #[{ on := 12, ground := Go.Ground.data }, { on := 10, ground := Go.Ground.data }, { on := 10, ground := Go.Ground.chain }, { on := 0, ground := Go.Ground.phase }, { on := 1, ground := Go.Ground.phase }, { on := 2, ground := Go.Ground.phase }, { on := 3, ground := Go.Ground.phase }, { on := 4, ground := Go.Ground.phase }, { on := 5, ground := Go.Ground.phase }, { on := 6, ground := Go.Ground.phase }, { on := 7, ground := Go.Ground.phase }, { on := 8, ground := Go.Ground.phase }, { on := 9, ground := Go.Ground.phase }, { on := 10, ground := Go.Ground.phase }], guard := none }) (v := .int .i64 y) rfl rfl (by kernel_rfl) (by kernel_rfl) (by kernel_rfl) (by kernel_rfl) (fun _ _ _ h => h) (Or.inl ⟨by kernel_rfl, ?_⟩) HS0.out ?_
  · (intro X hX; obtain ⟨x0, x1, x2⟩ := EpS.cells hX; rw [HYe.out] at x0 <;> (go_simp; try (with_reducible rfl)))
  (try simp only [Act.put, List.setIfInBounds_toArray, List.set_cons_zero, List.set_cons_succ])
  refine wpAnyN_take (i := 7) (oi := { dst := some 9, op := Go.Op.binOp Go.BinOp.sub 3 (Go.Operand.tmp 8) (Go.Operand.const (Go.Value.int Go.IntKind.i64 1)) 3, type := 3, pos := "hear.go:137", after := #[{ on := 6, ground := Go.Ground.data }], guard := none }) (oL := { dst := none, op := Go.Op.store 70 (Go.Operand.tmp 14) (Go.Operand.tmp 12), type := 0, pos := "hear.go:137", after := #[{ on := 12, ground := Go.Ground.data }, { on := 10, ground := Go.Ground.data }, { on := 10, ground := Go.Ground.chain }, { on := 0, ground := Go.Ground.phase }, { on := 1, ground := Go.Ground.phase }, { on := 2, ground := Go.Ground.phase }, { on := 3, ground := Go.Ground.phase }, { on := 4, ground := Go.Ground.phase }, { on := 5, ground := Go.Ground.phase }, { on := 6, ground := Go.Ground.phase }, { on := 7, ground := Go.Ground.phase }, { on := 8, ground := Go.Ground.phase }, { on := 9, ground := Go.Ground.phase }, { on := 10, ground := Go.Ground.phase }], guard := none }) (v := .int .i64 (i : Int)) rfl rfl (by kernel_rfl) (by kernel_rfl) (by kernel_rfl) (by kernel_rfl) (fun _ _ _ h => h) (Or.inl ⟨by kernel_rfl, ?_⟩) HS0.out ?_
  · (intro X hX; obtain ⟨x0, x1, x2⟩ := EpS.cells hX; rw [HYe.out] at x0 <;> (go_simp; try (with_reducible rfl)))
  (try simp only [Act.put, List.setIfInBounds_toArray, List.set_cons_zero, List.set_cons_succ])
  refine wpAnyN_take (i := 8) (oi := { dst := some 10, op := Go.Op.fieldAddr 43 (Go.Operand.tmp 1) 6, type := 0, pos := "hear.go:137", after := #[], guard := none }) (oL := { dst := none, op := Go.Op.store 70 (Go.Operand.tmp 14) (Go.Operand.tmp 12), type := 0, pos := "hear.go:137", after := #[{ on := 12, ground := Go.Ground.data }, { on := 10, ground := Go.Ground.data }, { on := 10, ground := Go.Ground.chain }, { on := 0, ground := Go.Ground.phase }, { on := 1, ground := Go.Ground.phase }, { on := 2, ground := Go.Ground.phase }, { on := 3, ground := Go.Ground.phase }, { on := 4, ground := Go.Ground.phase }, { on := 5, ground := Go.Ground.phase }, { on := 6, ground := Go.Ground.phase }, { on := 7, ground := Go.Ground.phase }, { on := 8, ground := Go.Ground.phase }, { on := 9, ground := Go.Ground.phase }, { on := 10, ground := Go.Ground.phase }], guard := none }) (v := .pointer (some ⟨ba, 6, none⟩)) rfl rfl (by kernel_rfl) (by kernel_rfl) (by kernel_rfl) (by kernel_rfl) (fun _ _ _ h => h) (Or.inl ⟨by kernel_rfl, ?_⟩) HS0.out ?_
  · (intro X hX; obtain ⟨x0, x1, x2⟩ := EpS.cells hX; rw [HYe.out] at x0 <;> (go_simp; try (with_reducible rfl)))
  (try simp only [Act.put, List.setIfInBounds_toArray, List.set_cons_zero, List.set_cons_succ])
  refine wpAnyN_take (i := 9) (oi := { dst := some 11, op := Go.Op.load 3 (Go.Operand.tmp 10), type := 3, pos := "hear.go:137", after := #[{ on := 8, ground := Go.Ground.data }], guard := none }) (oL := { dst := none, op := Go.Op.store 70 (Go.Operand.tmp 14) (Go.Operand.tmp 12), type := 0, pos := "hear.go:137", after := #[{ on := 12, ground := Go.Ground.data }, { on := 10, ground := Go.Ground.data }, { on := 10, ground := Go.Ground.chain }, { on := 0, ground := Go.Ground.phase }, { on := 1, ground := Go.Ground.phase }, { on := 2, ground := Go.Ground.phase }, { on := 3, ground := Go.Ground.phase }, { on := 4, ground := Go.Ground.phase }, { on := 5, ground := Go.Ground.phase }, { on := 6, ground := Go.Ground.phase }, { on := 7, ground := Go.Ground.phase }, { on := 8, ground := Go.Ground.phase }, { on := 9, ground := Go.Ground.phase }, { on := 10, ground := Go.Ground.phase }], guard := none }) (v := .int .i64 y) rfl rfl (by kernel_rfl) (by kernel_rfl) (by kernel_rfl) (by kernel_rfl) (fun _ _ _ h => h) (Or.inl ⟨by kernel_rfl, ?_⟩) HS0.out ?_
  · (intro X hX; obtain ⟨x0, x1, x2⟩ := EpS.cells hX; rw [HYe.out] at x0 <;> (go_simp; try (with_reducible rfl)))
  (try simp only [Act.put, List.setIfInBounds_toArray, List.set_cons_zero, List.set_cons_succ])
  refine wpAnyN_one (i := 10) (o := { dst := some 12, op := Go.Op.call { callee := Go.Callee.value (Go.Operand.func 48), args := #[Go.Operand.tmp 6, Go.Operand.tmp 9, Go.Operand.tmp 11], argTypes := #[70, 3, 3] }, type := 70, pos := "hear.go:137", after := #[{ on := 4, ground := Go.Ground.data }, { on := 7, ground := Go.Ground.data }, { on := 9, ground := Go.Ground.data }], guard := none }) (by kernel_rfl) rfl (fun K hK => ?_)
  go_simp
  refine HD.out.mono ?_
  rintro e w4 ⟨v', rfl, hr, hg, ho⟩
  obtain ⟨a', c', rfl⟩ := hr.shape
  have HFn := Lib.hid (FIN.out w4 _ hr hg ho)
  clear hr hg ho
  have m5 := (EpS.cells HFn.out.1).2.2
  have f5 := mir_fz HFn.out.1.2.2 5
  refine hK.out _ _ (fun _ => HFn.out.1) ?_
  clear hK K
  (try simp only [Act.put, List.setIfInBounds_toArray, List.set_cons_zero, List.set_cons_succ])
  refine wpAnyN_take (i := 11) (oi := { dst := some 13, op := Go.Op.nilCheck (Go.Operand.tmp 2), type := 0, pos := "hear.go:137", after := #[{ on := 0, ground := Go.Ground.data }, { on := 0, ground := Go.Ground.phase }, { on := 1, ground := Go.Ground.phase }, { on := 2, ground := Go.Ground.phase }, { on := 3, ground := Go.Ground.phase }, { on := 4, ground := Go.Ground.phase }, { on := 5, ground := Go.Ground.phase }, { on := 6, ground := Go.Ground.phase }, { on := 7, ground := Go.Ground.phase }, { on := 8, ground := Go.Ground.phase }, { on := 9, ground := Go.Ground.phase }, { on := 10, ground := Go.Ground.phase }], guard := none }) (oL := { dst := none, op := Go.Op.store 70 (Go.Operand.tmp 14) (Go.Operand.tmp 12), type := 0, pos := "hear.go:137", after := #[{ on := 12, ground := Go.Ground.data }, { on := 10, ground := Go.Ground.data }, { on := 10, ground := Go.Ground.chain }, { on := 0, ground := Go.Ground.phase }, { on := 1, ground := Go.Ground.phase }, { on := 2, ground := Go.Ground.phase }, { on := 3, ground := Go.Ground.phase }, { on := 4, ground := Go.Ground.phase }, { on := 5, ground := Go.Ground.phase }, { on := 6, ground := Go.Ground.phase }, { on := 7, ground := Go.Ground.phase }, { on := 8, ground := Go.Ground.phase }, { on := 9, ground := Go.Ground.phase }, { on := 10, ground := Go.Ground.phase }], guard := none }) (v := .pointer (some ⟨P, 1, none⟩)) rfl rfl (by kernel_rfl) (by kernel_rfl) (by kernel_rfl) (by kernel_rfl) (fun _ _ _ h => h) (Or.inl ⟨by kernel_rfl, ?_⟩) HFn.out.1 ?_
  · (intro X hX; obtain ⟨x0, x1, x2⟩ := EpS.cells hX; rw [HYe.out] at x0 <;> (go_simp; try (with_reducible rfl)))
  (try simp only [Act.put, List.setIfInBounds_toArray, List.set_cons_zero, List.set_cons_succ])
  refine wpAnyN_take (i := 12) (oi := { dst := some 14, op := Go.Op.fieldAddr 73 (Go.Operand.tmp 13) 4, type := 0, pos := "hear.go:137", after := #[{ on := 11, ground := Go.Ground.data }, { on := 0, ground := Go.Ground.phase }, { on := 1, ground := Go.Ground.phase }, { on := 2, ground := Go.Ground.phase }, { on := 3, ground := Go.Ground.phase }, { on := 4, ground := Go.Ground.phase }, { on := 5, ground := Go.Ground.phase }, { on := 6, ground := Go.Ground.phase }, { on := 7, ground := Go.Ground.phase }, { on := 8, ground := Go.Ground.phase }, { on := 9, ground := Go.Ground.phase }, { on := 10, ground := Go.Ground.phase }], guard := none }) (oL := { dst := none, op := Go.Op.store 70 (Go.Operand.tmp 14) (Go.Operand.tmp 12), type := 0, pos := "hear.go:137", after := #[{ on := 12, ground := Go.Ground.data }, { on := 10, ground := Go.Ground.data }, { on := 10, ground := Go.Ground.chain }, { on := 0, ground := Go.Ground.phase }, { on := 1, ground := Go.Ground.phase }, { on := 2, ground := Go.Ground.phase }, { on := 3, ground := Go.Ground.phase }, { on := 4, ground := Go.Ground.phase }, { on := 5, ground := Go.Ground.phase }, { on := 6, ground := Go.Ground.phase }, { on := 7, ground := Go.Ground.phase }, { on := 8, ground := Go.Ground.phase }, { on := 9, ground := Go.Ground.phase }, { on := 10, ground := Go.Ground.phase }], guard := none }) (v := .pointer (some ⟨P, 5, none⟩)) rfl rfl (by kernel_rfl) (by kernel_rfl) (by kernel_rfl) (by kernel_rfl) (fun _ _ _ h => h) (Or.inl ⟨by kernel_rfl, ?_⟩) HFn.out.1 ?_
  · (intro X hX; obtain ⟨x0, x1, x2⟩ := EpS.cells hX; rw [HYe.out] at x0 <;> (go_simp; try (with_reducible rfl)))
  (try simp only [Act.put, List.setIfInBounds_toArray, List.set_cons_zero, List.set_cons_succ])
  refine wpAnyN_one (i := 13) (o := { dst := none, op := Go.Op.store 70 (Go.Operand.tmp 14) (Go.Operand.tmp 12), type := 0, pos := "hear.go:137", after := #[{ on := 12, ground := Go.Ground.data }, { on := 10, ground := Go.Ground.data }, { on := 10, ground := Go.Ground.chain }, { on := 0, ground := Go.Ground.phase }, { on := 1, ground := Go.Ground.phase }, { on := 2, ground := Go.Ground.phase }, { on := 3, ground := Go.Ground.phase }, { on := 4, ground := Go.Ground.phase }, { on := 5, ground := Go.Ground.phase }, { on := 6, ground := Go.Ground.phase }, { on := 7, ground := Go.Ground.phase }, { on := 8, ground := Go.Ground.phase }, { on := 9, ground := Go.Ground.phase }, { on := 10, ground := Go.Ground.phase }], guard := none }) (by kernel_rfl) rfl (fun K hK => ?_)
  go_simp
  refine hK.out _ _ (fun e => absurd (e.symm.trans (by kernel_rfl) : false = true) Bool.false_ne_true) ?_
  clear hK K
  (try simp only [Act.put, List.setIfInBounds_toArray, List.set_cons_zero, List.set_cons_succ])
  refine wpAnyN_of_H (S' := fun _ => True) _ _ _ _ (by kernel_rfl) ?_
  refine wpAnyH_done (by kernel_rfl) ?_ _
  go_wp2_with fail
  first | refine bodyPost_end (results_none rfl _ _ _) rfl ?_ | refine bodyPost_ret (results_none rfl _ _ _) rfl ?_
  exact HFn.out.2
end Go.Proofs.YtlmlbcnjohjnlaaDoor

/- mirror: an EXPUNGE, by what is at hand. -/
namespace Go.Proofs.YtlmlbcnjohjnlaaDoor
open Go.RowKit

/-- The first that waits. -/
theorem first_M {P : Nat} {fr : List Nat} {M : PM} {w : World} (h : MAt P fr M w) (hq : M.q.length ≤ 1000000) : ∃ kt kv ku ks sa sn sc b, (∀ X, Below w.heap.size w X → Calls Tryd.prog 35 #[.pointer (some ⟨P, 0, none⟩)] X fun e w' => e = .returned (.tuple #[.agg #[.string kt, .int .i64 kv, .bool ku, .bool ks, .slice sa sn sc], .bool b]) ∧ Below X.heap.size X w') ∧ b = !M.q.isEmpty ∧ ∀ c l, M.q = c :: l → kt = c.tag ∧ kv = c.verb ∧ ku = c.uid ∧ ks = c.sil ∧ RgsIn fr w (.slice sa sn sc) c.set := by
  obtain ⟨q, rows, was, hM, hQ, hR, hW⟩ := h.ex
  rcases hQ.hand (by omega) with ⟨e, hh⟩ | ⟨c, L', k, e, hh, hka⟩
  · exact ⟨⟨#[]⟩, 0, false, false, none, 0, 0, false, fun X hX => first_none P q X (by rw [hX.cell (p := ⟨P, 0, none⟩) h.plt]; exact (mir_cells hM).c0) (Nat.lt_of_lt_of_le h.plt hX.size) (hh.on hX), by rw [e]; rfl, fun c l e' => by rw [e] at e'; cases e'⟩
  · obtain ⟨kt, kv, ku, ks, kst⟩ := k
    obtain ⟨sa, sn, sc, hs⟩ := hka.set.shape
    simp only at hs
    subst hs
    refine ⟨kt, kv, ku, ks, sa, sn, sc, true, fun X hX => first_some P q ⟨kt, kv, ku, ks, .slice sa sn sc⟩ X (by rw [hX.cell (p := ⟨P, 0, none⟩) h.plt]; exact (mir_cells hM).c0) (Nat.lt_of_lt_of_le h.plt hX.size) (hh.on hX), by rw [e]; rfl, fun c' l e' => ?_⟩
    rw [e] at e'
    injection e' with e1 e2
    subst e1
    exact ⟨hka.tag, hka.verb, hka.uid, hka.sil, hka.set⟩
set_option maxRecDepth 10000 in
set_option maxHeartbeats 2000000 in
theorem expunge_tel (P : Nat) (fr : List Nat) (M : PM) (a : AN) (w : World) (h : MAt P fr M w) (hq : M.q.length ≤ 1000000) (htel : telM M = false) : Calls Tryd.prog 33 #[.pointer (some ⟨P, 0, none⟩), .agg (anC a)] w (ChgOut P fr M none w) := by
  have q2 := two_below w (anO a) (ppO P)
  obtain ⟨Y, hY⟩ : ∃ Y, (w.alloc (anO a)).alloc (ppO P) = Y := ⟨_, rfl⟩
  have hz : Y.heap.size = w.heap.size + 1 + 1 := by rw [← hY]; simp
  rw [hY] at q2
  have r0 : Y.heap[w.heap.size]? = some (anO a) := by rw [← hY, Below.heap_alloc _ _ _ (by simp)]; exact heap_new _ _
  have r1 : Y.heap[w.heap.size + 1]? = some (ppO P) := by rw [← hY]; have := heap_new (w.alloc (anO a)) (ppO P); rw [show (w.alloc (anO a)).heap.size = w.heap.size + 1 from by simp] at this; exact this
  have HXA : Hid (∀ X, Below Y.heap.size Y X → X.cell? ⟨w.heap.size, 6, none⟩ = some (.int .i64 a.num) ∧ X.cell? ⟨w.heap.size + 1, 0, none⟩ = some (.pointer (some ⟨P, 1, none⟩))) := Lib.hid (fun X hX => by
    refine ⟨(an_cells (bel_at hX (by omega) r0)).2.2.2.2.2, ?_⟩
    have := bel_at hX (by omega) r1
    unfold ppO at this
    exact cell_of this 0)
  obtain ⟨kt, kv, ku, ks, sa, sn, sc, kb, hfst, _, hkk⟩ := first_M h hq
  have HF := Lib.hid (hfst Y q2)
  have Q2 := Lib.hid q2
  have HY := Lib.hid hY
  have HM : Hid (∀ X, Below Y.heap.size Y X → Calls Tryd.prog 43 #[.pointer (some ⟨P, 0, none⟩)] X fun e w' => e = .returned (.bool false) ∧ Below X.heap.size X w') := Lib.hid (fun X hX => by rw [← htel]; exact mayTell_M ((h.bel q2).bel hX) hq)
  clear hY q2 r0 r1 hz h hq hfst hkk htel
  unfold anO ppO at HY
  go_enter Tryd.func33, Tryd.ntmps33
  go_upto_region 2 with fail
  rw [HY.out]
  clear HY
  go_upto_region 3 with (go_at_call 35; refine HF.out.mono ?_; rintro e w3 ⟨rfl, hb3⟩; have HB3 := Lib.hid hb3; clear hb3)
  clear HF
  refine wp_gen (fun Y3 hY3 => ?_)
  have r3 : Y3.heap[w3.heap.size]? = some (.cells #[.string kt, .int .i64 kv, .bool ku, .bool ks, .slice sa sn sc] 78 (0, 0)) := by rw [hY3]; exact heap_new _ _
  have b3 : Below w3.heap.size w3 Y3 := by rw [hY3]; exact (Below.refl _ _).alloc (Nat.le_refl _) _
  have bb : Below Y.heap.size Y Y3 := HB3.out.trans (b3.mono HB3.out.size)
  have HBB := Lib.hid bb
  have l3 := lt_of_heap r3
  have HR3 : Hid (∀ X, Below Y3.heap.size Y3 X → X.rangeAt w3.heap.size 0 [.string kt, .int .i64 kv, .bool ku, .bool ks, .slice sa sn sc]) := Lib.hid (fun X hX => box_range (z := 5) (cs := [.string kt, .int .i64 kv, .bool ku, .bool ks, .slice sa sn sc]) (bel_at hX l3 r3) 0)
  clear hY3 r3 b3 bb l3
  go_wp2_with (go_at_call 43; refine (HM.out _ HBB.out).mono ?_; rintro e w4 ⟨rfl, hb4⟩; have HB4 := Lib.hid hb4; clear hb4)
  go_ret
  exact ⟨Q2.out.trans ((HBB.out.trans (HB4.out.mono HBB.out.size)).mono Q2.out.size), rfl⟩
set_option maxRecDepth 10000 in
set_option maxHeartbeats 2000000 in
theorem expunge_keep (P : Nat) (fr : List Nat) (M : PM) (a : AN) (w : World) (h : MAt P fr M w) (hq : M.q.length ≤ 1000000) (htel : telM M = true) (hkeep : keepH M = true) : Calls Tryd.prog 33 #[.pointer (some ⟨P, 0, none⟩), .agg (anC a)] w (ChgOut P fr M none w) := by
  have q2 := two_below w (anO a) (ppO P)
  obtain ⟨Y, hY⟩ : ∃ Y, (w.alloc (anO a)).alloc (ppO P) = Y := ⟨_, rfl⟩
  have hz : Y.heap.size = w.heap.size + 1 + 1 := by rw [← hY]; simp
  rw [hY] at q2
  have r0 : Y.heap[w.heap.size]? = some (anO a) := by rw [← hY, Below.heap_alloc _ _ _ (by simp)]; exact heap_new _ _
  have r1 : Y.heap[w.heap.size + 1]? = some (ppO P) := by rw [← hY]; have := heap_new (w.alloc (anO a)) (ppO P); rw [show (w.alloc (anO a)).heap.size = w.heap.size + 1 from by simp] at this; exact this
  have HXA : Hid (∀ X, Below Y.heap.size Y X → X.cell? ⟨w.heap.size, 6, none⟩ = some (.int .i64 a.num) ∧ X.cell? ⟨w.heap.size + 1, 0, none⟩ = some (.pointer (some ⟨P, 1, none⟩))) := Lib.hid (fun X hX => by
    refine ⟨(an_cells (bel_at hX (by omega) r0)).2.2.2.2.2, ?_⟩
    have := bel_at hX (by omega) r1
    unfold ppO at this
    exact cell_of this 0)
  obtain ⟨kt, kv, ku, ks, sa, sn, sc, kb, hfst, _, hkk⟩ := first_M h hq
  have HF := Lib.hid (hfst Y q2)
  have Q2 := Lib.hid q2
  have HY := Lib.hid hY
  have HM : Hid (∀ X, Below Y.heap.size Y X → Calls Tryd.prog 43 #[.pointer (some ⟨P, 0, none⟩)] X fun e w' => e = .returned (.bool true) ∧ Below X.heap.size X w') := Lib.hid (fun X hX => by rw [← htel]; exact mayTell_M ((h.bel q2).bel hX) hq)
  have HK : Hid (∀ X, Calls Tryd.prog 45 #[.agg #[.string kt, .int .i64 kv, .bool ku, .bool ks, .slice sa sn sc]] X fun e w' => e = .returned (.bool true) ∧ Below X.heap.size X w') := Lib.hid (fun X => by
    have hne : M.q ≠ [] := fun e => by unfold telM at htel; rw [e] at htel; simp at htel
    obtain ⟨c, l, e⟩ := List.exists_cons_of_ne_nil hne
    obtain ⟨_, e1, e2, _, _⟩ := hkk c l e
    have := keeps_any ⟨kt, kv, ku, ks, .slice sa sn sc⟩ ⟨_, _, _, rfl⟩ X
    unfold keepH keepA at hkeep
    rw [e] at hkeep
    simp only at hkeep
    rw [e1, e2] at this
    simp only at this
    rw [hkeep, ← e1, ← e2] at this
    exact this)
  clear hY q2 r0 r1 hz h hq hfst hkk htel hkeep
  unfold anO ppO at HY
  go_enter Tryd.func33, Tryd.ntmps33
  go_upto_region 2 with fail
  rw [HY.out]
  clear HY
  go_upto_region 3 with (go_at_call 35; refine HF.out.mono ?_; rintro e w3 ⟨rfl, hb3⟩; have HB3 := Lib.hid hb3; clear hb3)
  clear HF
  refine wp_gen (fun Y3 hY3 => ?_)
  have r3 : Y3.heap[w3.heap.size]? = some (.cells #[.string kt, .int .i64 kv, .bool ku, .bool ks, .slice sa sn sc] 78 (0, 0)) := by rw [hY3]; exact heap_new _ _
  have b3 : Below w3.heap.size w3 Y3 := by rw [hY3]; exact (Below.refl _ _).alloc (Nat.le_refl _) _
  have bb : Below Y.heap.size Y Y3 := HB3.out.trans (b3.mono HB3.out.size)
  have HBB := Lib.hid bb
  have l3 := lt_of_heap r3
  have HR3 : Hid (∀ X, Below Y3.heap.size Y3 X → X.rangeAt w3.heap.size 0 [.string kt, .int .i64 kv, .bool ku, .bool ks, .slice sa sn sc]) := Lib.hid (fun X hX => box_range (z := 5) (cs := [.string kt, .int .i64 kv, .bool ku, .bool ks, .slice sa sn sc]) (bel_at hX l3 r3) 0)
  clear hY3 r3 b3 bb l3
  go_wp2_with (first | (refine wpList_load_mid_g (by kernel_rfl) 78 _ rfl w3.heap.size 0 rfl [.string kt, .int .i64 kv, .bool ku, .bool ks, .slice sa sn sc] _ (HR3.out _ HB4.out) Tryd.underlying78 rfl Tryd.sizeAk ?_) | (go_at_call 43; refine (HM.out _ HBB.out).mono ?_; rintro e w4 ⟨rfl, hb4⟩; have HB4 := Lib.hid hb4; clear hb4) | (go_at_call 45; refine (HK.out _).mono ?_; rintro e w5 ⟨rfl, hb5⟩; have HB5 := Lib.hid (HB4.out.trans (hb5.mono HB4.out.size)); have HB6 := Lib.hid (HBB.out.trans (HB5.out.mono HBB.out.size)); clear hb5; obtain ⟨c6, c7⟩ := HXA.out _ HB6.out))
  go_ret
  exact ⟨Q2.out.trans (HB6.out.mono Q2.out.size), rfl⟩
set_option maxRecDepth 10000 in
set_option maxHeartbeats 2000000 in
theorem expunge_has (P : Nat) (fr : List Nat) (M : PM) (a : AN) (w : World) (h : MAt P fr M w) (hq : M.q.length ≤ 1000000) (htel : telM M = true) (hkeep : keepH M = false) (hhas : hasM M a.num = false) : Calls Tryd.prog 33 #[.pointer (some ⟨P, 0, none⟩), .agg (anC a)] w (ChgOut P fr M none w) := by
  have q2 := two_below w (anO a) (ppO P)
  obtain ⟨Y, hY⟩ : ∃ Y, (w.alloc (anO a)).alloc (ppO P) = Y := ⟨_, rfl⟩
  have hz : Y.heap.size = w.heap.size + 1 + 1 := by rw [← hY]; simp
  rw [hY] at q2
  have r0 : Y.heap[w.heap.size]? = some (anO a) := by rw [← hY, Below.heap_alloc _ _ _ (by simp)]; exact heap_new _ _
  have r1 : Y.heap[w.heap.size + 1]? = some (ppO P) := by rw [← hY]; have := heap_new (w.alloc (anO a)) (ppO P); rw [show (w.alloc (anO a)).heap.size = w.heap.size + 1 from by simp] at this; exact this
  have HXA : Hid (∀ X, Below Y.heap.size Y X → X.cell? ⟨w.heap.size, 6, none⟩ = some (.int .i64 a.num) ∧ X.cell? ⟨w.heap.size + 1, 0, none⟩ = some (.pointer (some ⟨P, 1, none⟩))) := Lib.hid (fun X hX => by
    refine ⟨(an_cells (bel_at hX (by omega) r0)).2.2.2.2.2, ?_⟩
    have := bel_at hX (by omega) r1
    unfold ppO at this
    exact cell_of this 0)
  obtain ⟨kt, kv, ku, ks, sa, sn, sc, kb, hfst, _, hkk⟩ := first_M h hq
  have HF := Lib.hid (hfst Y q2)
  have Q2 := Lib.hid q2
  have HY := Lib.hid hY
  have HM : Hid (∀ X, Below Y.heap.size Y X → Calls Tryd.prog 43 #[.pointer (some ⟨P, 0, none⟩)] X fun e w' => e = .returned (.bool true) ∧ Below X.heap.size X w') := Lib.hid (fun X hX => by rw [← htel]; exact mayTell_M ((h.bel q2).bel hX) hq)
  have HK : Hid (∀ X, Calls Tryd.prog 45 #[.agg #[.string kt, .int .i64 kv, .bool ku, .bool ks, .slice sa sn sc]] X fun e w' => e = .returned (.bool false) ∧ Below X.heap.size X w') := Lib.hid (fun X => by
    have hne : M.q ≠ [] := fun e => by unfold telM at htel; rw [e] at htel; simp at htel
    obtain ⟨c, l, e⟩ := List.exists_cons_of_ne_nil hne
    obtain ⟨_, e1, e2, _, _⟩ := hkk c l e
    have := keeps_any ⟨kt, kv, ku, ks, .slice sa sn sc⟩ ⟨_, _, _, rfl⟩ X
    unfold keepH keepA at hkeep
    rw [e] at hkeep
    simp only at hkeep
    rw [e1, e2] at this
    simp only at this
    rw [hkeep, ← e1, ← e2] at this
    exact this)
  have HH : Hid (∀ X, Below Y.heap.size Y X → Calls Tryd.prog 46 #[.pointer (some ⟨P, 1, none⟩), .int .i64 a.num] X fun e w' => e = .returned (.bool false) ∧ w' = X) := Lib.hid (fun X hX => by rw [← hhas]; exact has_M ((h.bel q2).bel hX) a.num)
  clear hY q2 r0 r1 hz h hq hfst hkk htel hkeep hhas
  unfold anO ppO at HY
  go_enter Tryd.func33, Tryd.ntmps33
  go_upto_region 2 with fail
  rw [HY.out]
  clear HY
  go_upto_region 3 with (go_at_call 35; refine HF.out.mono ?_; rintro e w3 ⟨rfl, hb3⟩; have HB3 := Lib.hid hb3; clear hb3)
  clear HF
  refine wp_gen (fun Y3 hY3 => ?_)
  have r3 : Y3.heap[w3.heap.size]? = some (.cells #[.string kt, .int .i64 kv, .bool ku, .bool ks, .slice sa sn sc] 78 (0, 0)) := by rw [hY3]; exact heap_new _ _
  have b3 : Below w3.heap.size w3 Y3 := by rw [hY3]; exact (Below.refl _ _).alloc (Nat.le_refl _) _
  have bb : Below Y.heap.size Y Y3 := HB3.out.trans (b3.mono HB3.out.size)
  have HBB := Lib.hid bb
  have l3 := lt_of_heap r3
  have HR3 : Hid (∀ X, Below Y3.heap.size Y3 X → X.rangeAt w3.heap.size 0 [.string kt, .int .i64 kv, .bool ku, .bool ks, .slice sa sn sc]) := Lib.hid (fun X hX => box_range (z := 5) (cs := [.string kt, .int .i64 kv, .bool ku, .bool ks, .slice sa sn sc]) (bel_at hX l3 r3) 0)
  clear hY3 r3 b3 bb l3
  go_wp2_with (first | (refine wpList_load_mid_g (by kernel_rfl) 78 _ rfl w3.heap.size 0 rfl [.string kt, .int .i64 kv, .bool ku, .bool ks, .slice sa sn sc] _ (HR3.out _ HB4.out) Tryd.underlying78 rfl Tryd.sizeAk ?_) | (go_at_call 43; refine (HM.out _ HBB.out).mono ?_; rintro e w4 ⟨rfl, hb4⟩; have HB4 := Lib.hid hb4; clear hb4) | (go_at_call 45; refine (HK.out _).mono ?_; rintro e w5 ⟨rfl, hb5⟩; have HB5 := Lib.hid (HB4.out.trans (hb5.mono HB4.out.size)); have HB6 := Lib.hid (HBB.out.trans (HB5.out.mono HBB.out.size)); clear hb5; obtain ⟨c6, c7⟩ := HXA.out _ HB6.out) | (go_at_call 46; refine (HH.out _ HB6.out).mono ?_; rintro e w6 ⟨rfl, hw6⟩; subst hw6))
  go_ret
  exact ⟨Q2.out.trans (HB6.out.mono Q2.out.size), rfl⟩
set_option maxRecDepth 10000 in
set_option maxHeartbeats 2000000 in
theorem expunge_go (P : Nat) (fr : List Nat) (M : PM) (a : AN) (w : World) (h : MAt P fr M w) (hq : M.q.length ≤ 1000000) (hrl : M.rows.length ≤ 1000000) (htel : telM M = true) (hkeep : keepH M = false) (hhas : hasM M a.num = true) : Calls Tryd.prog 33 #[.pointer (some ⟨P, 0, none⟩), .agg (anC a)] w (ChgOut P fr M (some (fun N => { N with rows := N.rows.eraseIdx (a.num - 1).toNat })) w) := by
  have q2 := two_below w (anO a) (ppO P)
  obtain ⟨Y, hY⟩ : ∃ Y, (w.alloc (anO a)).alloc (ppO P) = Y := ⟨_, rfl⟩
  have hz : Y.heap.size = w.heap.size + 1 + 1 := by rw [← hY]; simp
  rw [hY] at q2
  have r0 : Y.heap[w.heap.size]? = some (anO a) := by rw [← hY, Below.heap_alloc _ _ _ (by simp)]; exact heap_new _ _
  have r1 : Y.heap[w.heap.size + 1]? = some (ppO P) := by rw [← hY]; have := heap_new (w.alloc (anO a)) (ppO P); rw [show (w.alloc (anO a)).heap.size = w.heap.size + 1 from by simp] at this; exact this
  have HXA : Hid (∀ X, Below Y.heap.size Y X → X.cell? ⟨w.heap.size, 6, none⟩ = some (.int .i64 a.num) ∧ X.cell? ⟨w.heap.size + 1, 0, none⟩ = some (.pointer (some ⟨P, 1, none⟩))) := Lib.hid (fun X hX => by
    refine ⟨(an_cells (bel_at hX (by omega) r0)).2.2.2.2.2, ?_⟩
    have := bel_at hX (by omega) r1
    unfold ppO at this
    exact cell_of this 0)
  obtain ⟨kt, kv, ku, ks, sa, sn, sc, kb, hfst, _, hkk⟩ := first_M h hq
  have HF := Lib.hid (hfst Y q2)
  have Q2 := Lib.hid q2
  have HY := Lib.hid hY
  have HM : Hid (∀ X, Below Y.heap.size Y X → Calls Tryd.prog 43 #[.pointer (some ⟨P, 0, none⟩)] X fun e w' => e = .returned (.bool true) ∧ Below X.heap.size X w') := Lib.hid (fun X hX => by rw [← htel]; exact mayTell_M ((h.bel q2).bel hX) hq)
  have HK : Hid (∀ X, Calls Tryd.prog 45 #[.agg #[.string kt, .int .i64 kv, .bool ku, .bool ks, .slice sa sn sc]] X fun e w' => e = .returned (.bool false) ∧ Below X.heap.size X w') := Lib.hid (fun X => by
    have hne : M.q ≠ [] := fun e => by unfold telM at htel; rw [e] at htel; simp at htel
    obtain ⟨c, l, e⟩ := List.exists_cons_of_ne_nil hne
    obtain ⟨_, e1, e2, _, _⟩ := hkk c l e
    have := keeps_any ⟨kt, kv, ku, ks, .slice sa sn sc⟩ ⟨_, _, _, rfl⟩ X
    unfold keepH keepA at hkeep
    rw [e] at hkeep
    simp only at hkeep
    rw [e1, e2] at this
    simp only at this
    rw [hkeep, ← e1, ← e2] at this
    exact this)
  have HH : Hid (∀ X, Below Y.heap.size Y X → Calls Tryd.prog 46 #[.pointer (some ⟨P, 1, none⟩), .int .i64 a.num] X fun e w' => e = .returned (.bool true) ∧ w' = X) := Lib.hid (fun X hX => by rw [← hhas]; exact has_M ((h.bel q2).bel hX) a.num)
  have hfrl := h.lt
  have hop : opnM M = false := by unfold telM at htel; simp only [Bool.and_eq_true, Bool.not_eq_true'] at htel; exact htel.2
  have fin : ∀ w', Below Y.heap.size Y w' → ChgOut P fr M (some (fun N => { N with rows := N.rows.eraseIdx (a.num - 1).toNat })) w (.returned (.func (.func 47) #[] #[.pointer (some ⟨w.heap.size + 1, 0, none⟩), .pointer (some ⟨w.heap.size, 0, none⟩)])) w' := fun w' hw' => by
    have bw := q2.trans (hw'.mono q2.size)
    refine ⟨bw, _, _, rfl, isFn_expunge1, fun bb X hbb hX hM => ?_⟩
    obtain rfl : bb = false := by cases bb with
      | false => rfl
      | true => rw [hop] at hbb; exact absurd (hbb.1 rfl) (by decide)
    have hN : bgM false M = M := rfl
    rw [hN] at hM ⊢
    obtain ⟨q, rows, was, hM1, hQ, ⟨rs, hr1, hr2, hr3⟩, hW⟩ := hM.ex
    obtain ⟨ra, rc, rfl⟩ := hr1.shape
    have xA := hX.at_ (bel_at hw' (by omega) r0) (fun e => by have := hfrl _ e; omega)
    have xp := hX.at_ (bel_at hw' (by omega) r1) (fun e => by have := hfrl _ e; omega)
    unfold hasM at hhas
    simp only [Bool.and_eq_true, decide_eq_true_eq] at hhas
    obtain ⟨i, hi⟩ : ∃ i : Nat, a.num - 1 = (i : Int) := ⟨(a.num - 1).toNat, by omega⟩
    have hil : i < M.rows.length := by omega
    rw [show (a.num - 1).toNat = i from by omega]
    refine (expunge1_any P q _ _ _ _ ra M.rows.length rc was _ (rwL rs) a a.num i rfl hi hil hrl (rwL_one hr3) w.heap.size (w.heap.size + 1) X xA xp hM1 hr1).mono ?_
    rintro e X' ⟨rfl, rv, hs, hm, hrr, hlo⟩
    have hB : w.heap.size ≤ X.heap.size := Nat.le_trans bw.size hX.size
    refine ⟨rfl, MAt.rows (nb := []) (rs := rs.eraseIdx i) hM hM1 hQ hW hr1 hr2 hs hm rfl rfl ?_ ?_ (fun b e => ?_) (fun b hb => by cases hb)⟩
    · rw [rwL_erase rs i (i + 1) rfl] at hrr
      rw [show (M.rows.eraseIdx i).length = M.rows.length - 1 from List.length_eraseIdx_of_lt hil]
      exact hrr
    · rw [List.append_nil]
      exact hr3.erase i
    · rcases hlo b e with e' | e'
      · exact .inl (hr2 b e')
      · exact .inr (Nat.le_trans hB e')
  have FIN := Lib.hid fin
  clear hY q2 r0 r1 hz h hq htel hkeep hhas hop fin hfrl hfst hkk hrl
  unfold anO ppO at HY
  go_enter Tryd.func33, Tryd.ntmps33
  go_upto_region 2 with fail
  rw [HY.out]
  clear HY
  go_upto_region 3 with (go_at_call 35; refine HF.out.mono ?_; rintro e w3 ⟨rfl, hb3⟩; have HB3 := Lib.hid hb3; clear hb3)
  clear HF
  refine wp_gen (fun Y3 hY3 => ?_)
  have r3 : Y3.heap[w3.heap.size]? = some (.cells #[.string kt, .int .i64 kv, .bool ku, .bool ks, .slice sa sn sc] 78 (0, 0)) := by rw [hY3]; exact heap_new _ _
  have b3 : Below w3.heap.size w3 Y3 := by rw [hY3]; exact (Below.refl _ _).alloc (Nat.le_refl _) _
  have bb : Below Y.heap.size Y Y3 := HB3.out.trans (b3.mono HB3.out.size)
  have HBB := Lib.hid bb
  have l3 := lt_of_heap r3
  have HR3 : Hid (∀ X, Below Y3.heap.size Y3 X → X.rangeAt w3.heap.size 0 [.string kt, .int .i64 kv, .bool ku, .bool ks, .slice sa sn sc]) := Lib.hid (fun X hX => box_range (z := 5) (cs := [.string kt, .int .i64 kv, .bool ku, .bool ks, .slice sa sn sc]) (bel_at hX l3 r3) 0)
  clear hY3 r3 b3 bb l3
  go_wp2_with (first | (refine wpList_load_mid_g (by kernel_rfl) 78 _ rfl w3.heap.size 0 rfl [.string kt, .int .i64 kv, .bool ku, .bool ks, .slice sa sn sc] _ (HR3.out _ HB4.out) Tryd.underlying78 rfl Tryd.sizeAk ?_) | (go_at_call 43; refine (HM.out _ HBB.out).mono ?_; rintro e w4 ⟨rfl, hb4⟩; have HB4 := Lib.hid hb4; clear hb4) | (go_at_call 45; refine (HK.out _).mono ?_; rintro e w5 ⟨rfl, hb5⟩; have HB5 := Lib.hid (HB4.out.trans (hb5.mono HB4.out.size)); have HB6 := Lib.hid (HBB.out.trans (HB5.out.mono HBB.out.size)); clear hb5; obtain ⟨c6, c7⟩ := HXA.out _ HB6.out) | (go_at_call 46; refine (HH.out _ HB6.out).mono ?_; rintro e w6 ⟨rfl, hw6⟩; subst hw6))
  go_ret
  exact FIN.out _ HB6.out
theorem expunge_M (P : Nat) (fr : List Nat) (M : PM) (a : AN) (w : World) (h : MAt P fr M w) (hq : M.q.length ≤ 1000000) (hrl : M.rows.length ≤ 1000000) : Calls Tryd.prog 33 #[.pointer (some ⟨P, 0, none⟩), .agg (anC a)] w (ChgOut P fr M (expF M a.num) w) := by
  unfold expF
  cases htel : telM M with
  | false => rw [if_pos (.inl rfl)]; exact expunge_tel P fr M a w h hq htel
  | true =>
    cases hkeep : keepH M with
    | true => rw [if_pos (.inr (.inl rfl))]; exact expunge_keep P fr M a w h hq htel hkeep
    | false =>
      cases hhas : hasM M a.num with
      | false => rw [if_pos (.inr (.inr rfl))]; exact expunge_has P fr M a w h hq htel hkeep hhas
      | true => rw [if_neg (by simp)]; exact expunge_go P fr M a w h hq hrl htel hkeep hhas
end Go.Proofs.YtlmlbcnjohjnlaaDoor

/- mirror: whether a command may have meant a row. -/
namespace Go.Proofs.YtlmlbcnjohjnlaaDoor
open Go.RowKit

theorem isStar_any (a b : Int) (w : World) : Calls Tryd.prog 74 (#[rgV a b] ++ #[]) w fun e w' => e = .returned (.bool (a == 0 || b == 0)) ∧ Below w.heap.size w w' := by
  have q := Lib.hid ((Below.refl w.heap.size w).alloc (Nat.le_refl _) (.cells #[.int .i64 a, .int .i64 b] 91))
  rw [Array.append_empty]
  unfold rgV
  by_cases h0 : a = 0
  · subst h0
    go_enter Tryd.func74, Tryd.ntmps74
    go_wp2_with fail
    go_ret
    exact ⟨rfl, q.out⟩
  · have e0 : (a == 0) = false := by simpa using h0
    rw [e0, Bool.false_or]
    go_enter Tryd.func74, Tryd.ntmps74
    go_wp2_with fail
    go_ret
    exact ⟨rfl, q.out⟩
set_option maxRecDepth 10000 in
set_option maxHeartbeats 2000000 in
theorem mayMean_star (kt : ByteArray) (kv : Int) (ku ks : Bool) (sa : Option Addr) (sn sc : Nat) (l : List Rg) (x u : Int) (kn : Bool) (fa : Option Addr) (fn fc : Nat) (w : World) (hset : Rgs w (.slice sa sn sc) l) (hst : starL l = true) : Calls Tryd.prog 69 #[.agg #[.string kt, .int .i64 kv, .bool ku, .bool ks, .slice sa sn sc], .int .i64 x, .agg #[.int .i64 u, .bool kn, .slice fa fn fc]] w fun e w' => e = .returned (.bool true) ∧ Below w.heap.size w w' := by
  have q2 := two_below w (.cells #[.string kt, .int .i64 kv, .bool ku, .bool ks, .slice sa sn sc] 78) (.cells #[.int .i64 u, .bool kn, .slice fa fn fc] 98)
  obtain ⟨Y, hY⟩ : ∃ Y, (w.alloc (.cells #[.string kt, .int .i64 kv, .bool ku, .bool ks, .slice sa sn sc] 78)).alloc (.cells #[.int .i64 u, .bool kn, .slice fa fn fc] 98) = Y := ⟨_, rfl⟩
  have hz : Y.heap.size = w.heap.size + 1 + 1 := by rw [← hY]; simp
  rw [hY] at q2
  have r0 : Y.heap[w.heap.size]? = some (.cells #[.string kt, .int .i64 kv, .bool ku, .bool ks, .slice sa sn sc] 78 (0, 0)) := by rw [← hY, Below.heap_alloc _ _ _ (by simp)]; exact heap_new _ _
  have r1 : Y.heap[w.heap.size + 1]? = some (.cells #[.int .i64 u, .bool kn, .slice fa fn fc] 98 (0, 0)) := by rw [← hY]; have := heap_new (w.alloc (.cells #[.string kt, .int .i64 kv, .bool ku, .bool ks, .slice sa sn sc] 78)) (.cells #[.int .i64 u, .bool kn, .slice fa fn fc] 98); rw [show (w.alloc (.cells #[.string kt, .int .i64 kv, .bool ku, .bool ks, .slice sa sn sc] 78)).heap.size = w.heap.size + 1 from by simp] at this; exact this
  have HX : Hid (∀ X, Below Y.heap.size Y X → X.cell? ⟨w.heap.size, 2, none⟩ = some (.bool ku) ∧ X.cell? ⟨w.heap.size, 4, none⟩ = some (.slice sa sn sc) ∧ X.cell? ⟨w.heap.size + 1, 0, none⟩ = some (.int .i64 u)) := Lib.hid (fun X hX => ⟨cell_of (bel_at hX (by omega) r0) 2, cell_of (bel_at hX (by omega) r0) 4, cell_of (bel_at hX (by omega) r1) 0⟩)
  have HC : Hid (Calls Tryd.prog 75 #[.slice sa sn sc, .func (.func 74) #[] #[]] Y fun e w' => e = .returned (.bool (starL l)) ∧ Below Y.heap.size Y w') := Lib.hid (containsFunc_any 74 #[] (enters_of Tryd.func74 (by kernel_rfl) rfl) (fun p => p.1 == 0 || p.2 == 0) _ l Y (hset.on q2) (fun a b X _ => isStar_any a b X))
  have HHs : Hid (∀ z X, Below Y.heap.size Y X → Calls Tryd.prog 76 #[.slice sa sn sc, .int .i64 z, .int .i64 4294967295] X fun e w' => e = .returned (.bool (hasB l z 4294967295)) ∧ Below X.heap.size X w') := Lib.hid (fun z X hX => has_any _ l z 4294967295 X (hset.on (q2.trans (hX.mono q2.size))))
  have Q2 := Lib.hid q2
  have HY := Lib.hid hY
  obtain ⟨e0, e1, e2⟩ := HX.out Y (Below.refl _ _)
  clear hY hz r0 r1 hset q2
  rw [hst] at HC
  clear hst HHs
  go_enter Tryd.func69, Tryd.ntmps69
  go_upto_region 1 with fail
  rw [HY.out]
  clear HY
  go_wp2_with (go_at_call 75; refine HC.out.mono ?_; rintro e w3 ⟨rfl, hb3⟩; obtain ⟨d0, d1, d2⟩ := HX.out _ hb3; have HB3 := Lib.hid hb3; clear hb3)
  go_ret
  exact ⟨rfl, Q2.out.trans (HB3.out.mono Q2.out.size)⟩
set_option maxRecDepth 10000 in
set_option maxHeartbeats 2000000 in
theorem mayMean_num (kt : ByteArray) (kv : Int) (ku ks : Bool) (sa : Option Addr) (sn sc : Nat) (l : List Rg) (x u : Int) (kn : Bool) (fa : Option Addr) (fn fc : Nat) (w : World) (hset : Rgs w (.slice sa sn sc) l) (hst : starL l = false) (hu : ku = false) : Calls Tryd.prog 69 #[.agg #[.string kt, .int .i64 kv, .bool ku, .bool ks, .slice sa sn sc], .int .i64 x, .agg #[.int .i64 u, .bool kn, .slice fa fn fc]] w fun e w' => e = .returned (.bool (hasB l x 4294967295)) ∧ Below w.heap.size w w' := by
  subst hu
  have q2 := two_below w (.cells #[.string kt, .int .i64 kv, .bool false, .bool ks, .slice sa sn sc] 78) (.cells #[.int .i64 u, .bool kn, .slice fa fn fc] 98)
  obtain ⟨Y, hY⟩ : ∃ Y, (w.alloc (.cells #[.string kt, .int .i64 kv, .bool false, .bool ks, .slice sa sn sc] 78)).alloc (.cells #[.int .i64 u, .bool kn, .slice fa fn fc] 98) = Y := ⟨_, rfl⟩
  have hz : Y.heap.size = w.heap.size + 1 + 1 := by rw [← hY]; simp
  rw [hY] at q2
  have r0 : Y.heap[w.heap.size]? = some (.cells #[.string kt, .int .i64 kv, .bool false, .bool ks, .slice sa sn sc] 78 (0, 0)) := by rw [← hY, Below.heap_alloc _ _ _ (by simp)]; exact heap_new _ _
  have r1 : Y.heap[w.heap.size + 1]? = some (.cells #[.int .i64 u, .bool kn, .slice fa fn fc] 98 (0, 0)) := by rw [← hY]; have := heap_new (w.alloc (.cells #[.string kt, .int .i64 kv, .bool false, .bool ks, .slice sa sn sc] 78)) (.cells #[.int .i64 u, .bool kn, .slice fa fn fc] 98); rw [show (w.alloc (.cells #[.string kt, .int .i64 kv, .bool false, .bool ks, .slice sa sn sc] 78)).heap.size = w.heap.size + 1 from by simp] at this; exact this
  have HX : Hid (∀ X, Below Y.heap.size Y X → X.cell? ⟨w.heap.size, 2, none⟩ = some (.bool false) ∧ X.cell? ⟨w.heap.size, 4, none⟩ = some (.slice sa sn sc) ∧ X.cell? ⟨w.heap.size + 1, 0, none⟩ = some (.int .i64 u)) := Lib.hid (fun X hX => ⟨cell_of (bel_at hX (by omega) r0) 2, cell_of (bel_at hX (by omega) r0) 4, cell_of (bel_at hX (by omega) r1) 0⟩)
  have HC : Hid (Calls Tryd.prog 75 #[.slice sa sn sc, .func (.func 74) #[] #[]] Y fun e w' => e = .returned (.bool (starL l)) ∧ Below Y.heap.size Y w') := Lib.hid (containsFunc_any 74 #[] (enters_of Tryd.func74 (by kernel_rfl) rfl) (fun p => p.1 == 0 || p.2 == 0) _ l Y (hset.on q2) (fun a b X _ => isStar_any a b X))
  have HHs : Hid (∀ z X, Below Y.heap.size Y X → Calls Tryd.prog 76 #[.slice sa sn sc, .int .i64 z, .int .i64 4294967295] X fun e w' => e = .returned (.bool (hasB l z 4294967295)) ∧ Below X.heap.size X w') := Lib.hid (fun z X hX => has_any _ l z 4294967295 X (hset.on (q2.trans (hX.mono q2.size))))
  have Q2 := Lib.hid q2
  have HY := Lib.hid hY
  obtain ⟨e0, e1, e2⟩ := HX.out Y (Below.refl _ _)
  clear hY hz r0 r1 hset q2
  rw [hst] at HC
  clear hst
  go_enter Tryd.func69, Tryd.ntmps69
  go_upto_region 1 with fail
  rw [HY.out]
  clear HY
  go_wp2_with (first | (go_at_call 75; refine HC.out.mono ?_; rintro e w3 ⟨rfl, hb3⟩; obtain ⟨d0, d1, d2⟩ := HX.out _ hb3; have HB3 := Lib.hid hb3; clear hb3) | (go_at_call 76; refine (HHs.out _ _ HB3.out).mono ?_; rintro e w4 ⟨rfl, hb4⟩; have HB4 := Lib.hid hb4; clear hb4))
  go_ret
  exact ⟨rfl, Q2.out.trans ((HB3.out.trans (HB4.out.mono HB3.out.size)).mono Q2.out.size)⟩
set_option maxRecDepth 10000 in
set_option maxHeartbeats 2000000 in
theorem mayMean_zero (kt : ByteArray) (kv : Int) (ku ks : Bool) (sa : Option Addr) (sn sc : Nat) (l : List Rg) (x u : Int) (kn : Bool) (fa : Option Addr) (fn fc : Nat) (w : World) (hset : Rgs w (.slice sa sn sc) l) (hst : starL l = false) (hu : ku = true) (h0 : u = 0) : Calls Tryd.prog 69 #[.agg #[.string kt, .int .i64 kv, .bool ku, .bool ks, .slice sa sn sc], .int .i64 x, .agg #[.int .i64 u, .bool kn, .slice fa fn fc]] w fun e w' => e = .returned (.bool true) ∧ Below w.heap.size w w' := by
  subst hu h0
  have q2 := two_below w (.cells #[.string kt, .int .i64 kv, .bool true, .bool ks, .slice sa sn sc] 78) (.cells #[.int .i64 0, .bool kn, .slice fa fn fc] 98)
  obtain ⟨Y, hY⟩ : ∃ Y, (w.alloc (.cells #[.string kt, .int .i64 kv, .bool true, .bool ks, .slice sa sn sc] 78)).alloc (.cells #[.int .i64 0, .bool kn, .slice fa fn fc] 98) = Y := ⟨_, rfl⟩
  have hz : Y.heap.size = w.heap.size + 1 + 1 := by rw [← hY]; simp
  rw [hY] at q2
  have r0 : Y.heap[w.heap.size]? = some (.cells #[.string kt, .int .i64 kv, .bool true, .bool ks, .slice sa sn sc] 78 (0, 0)) := by rw [← hY, Below.heap_alloc _ _ _ (by simp)]; exact heap_new _ _
  have r1 : Y.heap[w.heap.size + 1]? = some (.cells #[.int .i64 0, .bool kn, .slice fa fn fc] 98 (0, 0)) := by rw [← hY]; have := heap_new (w.alloc (.cells #[.string kt, .int .i64 kv, .bool true, .bool ks, .slice sa sn sc] 78)) (.cells #[.int .i64 0, .bool kn, .slice fa fn fc] 98); rw [show (w.alloc (.cells #[.string kt, .int .i64 kv, .bool true, .bool ks, .slice sa sn sc] 78)).heap.size = w.heap.size + 1 from by simp] at this; exact this
  have HX : Hid (∀ X, Below Y.heap.size Y X → X.cell? ⟨w.heap.size, 2, none⟩ = some (.bool true) ∧ X.cell? ⟨w.heap.size, 4, none⟩ = some (.slice sa sn sc) ∧ X.cell? ⟨w.heap.size + 1, 0, none⟩ = some (.int .i64 0)) := Lib.hid (fun X hX => ⟨cell_of (bel_at hX (by omega) r0) 2, cell_of (bel_at hX (by omega) r0) 4, cell_of (bel_at hX (by omega) r1) 0⟩)
  have HC : Hid (Calls Tryd.prog 75 #[.slice sa sn sc, .func (.func 74) #[] #[]] Y fun e w' => e = .returned (.bool (starL l)) ∧ Below Y.heap.size Y w') := Lib.hid (containsFunc_any 74 #[] (enters_of Tryd.func74 (by kernel_rfl) rfl) (fun p => p.1 == 0 || p.2 == 0) _ l Y (hset.on q2) (fun a b X _ => isStar_any a b X))
  have HHs : Hid (∀ z X, Below Y.heap.size Y X → Calls Tryd.prog 76 #[.slice sa sn sc, .int .i64 z, .int .i64 4294967295] X fun e w' => e = .returned (.bool (hasB l z 4294967295)) ∧ Below X.heap.size X w') := Lib.hid (fun z X hX => has_any _ l z 4294967295 X (hset.on (q2.trans (hX.mono q2.size))))
  have Q2 := Lib.hid q2
  have HY := Lib.hid hY
  obtain ⟨e0, e1, e2⟩ := HX.out Y (Below.refl _ _)
  clear hY hz r0 r1 hset q2
  rw [hst] at HC
  clear hst HHs
  go_enter Tryd.func69, Tryd.ntmps69
  go_upto_region 1 with fail
  rw [HY.out]
  clear HY
  go_wp2_with (go_at_call 75; refine HC.out.mono ?_; rintro e w3 ⟨rfl, hb3⟩; obtain ⟨d0, d1, d2⟩ := HX.out _ hb3; have HB3 := Lib.hid hb3; clear hb3)
  go_ret
  exact ⟨rfl, Q2.out.trans (HB3.out.mono Q2.out.size)⟩
set_option maxRecDepth 10000 in
set_option maxHeartbeats 2000000 in
theorem mayMean_uid (kt : ByteArray) (kv : Int) (ku ks : Bool) (sa : Option Addr) (sn sc : Nat) (l : List Rg) (x u : Int) (kn : Bool) (fa : Option Addr) (fn fc : Nat) (w : World) (hset : Rgs w (.slice sa sn sc) l) (hst : starL l = false) (hu : ku = true) (h0 : ¬ u = 0) : Calls Tryd.prog 69 #[.agg #[.string kt, .int .i64 kv, .bool ku, .bool ks, .slice sa sn sc], .int .i64 x, .agg #[.int .i64 u, .bool kn, .slice fa fn fc]] w fun e w' => e = .returned (.bool (hasB l u 4294967295)) ∧ Below w.heap.size w w' := by
  subst hu
  have q2 := two_below w (.cells #[.string kt, .int .i64 kv, .bool true, .bool ks, .slice sa sn sc] 78) (.cells #[.int .i64 u, .bool kn, .slice fa fn fc] 98)
  obtain ⟨Y, hY⟩ : ∃ Y, (w.alloc (.cells #[.string kt, .int .i64 kv, .bool true, .bool ks, .slice sa sn sc] 78)).alloc (.cells #[.int .i64 u, .bool kn, .slice fa fn fc] 98) = Y := ⟨_, rfl⟩
  have hz : Y.heap.size = w.heap.size + 1 + 1 := by rw [← hY]; simp
  rw [hY] at q2
  have r0 : Y.heap[w.heap.size]? = some (.cells #[.string kt, .int .i64 kv, .bool true, .bool ks, .slice sa sn sc] 78 (0, 0)) := by rw [← hY, Below.heap_alloc _ _ _ (by simp)]; exact heap_new _ _
  have r1 : Y.heap[w.heap.size + 1]? = some (.cells #[.int .i64 u, .bool kn, .slice fa fn fc] 98 (0, 0)) := by rw [← hY]; have := heap_new (w.alloc (.cells #[.string kt, .int .i64 kv, .bool true, .bool ks, .slice sa sn sc] 78)) (.cells #[.int .i64 u, .bool kn, .slice fa fn fc] 98); rw [show (w.alloc (.cells #[.string kt, .int .i64 kv, .bool true, .bool ks, .slice sa sn sc] 78)).heap.size = w.heap.size + 1 from by simp] at this; exact this
  have HX : Hid (∀ X, Below Y.heap.size Y X → X.cell? ⟨w.heap.size, 2, none⟩ = some (.bool true) ∧ X.cell? ⟨w.heap.size, 4, none⟩ = some (.slice sa sn sc) ∧ X.cell? ⟨w.heap.size + 1, 0, none⟩ = some (.int .i64 u)) := Lib.hid (fun X hX => ⟨cell_of (bel_at hX (by omega) r0) 2, cell_of (bel_at hX (by omega) r0) 4, cell_of (bel_at hX (by omega) r1) 0⟩)
  have HC : Hid (Calls Tryd.prog 75 #[.slice sa sn sc, .func (.func 74) #[] #[]] Y fun e w' => e = .returned (.bool (starL l)) ∧ Below Y.heap.size Y w') := Lib.hid (containsFunc_any 74 #[] (enters_of Tryd.func74 (by kernel_rfl) rfl) (fun p => p.1 == 0 || p.2 == 0) _ l Y (hset.on q2) (fun a b X _ => isStar_any a b X))
  have HHs : Hid (∀ z X, Below Y.heap.size Y X → Calls Tryd.prog 76 #[.slice sa sn sc, .int .i64 z, .int .i64 4294967295] X fun e w' => e = .returned (.bool (hasB l z 4294967295)) ∧ Below X.heap.size X w') := Lib.hid (fun z X hX => has_any _ l z 4294967295 X (hset.on (q2.trans (hX.mono q2.size))))
  have Q2 := Lib.hid q2
  have HY := Lib.hid hY
  obtain ⟨e0, e1, e2⟩ := HX.out Y (Below.refl _ _)
  clear hY hz r0 r1 hset q2
  rw [hst] at HC
  have n0 : (u == 0) = false := by simpa using h0
  clear hst
  go_enter Tryd.func69, Tryd.ntmps69
  go_upto_region 1 with fail
  rw [HY.out]
  clear HY
  go_wp2_with (first | (go_at_call 75; refine HC.out.mono ?_; rintro e w3 ⟨rfl, hb3⟩; obtain ⟨d0, d1, d2⟩ := HX.out _ hb3; have HB3 := Lib.hid hb3; clear hb3) | (go_at_call 76; refine (HHs.out _ _ HB3.out).mono ?_; rintro e w4 ⟨rfl, hb4⟩; have HB4 := Lib.hid hb4; clear hb4))
  go_ret
  exact ⟨rfl, Q2.out.trans ((HB3.out.trans (HB4.out.mono HB3.out.size)).mono Q2.out.size)⟩
theorem mayMean_any (kt : ByteArray) (kv : Int) (ku ks : Bool) (sa : Option Addr) (sn sc : Nat) (l : List Rg) (x u : Int) (kn : Bool) (fa : Option Addr) (fn fc : Nat) (w : World) (hset : Rgs w (.slice sa sn sc) l) : Calls Tryd.prog 69 #[.agg #[.string kt, .int .i64 kv, .bool ku, .bool ks, .slice sa sn sc], .int .i64 x, .agg #[.int .i64 u, .bool kn, .slice fa fn fc]] w fun e w' => e = .returned (.bool (starL l || (if ku then u == 0 || hasB l u 4294967295 else hasB l x 4294967295))) ∧ Below w.heap.size w w' := by
  cases hst : starL l with
  | true => exact mayMean_star kt kv ku ks sa sn sc l x u kn fa fn fc w hset hst
  | false =>
    cases hu : ku with
    | false => rw [Bool.false_or]; exact mayMean_num kt kv false ks sa sn sc l x u kn fa fn fc w hset hst rfl
    | true =>
      by_cases h0 : u = 0
      · subst h0
        exact mayMean_zero kt kv true ks sa sn sc l x 0 kn fa fn fc w hset hst rfl rfl
      · rw [if_pos rfl, show (u == 0) = false from by simpa using h0, Bool.false_or, Bool.false_or]
        exact mayMean_uid kt kv true ks sa sn sc l x u kn fa fn fc w hset hst rfl h0
end Go.Proofs.YtlmlbcnjohjnlaaDoor

/- mirror: what a silent STORE has turned is not known. -/
namespace Go.Proofs.YtlmlbcnjohjnlaaDoor
open Go.RowKit

def meanI (c : PA) (x u : Int) : Bool := starL c.set || (if c.uid then u == 0 || hasB c.set u 4294967295 else hasB c.set x 4294967295)
def fgOne (c : PA) (i : Nat) (r : RW) : RW := if (r.kn && meanI c ((i : Int) + 1) r.uid) = true then ⟨r.uid, false, .slice none 0 0⟩ else r
def fgW (c : PA) : Nat → List RW → List RW
  | _, [] => []
  | i, r :: l => fgOne c i r :: fgW c (i + 1) l
theorem fgW_len (c : PA) : ∀ (l : List RW) (i : Nat), (fgW c i l).length = l.length
  | [], _ => rfl
  | _ :: l, i => by simp [fgW, fgW_len c l]
theorem fgW_get (c : PA) : ∀ (l : List RW) (i j : Nat), (fgW c i l)[j]? = (l[j]?).map (fgOne c (i + j))
  | [], _, _ => by simp [fgW]
  | r :: l, i, 0 => by simp [fgW]
  | r :: l, i, j + 1 => by
    rw [fgW, List.getElem?_cons_succ, List.getElem?_cons_succ, fgW_get c l (i + 1) j, show i + 1 + j = i + (j + 1) from by omega]
theorem forgetL_len (c : PA) : ∀ (l : List PR) (i : Nat), (forgetL c i l).length = l.length
  | [], _ => rfl
  | _ :: l, i => by simp [forgetL, forgetL_len c l]
theorem fg_all {fr : List Nat} {X : World} (c : PA) : ∀ {rs : List RW} {L : List PR} (i : Nat), All2 (RWin fr X) rs L → All2 (RWin fr X) (fgW c i rs) (forgetL c i L)
  | [], [], _, _ => trivial
  | r :: rs, p :: L, i, h => by
    refine ⟨?_, fg_all c (i + 1) h.2⟩
    have hb : (r.kn && meanI c ((i : Int) + 1) r.uid) = (p.kn && meanA c ((i : Int) + 1) p) := by rw [h.1.kn, h.1.uid]; rfl
    unfold fgOne
    rw [hb]
    cases (p.kn && meanA c ((i : Int) + 1) p) with
    | true => exact ⟨h.1.uid, rfl, StrsIn.nil⟩
    | false => exact h.1
theorem Tryd.sizeRw : (Tryd.prog.info? 98).map (·.size) = some 3 := by kernel_rfl
theorem rwL_get (rs : List RW) (k : Nat) (r : RW) (h : rs[k]? = some r) : (rwL rs)[k * 3]? = some (.int .i64 r.uid) ∧ (rwL rs)[k * 3 + 1]? = some (.bool r.kn) ∧ (rwL rs)[k * 3 + 2]? = some r.fv := by
  have f := flat_get rwC 3 (fun _ => rfl) rs k
  exact ⟨f 0 r h (by omega), f 1 r h (by omega), f 2 r h (by omega)⟩
theorem rwL_set (r : RW) : ∀ (rs : List RW) (k : Nat), k < rs.length → (((rwL rs).set (k * 3) (.int .i64 r.uid)).set (k * 3 + 1) (.bool r.kn)).set (k * 3 + 2) r.fv = rwL (rs.set k r)
  | [], _, h => by simp at h
  | s :: rs, 0, _ => by simp [rwL, rwC]
  | s :: rs, k + 1, h => by
    have hr : ∀ (a : RW) l, rwL (a :: l) = .int .i64 a.uid :: .bool a.kn :: a.fv :: rwL l := fun a l => by simp [rwL, rwC]
    rw [List.set_cons_succ, hr, hr, ← rwL_set r rs k (by simpa using h), show (k + 1) * 3 = k * 3 + 3 from by omega]
    simp
theorem RowAt.put3 {X : World} {g o n c k : Nat} {cs : List RW} (h : RowAt X 98 3 (.slice (some ⟨g, o, none⟩) n c) n (rwL cs)) (hk : k < n) (r : RW) :
    RowAt (((X.setCell ⟨g, o + k * 3, none⟩ (.int .i64 r.uid)).setCell ⟨g, o + k * 3 + 1, none⟩ (.bool r.kn)).setCell ⟨g, o + k * 3 + 2, none⟩ r.fv) 98 3 (.slice (some ⟨g, o, none⟩) n c) n (rwL (cs.set k r)) := by
  have hl := h.1
  rw [rwL_len] at hl
  rcases h.2 with ⟨e, _⟩ | ⟨g', o', cap, cur, e, hg, hnc, hs, htk⟩
  · cases e
  · injection e with e1 e2 e3
    injection e1 with e1
    injection e1 with e1 e4
    subst e1 e3 e4
    refine ⟨by rw [rwL_len, List.length_set]; omega, .inr ⟨g, o, c, _, rfl, heap_setCell_at _ (heap_setCell_at _ (heap_setCell_at _ hg)), hnc, by simpa using hs, ?_⟩⟩
    rw [← rwL_set r cs k (by omega), ← htk]
    simp only [Array.toList_setIfInBounds]
    rw [List.drop_set, List.drop_set, List.drop_set, if_neg (by omega), if_neg (by omega), if_neg (by omega), show o + k * 3 - o = k * 3 from by omega, show o + k * 3 + 1 - o = k * 3 + 1 from by omega, show o + k * 3 + 2 - o = k * 3 + 2 from by omega, List.take_set, List.take_set, List.take_set]
theorem RgsIn.rgs {fr : List Nat} {X : World} {v : Value} {l : List Rg} (h : RgsIn fr X v l) (hl : l.length ≤ 1000000) : Rgs X v l := by
  obtain ⟨a, c, rfl, hn, h⟩ := h
  by_cases h0 : l.length = 0
  · obtain rfl := List.eq_nil_of_length_eq_zero h0
    exact .inl ⟨rfl, a, c, rfl, hn⟩
  · obtain ⟨g, o, cs, rfl, hg, hh, hc⟩ := h (by omega)
    exact .inr ⟨g, o, c, rfl, by omega, lt_of_heap hh, fun i hi => by rw [cell_of hh, cell_of hh]; exact hc i hi⟩
/-- As far as k rows. -/
structure FG (c : PA) (P g o rn rc : Nat) (AO MO : Obj) (rs : List RW) (w : World) (k : Nat) (X : World) : Prop where
  st : Stays [g] w X
  ak : X.heap[w.heap.size]? = some AO
  rows : ∃ cs, RowAt X 98 3 (.slice (some ⟨g, o, none⟩) rn rc) rn (rwL cs) ∧ (∀ j, j < k → cs[j]? = (fgW c 0 rs)[j]?) ∧ ∀ j, k ≤ j → cs[j]? = rs[j]?
theorem FG.next {c : PA} {P g o rn rc k : Nat} {AO MO : Obj} {rs : List RW} {w X Z : World} {r : RW} (h : FG c P g o rn rc AO MO rs w k X) (hb : Below X.heap.size X Z) (hr : rs[k]? = some r) (hf : fgOne c k r = r) : FG c P g o rn rc AO MO rs w (k + 1) Z := by
  obtain ⟨cs, h1, h2, h3⟩ := h.rows
  refine ⟨h.st.trans (Stays.ofBelow (fp := [g]) hb) (fun _ e => .inl e), bel_at hb (lt_of_heap h.ak) h.ak, cs, h1.same (fun b e => hb.block b (h1.lt e)), fun j hj => ?_, fun j hj => h3 j (by omega)⟩
  by_cases hjk : j < k
  · exact h2 j hjk
  · obtain rfl : j = k := by omega
    rw [h3 _ (Nat.le_refl _), fgW_get, hr, Nat.zero_add]
    simp [hf]
theorem FG.put {c : PA} {P g o rn rc k : Nat} {AO MO : Obj} {rs : List RW} {w X X4 : World} {r : RW} (h : FG c P g o rn rc AO MO rs w k X) (hb : Below X.heap.size X X4) (hr : rs[k]? = some r) (hf : (r.kn && meanI c ((k : Int) + 1) r.uid) = true) (hk : k < rn) (hgw : g < w.heap.size) :
    FG c P g o rn rc AO MO rs w (k + 1) (((X4.setCell ⟨g, o + k * 3, none⟩ (.int .i64 r.uid)).setCell ⟨g, o + k * 3 + 1, none⟩ (.bool false)).setCell ⟨g, o + k * 3 + 2, none⟩ (.slice none 0 0)) := by
  obtain ⟨cs, h1, h2, h3⟩ := h.rows
  have h4 := h1.same (w' := X4) (fun b e => hb.block b (h1.lt e))
  have hl := h1.1
  rw [rwL_len] at hl
  have hwg : w.heap.size ≠ g := by omega
  refine ⟨(((h.st.trans (Stays.ofBelow (fp := [g]) hb) (fun _ e => .inl e)).setCell (.inl (by simp)) _).setCell (.inl (by simp)) _).setCell (.inl (by simp)) _, ?_, cs.set k ⟨r.uid, false, .slice none 0 0⟩, h4.put3 hk ⟨r.uid, false, .slice none 0 0⟩, fun j hj => ?_, fun j hj => ?_⟩
  · rw [Below.heap_setCell _ _ _ _ (show w.heap.size ≠ (⟨g, o + k * 3 + 2, none⟩ : Addr).block from hwg), Below.heap_setCell _ _ _ _ (show w.heap.size ≠ (⟨g, o + k * 3 + 1, none⟩ : Addr).block from hwg), Below.heap_setCell _ _ _ _ (show w.heap.size ≠ (⟨g, o + k * 3, none⟩ : Addr).block from hwg)]
    exact bel_at hb (lt_of_heap h.ak) h.ak
  · by_cases hjk : j < k
    · rw [List.getElem?_set_ne (by omega)]
      exact h2 j hjk
    · obtain rfl : j = k := by omega
      rw [List.getElem?_set_self (by omega), fgW_get, hr, Nat.zero_add]
      simp [fgOne, hf]
  · rw [List.getElem?_set_ne (by omega)]
    exact h3 j (by omega)
theorem FG.drew {c : PA} {P g o rn rc k : Nat} {AO MO : Obj} {rs : List RW} {w X : World} (h : FG c P g o rn rc AO MO rs w k X) : FG c P g o rn rc AO MO rs w k X.drew := by
  obtain ⟨cs, h1, h2⟩ := h.rows
  exact ⟨h.st.drew, h.ak, cs, (h1 : RowAt X.drew _ _ _ _ _), h2⟩
def FgOut (c : PA) (rows : Value) (rn : Nat) (rs : List RW) (w : World) (e : Ending) (w' : World) : Prop := e = .returned (.tuple #[]) ∧ Stays rows.ownBlock.toList w w' ∧ RowAt w' 98 3 rows rn (rwL (fgW c 0 rs))
set_option maxRecDepth 20000 in
set_option maxHeartbeats 4000000 in
theorem forget_any (P : Nat) (fr : List Nat) (q : Value) (sel : Bool) (v n h : Int) (rows : Value) (rn : Nat) (was : Value) (bg : Bool) (rs : List RW) (c : PA) (kt : ByteArray) (kv : Int) (ku ks : Bool) (sa : Option Addr) (sn sc : Nat) (w : World) (hku : ku = c.uid) (hset : RgsIn fr w (.slice sa sn sc) c.set) (hl : c.set.length ≤ 1000000) (hM : w.heap[P]? = some (mirO q sel v n h rows was bg)) (hR : RowAt w 98 3 rows rn (rwL rs)) (hfv : ∀ r ∈ rs, ∃ a b d, r.fv = .slice a b d) (hn : rn ≤ 1000000) :
    Calls Tryd.prog 58 #[.pointer (some ⟨P, 1, none⟩), .agg #[.string kt, .int .i64 kv, .bool ku, .bool ks, .slice sa sn sc]] w (FgOut c rows rn rs w) := by
  obtain ⟨W0, hW0⟩ : ∃ W0, w.alloc (.cells #[.string kt, .int .i64 kv, .bool ku, .bool ks, .slice sa sn sc] 78) = W0 := ⟨_, rfl⟩
  have b0 : Below w.heap.size w W0 := by rw [← hW0]; exact (Below.refl _ _).alloc (Nat.le_refl _) _
  have r0 : W0.heap[w.heap.size]? = some (.cells #[.string kt, .int .i64 kv, .bool ku, .bool ks, .slice sa sn sc] 78 (0, 0)) := by rw [← hW0]; exact heap_new _ _
  have hMl := lt_of_heap hM
  have hrl := hR.1
  rw [rwL_len] at hrl
  by_cases h0 : rn = 0
  · subst h0
    obtain ⟨a, cp, rfl⟩ := hR.shape
    have m5 := (mir_cells (bel_at b0 hMl hM)).c5
    have FIN : Hid (FgOut c (.slice a 0 cp) 0 rs w (.returned (.tuple #[])) W0) := Lib.hid (by
      refine ⟨rfl, Stays.ofBelow b0, ?_⟩
      obtain rfl := List.eq_nil_of_length_eq_zero (show rs.length = 0 by omega)
      exact hR.same (fun b e => b0.block b (hR.lt e)))
    have HW0 := Lib.hid hW0
    clear hW0 b0 r0 hM hR hset hrl hMl hfv hku hl
    go_enter Tryd.func58, Tryd.ntmps58
    go_upto_region 1 with fail
    rw [HW0.out]
    clear HW0
    go_wp2_with fail
    refine wp_loop_rounds 1 ?_
    rw [rounds_succ]
    go_wp2_with fail
    first | refine bodyPost_end (results_none rfl _ _ _) rfl ?_ | refine bodyPost_ret (results_none rfl _ _ _) rfl ?_
    exact FIN.out
  · obtain ⟨g, o, rc, rfl, hcp, hgl, _⟩ := hR.cell (by omega)
    have hgP : P ≠ g := by
      obtain ⟨cs, hc⟩ := hR.kind (b := g) rfl
      exact kind_ne hM hc (by decide)
    have hst : FG c P g o rn rc (.cells #[.string kt, .int .i64 kv, .bool ku, .bool ks, .slice sa sn sc] 78 (0, 0)) (mirO q sel v n h (.slice (some ⟨g, o, none⟩) rn rc) was bg) rs w 0 W0 := ⟨Stays.ofBelow b0, r0, rs, hR.same (fun b e => b0.block b (hR.lt e)), fun j hj => absurd hj (Nat.not_lt_zero _), fun _ _ => rfl⟩
    have HM : Hid (∀ X, Stays [g] w X → X.heap[P]? = some (mirO q sel v n h (.slice (some ⟨g, o, none⟩) rn rc) was bg)) := Lib.hid (fun X hX => by rw [hX.block P hMl (by simpa using hgP)]; exact hM)
    have HRg : Hid (∀ X, Stays [g] w X → Rgs X (.slice sa sn sc) c.set) := Lib.hid (fun X hX => (hset.kt (ts := [98]) (fr' := fr) (KeepT.of hX (fun b hb => by
      simp at hb
      subst hb
      obtain ⟨cs, hc⟩ := hR.kind (b := b) rfl
      exact ⟨cs, _, _, hc, by simp⟩)) (by decide) (fun _ e => e)).rgs hl)
    have HFv := Lib.hid hfv
    have HGl := Lib.hid hgl
    have HRl := Lib.hid hrl
    have HKu := Lib.hid hku
    have HN := Lib.hid (And.intro hn h0)
    have m5 := (mir_cells (bel_at b0 hMl hM)).c5
    have HW0 := Lib.hid hW0
    have HST := Lib.hid hst
    clear hW0 b0 r0 hM hR hset hrl hMl hfv hku hl hst hgl hgP hn h0 hcp
    go_enter Tryd.func58, Tryd.ntmps58
    go_upto_region 1 with fail
    rw [HW0.out]
    clear HW0
    go_wp2_with fail
    clear m5
    go_loopw [11] (fun i wr => ∃ (k : Nat) (X : World), X = wr ∧ i = .int .i64 k ∧ k ≤ rn ∧ FG c P g o rn rc (.cells #[.string kt, .int .i64 kv, .bool ku, .bool ks, .slice sa sn sc] 78 (0, 0)) (mirO q sel v n h (.slice (some ⟨g, o, none⟩) rn rc) was bg) rs w k X) (fun i _ => rn - (intOf i).toNat)
    case atStart => exact ⟨0, _, rfl, rfl, Nat.zero_le _, HST.out⟩
    case round =>
      obtain ⟨k, X, rfl, rfl, hk, hG⟩ := hrel
      have HG := Lib.hid hG
      clear hG
      by_cases hlt : k < rn
      · have hlti : (k : Int) < (rn : Int) := by omega
        have hkb : (rn : Int) ≤ 1000000 := by have := HN.out.1; omega
        have hk0 : (0 : Int) ≤ (k : Int) := by omega
        obtain ⟨r, hr⟩ : ∃ r, rs[k]? = some r := ⟨rs[k]'(by have := HRl.out; omega), List.getElem?_eq_getElem _⟩
        obtain ⟨fa, fn, fc, hfe⟩ := HFv.out r (List.mem_of_getElem? hr)
        obtain ⟨ru, rk, rf⟩ := r
        simp only at hfe
        subst hfe
        obtain ⟨cs, hrow, _, hcs⟩ := HG.out.rows
        have hck : cs[k]? = some ⟨ru, rk, .slice fa fn fc⟩ := (hcs k (Nat.le_refl _)).trans hr
        obtain ⟨g', o', rc', hge, _, _, hcell⟩ := hrow.cell (by omega)
        injection hge with e1 e2 e3
        injection e1 with e1
        injection e1 with e1 e4
        subst e1 e3 e4
        obtain ⟨l0, l1, l2⟩ := rwL_get cs k _ hck
        have d0 : X.cell? ⟨g, o + k * 3, none⟩ = some (.int .i64 ru) := by rw [hcell _ (by omega)]; exact l0
        have d1 : X.cell? ⟨g, o + k * 3 + 1, none⟩ = some (.bool rk) := by rw [Nat.add_assoc, hcell _ (by omega)]; exact l1
        have d2 : X.cell? ⟨g, o + k * 3 + 2, none⟩ = some (.slice fa fn fc) := by rw [Nat.add_assoc, hcell _ (by omega)]; exact l2
        obtain ⟨cur, hgk⟩ := hrow.kind (b := g) rfl
        obtain ⟨X1, hX1⟩ : ∃ X1, X.alloc (.cells #[.int .i64 ru, .bool rk, .slice fa fn fc] 98) = X1 := ⟨_, rfl⟩
        have b1 : Below X.heap.size X X1 := by rw [← hX1]; exact (Below.refl _ _).alloc (Nat.le_refl _) _
        have r1 : X1.heap[X.heap.size]? = some (.cells #[.int .i64 ru, .bool rk, .slice fa fn fc] 98 (0, 0)) := by rw [← hX1]; exact heap_new _ _
        have HX1 := Lib.hid hX1
        have HB1 := Lib.hid b1
        have f1 : X1.cell? ⟨X.heap.size, 1, none⟩ = some (.bool rk) := cell_of r1 1
        have HRr : Hid (∀ Z, Below X1.heap.size X1 Z → Z.rangeAt X.heap.size 0 [.int .i64 ru, .bool rk, .slice fa fn fc] ∧ Z.rangeAt w.heap.size 0 [.string kt, .int .i64 kv, .bool ku, .bool ks, .slice sa sn sc]) := Lib.hid (fun Z hZ => ⟨box_range (z := 3) (cs := [.int .i64 ru, .bool rk, .slice fa fn fc]) (bel_at hZ (lt_of_heap r1) r1) 0, box_range (z := 5) (cs := [.string kt, .int .i64 kv, .bool ku, .bool ks, .slice sa sn sc]) (bel_at (b1.trans (hZ.mono b1.size)) (lt_of_heap HG.out.ak) HG.out.ak) 0⟩)
        have HMM : Hid (Calls Tryd.prog 69 #[.agg #[.string kt, .int .i64 kv, .bool ku, .bool ks, .slice sa sn sc], .int .i64 ((k : Int) + 1), .agg #[.int .i64 ru, .bool rk, .slice fa fn fc]] X1 fun e w' => e = .returned (.bool (meanI c ((k : Int) + 1) ru)) ∧ Below X1.heap.size X1 w') := Lib.hid (by
          have := mayMean_any kt kv ku ks sa sn sc c.set ((k : Int) + 1) ru rk fa fn fc X1 ((HRg.out X HG.out.st).on b1)
          rw [HKu.out] at this ⊢
          exact this)
        have HNx : Hid (∀ Z, Below X.heap.size X Z → (rk && meanI c ((k : Int) + 1) ru) = false → FG c P g o rn rc (.cells #[.string kt, .int .i64 kv, .bool ku, .bool ks, .slice sa sn sc] 78 (0, 0)) (mirO q sel v n h (.slice (some ⟨g, o, none⟩) rn rc) was bg) rs w (k + 1) Z) := Lib.hid (fun Z hZ hm => HG.out.next hZ hr (by unfold fgOne; rw [if_neg (by rw [hm]; decide)]))
        have HPt : Hid (∀ X4, Below X.heap.size X X4 → (rk && meanI c ((k : Int) + 1) ru) = true → FG c P g o rn rc (.cells #[.string kt, .int .i64 kv, .bool ku, .bool ks, .slice sa sn sc] 78 (0, 0)) (mirO q sel v n h (.slice (some ⟨g, o, none⟩) rn rc) was bg) rs w (k + 1) (((X4.setCell ⟨g, o + k * 3, none⟩ (.int .i64 ru)).setCell ⟨g, o + k * 3 + 1, none⟩ (.bool false)).setCell ⟨g, o + k * 3 + 2, none⟩ (.slice none 0 0))) := Lib.hid (fun X4 h4 hm => HG.out.put (r := ⟨ru, rk, .slice fa fn fc⟩) h4 hr hm hlt HGl.out)
        have HC4 : Hid (∀ X4, Below X.heap.size X X4 → X4.cell? ⟨P, 5, none⟩ = some (.slice (some ⟨g, o, none⟩) rn rc) ∧ X4.heap[g]? = some (.cells cur 98 (0, 0)) ∧ X4.cell? ⟨g, o + k * 3, none⟩ = some (.int .i64 ru) ∧ X4.cell? ⟨g, o + k * 3 + 1, none⟩ = some (.bool rk) ∧ X4.cell? ⟨g, o + k * 3 + 2, none⟩ = some (.slice fa fn fc)) := Lib.hid (fun X4 h4 => by
          have hP4 := HM.out X HG.out.st
          have gl := lt_of_heap hgk
          exact ⟨(mir_cells (bel_at h4 (lt_of_heap hP4) hP4)).c5, bel_at h4 gl hgk, by rw [h4.cell (p := ⟨g, o + k * 3, none⟩) gl]; exact d0, by rw [h4.cell (p := ⟨g, o + k * 3 + 1, none⟩) gl]; exact d1, by rw [h4.cell (p := ⟨g, o + k * 3 + 2, none⟩) gl]; exact d2⟩)
        have HRu : Hid (∀ Z, Below X1.heap.size X1 Z → Z.cell? ⟨X.heap.size, 0, none⟩ = some (.int .i64 ru)) := Lib.hid (fun Z hZ => cell_of (bel_at hZ (lt_of_heap r1) r1) 0)
        clear hX1 b1 r1 hrow hcs hck hcell l0 l1 l2 hgk hr
        go_upto_region 4 with fail
        rw [HX1.out]
        clear HX1 d0 d1 d2
        cases rk with
        | false =>
          go_wp2_with fail
          go_roundw
          case rel => exact ⟨k + 1, _, rfl, by go_num, by omega, HNx.out _ HB1.out (by simp)⟩
          case measure => simp [intOf]; omega
        | true =>
          obtain ⟨mb, hmb⟩ : ∃ mb, meanI c ((k : Int) + 1) ru = mb := ⟨_, rfl⟩
          rw [hmb] at HMM HNx HPt
          have BR := Lib.hid (Below.refl X1.heap.size X1)
          cases mb with
          | false =>
            go_wp2_with (first | (refine wpList_load_mid_g (by kernel_rfl) 78 _ rfl w.heap.size 0 rfl [.string kt, .int .i64 kv, .bool ku, .bool ks, .slice sa sn sc] _ (HRr.out _ BR.out).2 Tryd.underlying78 rfl Tryd.sizeAk ?_) | (refine wpList_load_mid_g (by kernel_rfl) 98 _ rfl X.heap.size 0 rfl [.int .i64 ru, .bool true, .slice fa fn fc] _ (HRr.out _ BR.out).1 Tryd.underlying98 rfl Tryd.sizeRw ?_) | (go_at_call 69; refine HMM.out.mono ?_; rintro e w4 ⟨rfl, hb4⟩; have HB4 := Lib.hid hb4; clear hb4))
            go_roundw
            case rel => exact ⟨k + 1, _, rfl, by go_num, by omega, HNx.out _ (HB1.out.trans (HB4.out.mono HB1.out.size)) (by simp)⟩
            case measure => simp [intOf]; omega
          | true =>
            go_upto_region 5 with (first | (refine wpList_load_mid_g (by kernel_rfl) 78 _ rfl w.heap.size 0 rfl [.string kt, .int .i64 kv, .bool ku, .bool ks, .slice sa sn sc] _ (HRr.out _ BR.out).2 Tryd.underlying78 rfl Tryd.sizeAk ?_) | (refine wpList_load_mid_g (by kernel_rfl) 98 _ rfl X.heap.size 0 rfl [.int .i64 ru, .bool true, .slice fa fn fc] _ (HRr.out _ BR.out).1 Tryd.underlying98 rfl Tryd.sizeRw ?_) | (go_at_call 69; refine HMM.out.mono ?_; rintro e w4 ⟨rfl, hb4⟩; have HB4 := Lib.hid hb4; clear hb4))
            have hb4 := HB1.out.trans (HB4.out.mono HB1.out.size)
            obtain ⟨p5, pg, p0, p1, p2⟩ := HC4.out _ hb4
            have pu := HRu.out _ HB4.out
            have z0 := frozen_of pg (o + k * 3)
            have z1 := frozen_of pg (o + k * 3 + 1)
            have z2 := frozen_of pg (o + k * 3 + 2)
            have HB5 := Lib.hid hb4
            clear hb4 pg f1
            refine wp_region_N 9 (fun X => X = w4.drew) (by kernel_rfl) ?_
            refine wpAnyN_take (i := 0) (oi := { dst := some 25, op := Go.Op.move (Go.Operand.tmp 0), type := 96, pos := "picture.go:54", after := #[], guard := none }) (oL := { dst := none, op := Go.Op.store 98 (Go.Operand.tmp 33) (Go.Operand.tmp 32), type := 0, pos := "picture.go:54", after := #[{ on := 8, ground := Go.Ground.data }, { on := 7, ground := Go.Ground.data }, { on := 0, ground := Go.Ground.phase }, { on := 1, ground := Go.Ground.phase }, { on := 2, ground := Go.Ground.phase }, { on := 3, ground := Go.Ground.phase }, { on := 4, ground := Go.Ground.phase }, { on := 5, ground := Go.Ground.phase }, { on := 6, ground := Go.Ground.phase }, { on := 7, ground := Go.Ground.phase }], guard := none }) (v := .pointer (some ⟨P, 1, none⟩)) rfl rfl (by kernel_rfl) (by kernel_rfl) (by kernel_rfl) (by kernel_rfl) (fun _ _ _ h => h) (Or.inl ⟨by kernel_rfl, ?_⟩) rfl ?_
            · (intro X hX; subst hX <;> (go_simp; try (with_reducible rfl)))
            (try simp only [Act.put, List.setIfInBounds_toArray, List.set_cons_zero, List.set_cons_succ])
            refine wpAnyN_take (i := 1) (oi := { dst := some 26, op := Go.Op.nilCheck (Go.Operand.tmp 25), type := 0, pos := "picture.go:54", after := #[{ on := 0, ground := Go.Ground.data }], guard := none }) (oL := { dst := none, op := Go.Op.store 98 (Go.Operand.tmp 33) (Go.Operand.tmp 32), type := 0, pos := "picture.go:54", after := #[{ on := 8, ground := Go.Ground.data }, { on := 7, ground := Go.Ground.data }, { on := 0, ground := Go.Ground.phase }, { on := 1, ground := Go.Ground.phase }, { on := 2, ground := Go.Ground.phase }, { on := 3, ground := Go.Ground.phase }, { on := 4, ground := Go.Ground.phase }, { on := 5, ground := Go.Ground.phase }, { on := 6, ground := Go.Ground.phase }, { on := 7, ground := Go.Ground.phase }], guard := none }) (v := .pointer (some ⟨P, 1, none⟩)) rfl rfl (by kernel_rfl) (by kernel_rfl) (by kernel_rfl) (by kernel_rfl) (fun _ _ _ h => h) (Or.inl ⟨by kernel_rfl, ?_⟩) rfl ?_
            · (intro X hX; subst hX <;> (go_simp; try (with_reducible rfl)))
            (try simp only [Act.put, List.setIfInBounds_toArray, List.set_cons_zero, List.set_cons_succ])
            refine wpAnyN_take (i := 2) (oi := { dst := some 27, op := Go.Op.fieldAddr 73 (Go.Operand.tmp 26) 4, type := 0, pos := "picture.go:54", after := #[{ on := 1, ground := Go.Ground.data }], guard := none }) (oL := { dst := none, op := Go.Op.store 98 (Go.Operand.tmp 33) (Go.Operand.tmp 32), type := 0, pos := "picture.go:54", after := #[{ on := 8, ground := Go.Ground.data }, { on := 7, ground := Go.Ground.data }, { on := 0, ground := Go.Ground.phase }, { on := 1, ground := Go.Ground.phase }, { on := 2, ground := Go.Ground.phase }, { on := 3, ground := Go.Ground.phase }, { on := 4, ground := Go.Ground.phase }, { on := 5, ground := Go.Ground.phase }, { on := 6, ground := Go.Ground.phase }, { on := 7, ground := Go.Ground.phase }], guard := none }) (v := .pointer (some ⟨P, 5, none⟩)) rfl rfl (by kernel_rfl) (by kernel_rfl) (by kernel_rfl) (by kernel_rfl) (fun _ _ _ h => h) (Or.inl ⟨by kernel_rfl, ?_⟩) rfl ?_
            · (intro X hX; subst hX <;> (go_simp; try (with_reducible rfl)))
            (try simp only [Act.put, List.setIfInBounds_toArray, List.set_cons_zero, List.set_cons_succ])
            refine wpAnyN_take (i := 3) (oi := { dst := some 28, op := Go.Op.load 70 (Go.Operand.tmp 27), type := 70, pos := "picture.go:54", after := #[{ on := 2, ground := Go.Ground.data }], guard := none }) (oL := { dst := none, op := Go.Op.store 98 (Go.Operand.tmp 33) (Go.Operand.tmp 32), type := 0, pos := "picture.go:54", after := #[{ on := 8, ground := Go.Ground.data }, { on := 7, ground := Go.Ground.data }, { on := 0, ground := Go.Ground.phase }, { on := 1, ground := Go.Ground.phase }, { on := 2, ground := Go.Ground.phase }, { on := 3, ground := Go.Ground.phase }, { on := 4, ground := Go.Ground.phase }, { on := 5, ground := Go.Ground.phase }, { on := 6, ground := Go.Ground.phase }, { on := 7, ground := Go.Ground.phase }], guard := none }) (v := .slice (some ⟨g, o, none⟩) rn rc) rfl rfl (by kernel_rfl) (by kernel_rfl) (by kernel_rfl) (by kernel_rfl) (fun _ _ _ h => h) (Or.inl ⟨by kernel_rfl, ?_⟩) rfl ?_
            · (intro X hX; subst hX <;> (go_simp; try (with_reducible rfl)))
            (try simp only [Act.put, List.setIfInBounds_toArray, List.set_cons_zero, List.set_cons_succ])
            refine wpAnyN_take (i := 4) (oi := { dst := some 29, op := Go.Op.move (Go.Operand.tmp 4), type := 3, pos := "picture.go:54", after := #[], guard := none }) (oL := { dst := none, op := Go.Op.store 98 (Go.Operand.tmp 33) (Go.Operand.tmp 32), type := 0, pos := "picture.go:54", after := #[{ on := 8, ground := Go.Ground.data }, { on := 7, ground := Go.Ground.data }, { on := 0, ground := Go.Ground.phase }, { on := 1, ground := Go.Ground.phase }, { on := 2, ground := Go.Ground.phase }, { on := 3, ground := Go.Ground.phase }, { on := 4, ground := Go.Ground.phase }, { on := 5, ground := Go.Ground.phase }, { on := 6, ground := Go.Ground.phase }, { on := 7, ground := Go.Ground.phase }], guard := none }) (v := .int .i64 (k : Int)) rfl rfl (by kernel_rfl) (by kernel_rfl) (by kernel_rfl) (by kernel_rfl) (fun _ _ _ h => h) (Or.inl ⟨by kernel_rfl, ?_⟩) rfl ?_
            · (intro X hX; subst hX <;> (go_simp; try (with_reducible rfl)))
            (try simp only [Act.put, List.setIfInBounds_toArray, List.set_cons_zero, List.set_cons_succ])
            refine wpAnyN_take (i := 5) (oi := { dst := some 30, op := Go.Op.fieldAddr 98 (Go.Operand.tmp 5) 0, type := 0, pos := "picture.go:54", after := #[], guard := none }) (oL := { dst := none, op := Go.Op.store 98 (Go.Operand.tmp 33) (Go.Operand.tmp 32), type := 0, pos := "picture.go:54", after := #[{ on := 8, ground := Go.Ground.data }, { on := 7, ground := Go.Ground.data }, { on := 0, ground := Go.Ground.phase }, { on := 1, ground := Go.Ground.phase }, { on := 2, ground := Go.Ground.phase }, { on := 3, ground := Go.Ground.phase }, { on := 4, ground := Go.Ground.phase }, { on := 5, ground := Go.Ground.phase }, { on := 6, ground := Go.Ground.phase }, { on := 7, ground := Go.Ground.phase }], guard := none }) (v := .pointer (some ⟨X.heap.size, 0, none⟩)) rfl rfl (by kernel_rfl) (by kernel_rfl) (by kernel_rfl) (by kernel_rfl) (fun _ _ _ h => h) (Or.inl ⟨by kernel_rfl, ?_⟩) rfl ?_
            · (intro X hX; subst hX <;> (go_simp; try (with_reducible rfl)))
            (try simp only [Act.put, List.setIfInBounds_toArray, List.set_cons_zero, List.set_cons_succ])
            refine wpAnyN_take (i := 6) (oi := { dst := some 31, op := Go.Op.load 3 (Go.Operand.tmp 30), type := 3, pos := "picture.go:54", after := #[{ on := 5, ground := Go.Ground.data }], guard := none }) (oL := { dst := none, op := Go.Op.store 98 (Go.Operand.tmp 33) (Go.Operand.tmp 32), type := 0, pos := "picture.go:54", after := #[{ on := 8, ground := Go.Ground.data }, { on := 7, ground := Go.Ground.data }, { on := 0, ground := Go.Ground.phase }, { on := 1, ground := Go.Ground.phase }, { on := 2, ground := Go.Ground.phase }, { on := 3, ground := Go.Ground.phase }, { on := 4, ground := Go.Ground.phase }, { on := 5, ground := Go.Ground.phase }, { on := 6, ground := Go.Ground.phase }, { on := 7, ground := Go.Ground.phase }], guard := none }) (v := .int .i64 ru) rfl rfl (by kernel_rfl) (by kernel_rfl) (by kernel_rfl) (by kernel_rfl) (fun _ _ _ h => h) (Or.inl ⟨by kernel_rfl, ?_⟩) rfl ?_
            · (intro X hX; subst hX <;> (go_simp; try (with_reducible rfl)))
            (try simp only [Act.put, List.setIfInBounds_toArray, List.set_cons_zero, List.set_cons_succ])
            refine wpAnyN_take (i := 7) (oi := { dst := some 32, op := Go.Op.build 98 #[(0, Go.Operand.tmp 31)], type := 98, pos := "picture.go:54", after := #[{ on := 6, ground := Go.Ground.data }], guard := none }) (oL := { dst := none, op := Go.Op.store 98 (Go.Operand.tmp 33) (Go.Operand.tmp 32), type := 0, pos := "picture.go:54", after := #[{ on := 8, ground := Go.Ground.data }, { on := 7, ground := Go.Ground.data }, { on := 0, ground := Go.Ground.phase }, { on := 1, ground := Go.Ground.phase }, { on := 2, ground := Go.Ground.phase }, { on := 3, ground := Go.Ground.phase }, { on := 4, ground := Go.Ground.phase }, { on := 5, ground := Go.Ground.phase }, { on := 6, ground := Go.Ground.phase }, { on := 7, ground := Go.Ground.phase }], guard := none }) (v := .agg #[.int .i64 ru, .bool false, .slice none 0 0]) rfl rfl (by kernel_rfl) (by kernel_rfl) (by kernel_rfl) (by kernel_rfl) (fun _ _ _ h => h) (Or.inl ⟨by kernel_rfl, ?_⟩) rfl ?_
            · (intro X hX; subst hX <;> (go_simp; try (with_reducible rfl)))
            (try simp only [Act.put, List.setIfInBounds_toArray, List.set_cons_zero, List.set_cons_succ])
            refine wpAnyN_take (i := 8) (oi := { dst := some 33, op := Go.Op.indexAddr 70 (Go.Operand.tmp 28) (Go.Operand.tmp 29), type := 0, pos := "picture.go:54", after := #[{ on := 3, ground := Go.Ground.data }, { on := 4, ground := Go.Ground.data }, { on := 0, ground := Go.Ground.phase }, { on := 1, ground := Go.Ground.phase }, { on := 2, ground := Go.Ground.phase }, { on := 3, ground := Go.Ground.phase }, { on := 4, ground := Go.Ground.phase }, { on := 5, ground := Go.Ground.phase }, { on := 6, ground := Go.Ground.phase }, { on := 7, ground := Go.Ground.phase }], guard := none }) (oL := { dst := none, op := Go.Op.store 98 (Go.Operand.tmp 33) (Go.Operand.tmp 32), type := 0, pos := "picture.go:54", after := #[{ on := 8, ground := Go.Ground.data }, { on := 7, ground := Go.Ground.data }, { on := 0, ground := Go.Ground.phase }, { on := 1, ground := Go.Ground.phase }, { on := 2, ground := Go.Ground.phase }, { on := 3, ground := Go.Ground.phase }, { on := 4, ground := Go.Ground.phase }, { on := 5, ground := Go.Ground.phase }, { on := 6, ground := Go.Ground.phase }, { on := 7, ground := Go.Ground.phase }], guard := none }) (v := .pointer (some ⟨g, o + k * 3, none⟩)) rfl rfl (by kernel_rfl) (by kernel_rfl) (by kernel_rfl) (by kernel_rfl) (fun _ _ _ h => h) (Or.inl ⟨by kernel_rfl, ?_⟩) rfl ?_
            · (intro X hX; subst hX <;> (go_simp; try (with_reducible rfl)))
            (try simp only [Act.put, List.setIfInBounds_toArray, List.set_cons_zero, List.set_cons_succ])
            refine wpAnyN_one (i := 9) (o := { dst := none, op := Go.Op.store 98 (Go.Operand.tmp 33) (Go.Operand.tmp 32), type := 0, pos := "picture.go:54", after := #[{ on := 8, ground := Go.Ground.data }, { on := 7, ground := Go.Ground.data }, { on := 0, ground := Go.Ground.phase }, { on := 1, ground := Go.Ground.phase }, { on := 2, ground := Go.Ground.phase }, { on := 3, ground := Go.Ground.phase }, { on := 4, ground := Go.Ground.phase }, { on := 5, ground := Go.Ground.phase }, { on := 6, ground := Go.Ground.phase }, { on := 7, ground := Go.Ground.phase }], guard := none }) (by kernel_rfl) rfl (fun K hK => ?_)
            go_simp
            refine hK.out _ _ (fun e => absurd (e.symm.trans (by kernel_rfl) : false = true) Bool.false_ne_true) ?_
            clear hK K
            (try simp only [Act.put, List.setIfInBounds_toArray, List.set_cons_zero, List.set_cons_succ])
            refine wpAnyN_of_H (S' := fun _ => True) _ _ _ _ (by kernel_rfl) ?_
            refine wpAnyH_done (by kernel_rfl) ?_ _
            clear p5 p0 p1 p2 pu z0 z1 z2
            go_wp2_with fail
            go_roundw
            case rel => exact ⟨k + 1, _, rfl, by go_num, by omega, (HPt.out _ HB5.out (by simp)).drew⟩
            case measure => simp [intOf]; omega
      · obtain rfl : k = rn := by omega
        have hlti : ¬ (k : Int) < (k : Int) := by omega
        go_wp2_with fail
        first | refine bodyPost_end (results_none rfl _ _ _) rfl ?_ | refine bodyPost_ret (results_none rfl _ _ _) rfl ?_
        obtain ⟨cs, hrow, h2, _⟩ := HG.out.rows
        refine ⟨rfl, HG.out.st, ?_⟩
        have e : cs = fgW c 0 rs := by
          have hl1 := hrow.1
          rw [rwL_len] at hl1
          have hl2 := HRl.out
          refine List.ext_getElem? (fun j => ?_)
          by_cases hj : j < k
          · exact h2 j hj
          · rw [List.getElem?_eq_none (by omega), List.getElem?_eq_none (by rw [fgW_len]; omega)]
        rw [← e]
        exact hrow
end Go.Proofs.YtlmlbcnjohjnlaaDoor

/- mirror: a command is answered. -/
namespace Go.Proofs.YtlmlbcnjohjnlaaDoor
open Go.RowKit

theorem isFn_answered1 : IsFn 55 := fun _ _ => by kernel_rfl
def DropM (P : Nat) (fr : List Nat) (N : PM) (L : List PA) (X : World) (e : Ending) (W : World) : Prop := e = .returned (.tuple #[]) ∧ ∃ q' rows was, W.heap[P]? = some (mirO q' N.sel N.v N.n N.h rows was N.bg) ∧ QIn fr W q' L ∧ RIn fr W rows N.rows ∧ WasIn fr W was N.was ∧ Stays fr X W ∧ KeepT [75, 78] X W
theorem drop_M {P : Nat} {fr : List Nat} {N : PM} {c : PA} {L : List PA} {X : World} (h : MAt P fr N X) (hq : N.q = c :: L) (hl : N.q.length ≤ 1000000) : Calls Tryd.prog 56 #[.pointer (some ⟨P, 0, none⟩)] X (DropM P fr N L X) := by
  obtain ⟨q, rows, was, hM, ⟨ks, hrow, hqb, hall⟩, hR, hW⟩ := h.ex
  rw [hq] at hrow hall hl
  simp only [List.length_cons] at hl
  rcases hrow.2 with ⟨_, e0⟩ | ⟨g, o, cap, cur, rfl, hg, hnc, hs, htk⟩
  · simp at e0
  cases ks with
  | nil => exact hall.elim
  | cons k ks =>
    refine (drop_row P N.sel N.v N.n N.h rows was N.bg g o L.length cap cur _ X hM hg hnc hs htk (by omega)).mono ?_
    rintro e W ⟨rfl, hst, q', hm', hr', ho'⟩
    have kt : KeepT [75, 78] X W := KeepT.of hst (fun b hb => by
      rcases List.mem_cons.1 hb with rfl | hb
      · exact ⟨_, _, _, hM, by simp⟩
      · simp at hb
        subst hb
        exact ⟨_, _, _, hg, by simp⟩)
    have hd : (akL (k :: ks)).drop 5 = akL ks := by
      have : akL (k :: ks) = (akC k).toList ++ akL ks := by simp [akL]
      rw [this]
      exact List.drop_left' (by simp [akC])
    rw [hd] at hr'
    have hgf : g ∈ fr := hqb g rfl
    refine ⟨rfl, q', rows, was, hm', ⟨ks, hr', fun b e => ?_, hall.2.mono (fun _ _ r => r.kt kt (by decide) (fun _ e => e))⟩, hR.kt kt (by decide) (by decide) (fun _ e => e), hW.kt kt (by decide) (fun _ e => e), hst.mono (fun b hb => ?_), kt⟩
    · rw [ho'] at e
      injection e with e
      exact e ▸ hgf
    · rcases List.mem_cons.1 hb with rfl | hb
      · exact h.pin
      · simp at hb
        exact hb ▸ hgf
theorem all_fv {fr : List Nat} {X : World} : ∀ {rs : List RW} {L : List PR}, All2 (RWin fr X) rs L → ∀ r ∈ rs, ∃ a b d, r.fv = .slice a b d
  | r0 :: rs, _ :: _, h, r, hr => by
    rcases List.mem_cons.1 hr with rfl | hr
    · obtain ⟨a, c, e⟩ := h.1.fl.shape
      exact ⟨a, _, c, e⟩
    · exact all_fv h.2 r hr
  | [], _, _, r, hr => by simp at hr
def DoneOut (P : Nat) (fr : List Nat) (M' : PM) (B : Nat) (X : World) (e : Ending) (X' : World) : Prop := e = .returned (.tuple #[]) ∧ MGb P fr M' B X X'
theorem mgb_stays {P : Nat} {fr : List Nat} {M : PM} {B : Nat} {X Z Z' : World} (hs : Stays fr X Z) (h : MG P fr M Z Z') (hB : B ≤ X.heap.size) : MGb P fr M B X Z' := by
  obtain ⟨fr', h1, h2, h3⟩ := h
  exact ⟨fr', h1, hs.trans h2 (fun _ e => .inl e), fun b hb => (h3 b hb).imp id (fun e => Nat.le_trans (Nat.le_trans hB hs.size) e)⟩
set_option maxRecDepth 20000 in
set_option maxHeartbeats 4000000 in
theorem done_sel (P : Nat) (fr : List Nat) (N : PM) (c : PA) (L : List PA) (a : AN) (bm bc ba B : Nat) (kt : ByteArray) (kv : Int) (ku ks : Bool) (sa : Option Addr) (sn sc : Nat) (X : World) (h : MAt P fr N X) (hq : N.q = c :: L) (hl : N.q.length ≤ 1000000) (hm : X.heap[bm]? = some (mpO P)) (hc : X.heap[bc]? = some (.cells #[.string kt, .int .i64 kv, .bool ku, .bool ks, .slice sa sn sc] 78 (0, 0))) (hA : X.heap[ba]? = some (anO a)) (hnb : bm ∉ fr ∧ bc ∉ fr ∧ ba ∉ fr) (hB : B ≤ X.heap.size) (hob : (kv == 5 || kv == 6) = true) (ho : a.out = 1) : Calls Tryd.prog 55 #[.pointer (some ⟨bm, 0, none⟩), .pointer (some ⟨bc, 0, none⟩), .pointer (some ⟨ba, 0, none⟩)] X (DoneOut P fr { N with q := L, bg := false, sel := true } B X) := by
  have HD := Lib.hid (drop_M h hq hl)
  have HX : Hid (∀ Z, Stays fr X Z → Z.cell? ⟨bm, 0, none⟩ = some (.pointer (some ⟨P, 0, none⟩)) ∧ Z.heap[bc]? = some (.cells #[.string kt, .int .i64 kv, .bool ku, .bool ks, .slice sa sn sc] 78 (0, 0)) ∧ Z.cell? ⟨ba, 2, none⟩ = some (.int .i64 1)) := Lib.hid (fun Z hZ => by
    refine ⟨?_, hZ.at_ hc hnb.2.1, by rw [← ho]; exact (an_cells (hZ.at_ hA hnb.2.2)).2.2.1⟩
    have := hZ.at_ hm hnb.1
    unfold mpO at this
    exact cell_of this 0)
  have b0 := (HX.out X (Stays.refl _ _)).1
  have HO : Hid (∀ Z, Calls Tryd.prog 36 #[.agg #[.string kt, .int .i64 kv, .bool ku, .bool ks, .slice sa sn sc]] Z fun e w' => e = .returned (.bool (kv == 5 || kv == 6)) ∧ Below Z.heap.size Z w') := Lib.hid (fun Z => opens_any ⟨kt, kv, ku, ks, .slice sa sn sc⟩ Z)
  have HL : Hid (∀ Z, Calls Tryd.prog 57 #[.agg #[.string kt, .int .i64 kv, .bool ku, .bool ks, .slice sa sn sc]] Z fun e w' => e = .returned (.bool (kv == 17 || kv == 18 || kv == 3)) ∧ Below Z.heap.size Z w') := Lib.hid (fun Z => leaves_any ⟨kt, kv, ku, ks, .slice sa sn sc⟩ ⟨_, _, _, rfl⟩ Z)
  have HFrl : Hid (∀ b, b ∈ fr → b < X.heap.size) := Lib.hid h.lt
  have HPin := Lib.hid h.pin
  have HBx := Lib.hid hB
  clear ho h hm hc hA hnb hq hB hl
  rw [hob] at HO
  clear hob
  go_enter Tryd.func55, Tryd.ntmps55
  go_upto_region 1 with (go_at_call 56; refine HD.out.mono ?_; rintro e w1 ⟨rfl, hs1⟩; have HS1 := Lib.hid hs1; clear hs1)
  obtain ⟨q1, rows, was, hm1, hq1, hr1, hw1, hs1, _⟩ := HS1.out
  obtain ⟨d0, _, _⟩ := HX.out _ hs1
  have m7 := (mir_cells hm1).c7
  have f7 := mir_fz hm1 7
  have HM1 := Lib.hid hm1
  have HQ1 := Lib.hid (And.intro hq1 (And.intro hr1 (And.intro hw1 hs1)))
  clear hm1 hq1 hr1 hw1 hs1
  go_upto_region 2 with fail
  clear b0 d0 m7 f7 HD
  obtain ⟨W2, hW2⟩ : ∃ W2, w1.setCell ⟨P, 7, none⟩ (.bool false) = W2 := ⟨_, rfl⟩
  rw [hW2]
  have hm2 : W2.heap[P]? = some (mirO q1 N.sel N.v N.n N.h rows was false) := by rw [← hW2]; exact mir_set7 HM1.out _
  have hs2 : Stays fr X W2 := by rw [← hW2]; exact HQ1.out.2.2.2.setCell (.inl HPin.out) _
  have hk2 : KeepT [75] w1 W2 := by rw [← hW2]; exact KeepT.of (Stays.setCell (fp := [P]) (Stays.refl _ _) (.inl (by simp)) _) (fun b hb => by simp at hb; subst hb; exact ⟨_, _, _, HM1.out, by simp⟩)
  obtain ⟨hq1, hr1, hw1, _⟩ := HQ1.out
  have hat : MAt P fr { N with q := L, bg := false } W2 := ⟨⟨q1, rows, was, hm2, hq1.kt hk2 (by decide) (by decide) (fun _ e => e), hr1.kt hk2 (by decide) (by decide) (fun _ e => e), hw1.kt hk2 (by decide) (fun _ e => e)⟩, HPin.out, fun b hb => Nat.lt_of_lt_of_le (HFrl.out b hb) hs2.size⟩
  have HAt := Lib.hid hat
  have HM2 := Lib.hid hm2
  have HS2 := Lib.hid hs2
  have HXo : Hid (∀ Z, Below W2.heap.size W2 Z → Z.cell? ⟨bm, 0, none⟩ = some (.pointer (some ⟨P, 0, none⟩)) ∧ Z.cell? ⟨bc, 3, none⟩ = some (.bool ks) ∧ Z.cell? ⟨ba, 2, none⟩ = some (.int .i64 1)) := Lib.hid (fun Z hZ => by
    obtain ⟨y0, y1, y2⟩ := HX.out _ (hs2.trans (Stays.ofBelow (fp := fr) hZ) (fun _ e => .inl e))
    exact ⟨y0, cell_of y1 3, y2⟩)
  have HRb : Hid (∀ Z, Below W2.heap.size W2 Z → Z.rangeAt bc 0 [.string kt, .int .i64 kv, .bool ku, .bool ks, .slice sa sn sc]) := Lib.hid (fun Z hZ => box_range (z := 5) (cs := [.string kt, .int .i64 kv, .bool ku, .bool ks, .slice sa sn sc]) (HX.out _ (hs2.trans (Stays.ofBelow (fp := fr) hZ) (fun _ e => .inl e))).2.1 0)
  have BR := Lib.hid (Below.refl W2.heap.size W2)
  obtain ⟨x0, x3, x2⟩ := HXo.out _ BR.out
  have FIN : Hid (∀ Z, Below W2.heap.size W2 Z → DoneOut P fr { N with q := L, bg := false, sel := true } B X (.returned (.tuple #[])) (Z.setCell ⟨P, 1, none⟩ (.bool true)) ∧ Z.cell? ⟨P, 1, none⟩ = some (.bool N.sel) ∧ Z.frozen? ⟨P, 1, none⟩ = false) := Lib.hid (fun Z hZ => by
    have hM := bel_at hZ (lt_of_heap HM2.out) HM2.out
    obtain ⟨q2, rw2, ws2, k1, k2, k3, k4⟩ := (HAt.out.bel hZ).ex
    have g := (HAt.out.bel hZ).turn (M' := { N with q := L, bg := false, sel := true }) k1 (Stays.setCell (fp := [P]) (Stays.refl _ _) (.inl (by simp)) _) ⟨q2, rw2, ws2, mir_set1 k1 true, k2, k3, k4⟩
    exact ⟨⟨rfl, mgb_stays (HS2.out.trans (Stays.ofBelow (fp := fr) hZ) (fun _ e => .inl e)) g HBx.out⟩, (mir_cells hM).c1, mir_fz hM 1⟩)
  clear hat hm2 hs2 hk2 hq1 hr1 hw1 hW2 HM1 HQ1 HS1 HX
  clear HAt HS2 HM2 HL
  go_upto_region 3 with (first | (refine wpList_load_mid rfl 78 _ rfl bc 0 rfl [.string kt, .int .i64 kv, .bool ku, .bool ks, .slice sa sn sc] _ (by first | exact HRb.out _ HB5.out | exact HRb.out _ HB4.out | exact HRb.out _ HB3.out | exact HRb.out _ BR.out) Tryd.underlying78 rfl Tryd.sizeAk ?_) | (have hX := HB3; clear hX; go_at_call 36; refine (HO.out _).mono ?_; rintro e w4 ⟨rfl, hb4⟩; have HB4 := Lib.hid (HB3.out.trans (hb4.mono HB3.out.size)); clear hb4; obtain ⟨z0, z3, z2⟩ := HXo.out _ HB4.out) | (go_at_call 36; refine (HO.out _).mono ?_; rintro e w3 ⟨rfl, hb3⟩; have HB3 := Lib.hid hb3; clear hb3; obtain ⟨y0, y3, y2⟩ := HXo.out _ HB3.out) | (go_at_call 57; refine (HL.out _).mono ?_; rintro e w5 ⟨rfl, hb5⟩; have HB5 := Lib.hid (HB4.out.trans (hb5.mono HB4.out.size)); clear hb5; obtain ⟨v0, v3, v2⟩ := HXo.out _ HB5.out))
  obtain ⟨hfin, m1, mz⟩ := FIN.out _ HB3.out
  have FN := Lib.hid hfin
  clear hfin
  go_wp2_with fail
  first | refine bodyPost_end (results_none rfl _ _ _) rfl ?_ | refine bodyPost_ret (results_none rfl _ _ _) rfl ?_
  exact FN.out
set_option maxRecDepth 20000 in
set_option maxHeartbeats 4000000 in
theorem done_no (P : Nat) (fr : List Nat) (N : PM) (c : PA) (L : List PA) (a : AN) (bm bc ba B : Nat) (kt : ByteArray) (kv : Int) (ku ks : Bool) (sa : Option Addr) (sn sc : Nat) (X : World) (h : MAt P fr N X) (hq : N.q = c :: L) (hl : N.q.length ≤ 1000000) (hm : X.heap[bm]? = some (mpO P)) (hc : X.heap[bc]? = some (.cells #[.string kt, .int .i64 kv, .bool ku, .bool ks, .slice sa sn sc] 78 (0, 0))) (hA : X.heap[ba]? = some (anO a)) (hnb : bm ∉ fr ∧ bc ∉ fr ∧ ba ∉ fr) (hB : B ≤ X.heap.size) (hob : (kv == 5 || kv == 6) = true) (ho : a.out = 2) : Calls Tryd.prog 55 #[.pointer (some ⟨bm, 0, none⟩), .pointer (some ⟨bc, 0, none⟩), .pointer (some ⟨ba, 0, none⟩)] X (DoneOut P fr (nopM { N with q := L, bg := false }) B X) := by
  have HD := Lib.hid (drop_M h hq hl)
  have HX : Hid (∀ Z, Stays fr X Z → Z.cell? ⟨bm, 0, none⟩ = some (.pointer (some ⟨P, 0, none⟩)) ∧ Z.heap[bc]? = some (.cells #[.string kt, .int .i64 kv, .bool ku, .bool ks, .slice sa sn sc] 78 (0, 0)) ∧ Z.cell? ⟨ba, 2, none⟩ = some (.int .i64 2)) := Lib.hid (fun Z hZ => by
    refine ⟨?_, hZ.at_ hc hnb.2.1, by rw [← ho]; exact (an_cells (hZ.at_ hA hnb.2.2)).2.2.1⟩
    have := hZ.at_ hm hnb.1
    unfold mpO at this
    exact cell_of this 0)
  have b0 := (HX.out X (Stays.refl _ _)).1
  have HO : Hid (∀ Z, Calls Tryd.prog 36 #[.agg #[.string kt, .int .i64 kv, .bool ku, .bool ks, .slice sa sn sc]] Z fun e w' => e = .returned (.bool (kv == 5 || kv == 6)) ∧ Below Z.heap.size Z w') := Lib.hid (fun Z => opens_any ⟨kt, kv, ku, ks, .slice sa sn sc⟩ Z)
  have HL : Hid (∀ Z, Calls Tryd.prog 57 #[.agg #[.string kt, .int .i64 kv, .bool ku, .bool ks, .slice sa sn sc]] Z fun e w' => e = .returned (.bool (kv == 17 || kv == 18 || kv == 3)) ∧ Below Z.heap.size Z w') := Lib.hid (fun Z => leaves_any ⟨kt, kv, ku, ks, .slice sa sn sc⟩ ⟨_, _, _, rfl⟩ Z)
  have HFrl : Hid (∀ b, b ∈ fr → b < X.heap.size) := Lib.hid h.lt
  have HPin := Lib.hid h.pin
  have HBx := Lib.hid hB
  clear ho h hm hc hA hnb hq hB hl
  rw [hob] at HO
  clear hob
  go_enter Tryd.func55, Tryd.ntmps55
  go_upto_region 1 with (go_at_call 56; refine HD.out.mono ?_; rintro e w1 ⟨rfl, hs1⟩; have HS1 := Lib.hid hs1; clear hs1)
  obtain ⟨q1, rows, was, hm1, hq1, hr1, hw1, hs1, _⟩ := HS1.out
  obtain ⟨d0, _, _⟩ := HX.out _ hs1
  have m7 := (mir_cells hm1).c7
  have f7 := mir_fz hm1 7
  have HM1 := Lib.hid hm1
  have HQ1 := Lib.hid (And.intro hq1 (And.intro hr1 (And.intro hw1 hs1)))
  clear hm1 hq1 hr1 hw1 hs1
  go_upto_region 2 with fail
  clear b0 d0 m7 f7 HD
  obtain ⟨W2, hW2⟩ : ∃ W2, w1.setCell ⟨P, 7, none⟩ (.bool false) = W2 := ⟨_, rfl⟩
  rw [hW2]
  have hm2 : W2.heap[P]? = some (mirO q1 N.sel N.v N.n N.h rows was false) := by rw [← hW2]; exact mir_set7 HM1.out _
  have hs2 : Stays fr X W2 := by rw [← hW2]; exact HQ1.out.2.2.2.setCell (.inl HPin.out) _
  have hk2 : KeepT [75] w1 W2 := by rw [← hW2]; exact KeepT.of (Stays.setCell (fp := [P]) (Stays.refl _ _) (.inl (by simp)) _) (fun b hb => by simp at hb; subst hb; exact ⟨_, _, _, HM1.out, by simp⟩)
  obtain ⟨hq1, hr1, hw1, _⟩ := HQ1.out
  have hat : MAt P fr { N with q := L, bg := false } W2 := ⟨⟨q1, rows, was, hm2, hq1.kt hk2 (by decide) (by decide) (fun _ e => e), hr1.kt hk2 (by decide) (by decide) (fun _ e => e), hw1.kt hk2 (by decide) (fun _ e => e)⟩, HPin.out, fun b hb => Nat.lt_of_lt_of_le (HFrl.out b hb) hs2.size⟩
  have HAt := Lib.hid hat
  have HM2 := Lib.hid hm2
  have HS2 := Lib.hid hs2
  have HXo : Hid (∀ Z, Below W2.heap.size W2 Z → Z.cell? ⟨bm, 0, none⟩ = some (.pointer (some ⟨P, 0, none⟩)) ∧ Z.cell? ⟨bc, 3, none⟩ = some (.bool ks) ∧ Z.cell? ⟨ba, 2, none⟩ = some (.int .i64 2)) := Lib.hid (fun Z hZ => by
    obtain ⟨y0, y1, y2⟩ := HX.out _ (hs2.trans (Stays.ofBelow (fp := fr) hZ) (fun _ e => .inl e))
    exact ⟨y0, cell_of y1 3, y2⟩)
  have HRb : Hid (∀ Z, Below W2.heap.size W2 Z → Z.rangeAt bc 0 [.string kt, .int .i64 kv, .bool ku, .bool ks, .slice sa sn sc]) := Lib.hid (fun Z hZ => box_range (z := 5) (cs := [.string kt, .int .i64 kv, .bool ku, .bool ks, .slice sa sn sc]) (HX.out _ (hs2.trans (Stays.ofBelow (fp := fr) hZ) (fun _ e => .inl e))).2.1 0)
  have BR := Lib.hid (Below.refl W2.heap.size W2)
  obtain ⟨x0, x3, x2⟩ := HXo.out _ BR.out
  have FIN : Hid (∀ Z, Below W2.heap.size W2 Z → MirF P q1 N.sel N.v N.n N.h rows was false Z ∧ (∀ o, Z.frozen? ⟨P, o, none⟩ = false) ∧ DoneOut P fr (nopM { N with q := L, bg := false }) B X (.returned (.tuple #[])) ((((((Z.setCell ⟨P, 1, none⟩ (.bool false)).setCell ⟨P, 2, none⟩ (.int .i64 0)).setCell ⟨P, 3, none⟩ (.int .i64 0)).setCell ⟨P, 4, none⟩ (.int .i64 0)).setCell ⟨P, 5, none⟩ (.slice none 0 0)).setCell ⟨P, 6, none⟩ (.map none))) := Lib.hid (fun Z hZ => by
    have hM := bel_at hZ (lt_of_heap HM2.out) HM2.out
    refine ⟨mir_cells hM, mir_fz hM, rfl, ?_⟩
    obtain ⟨q2, rw2, ws2, k1, k2, k3, k4⟩ := (HAt.out.bel hZ).ex
    have sp : ∀ (Y : World), Stays [P] Z Y → ∀ (o : Nat) (u : Value), Stays [P] Z (Y.setCell ⟨P, o, none⟩ u) := fun Y hY o u => hY.setCell (.inl (by simp)) u
    refine mgb_stays (HS2.out.trans (Stays.ofBelow (fp := fr) hZ) (fun _ e => .inl e)) ((HAt.out.bel hZ).turn k1 (sp _ (sp _ (sp _ (sp _ (sp _ (sp _ (Stays.refl _ _) _ _) _ _) _ _) _ _) _ _) _ _) ⟨q2, _, _, ?_, k2, RIn.nil, WasIn.nil⟩) HBx.out
    unfold mirO mirC at k1 ⊢
    rw [heap_setCell_at _ (heap_setCell_at _ (heap_setCell_at _ (heap_setCell_at _ (heap_setCell_at _ (heap_setCell_at _ k1)))))]
    rfl)
  clear hat hm2 hs2 hk2 hq1 hr1 hw1 hW2 HM1 HQ1 HS1 HX
  clear HAt HS2 HM2 HL
  go_upto_region 6 with (first | (refine wpList_load_mid rfl 78 _ rfl bc 0 rfl [.string kt, .int .i64 kv, .bool ku, .bool ks, .slice sa sn sc] _ (by first | exact HRb.out _ HB5.out | exact HRb.out _ HB4.out | exact HRb.out _ HB3.out | exact HRb.out _ BR.out) Tryd.underlying78 rfl Tryd.sizeAk ?_) | (have hX := HB3; clear hX; go_at_call 36; refine (HO.out _).mono ?_; rintro e w4 ⟨rfl, hb4⟩; have HB4 := Lib.hid (HB3.out.trans (hb4.mono HB3.out.size)); clear hb4; obtain ⟨z0, z3, z2⟩ := HXo.out _ HB4.out) | (go_at_call 36; refine (HO.out _).mono ?_; rintro e w3 ⟨rfl, hb3⟩; have HB3 := Lib.hid hb3; clear hb3; obtain ⟨y0, y3, y2⟩ := HXo.out _ HB3.out) | (go_at_call 57; refine (HL.out _).mono ?_; rintro e w5 ⟨rfl, hb5⟩; have HB5 := Lib.hid (HB4.out.trans (hb5.mono HB4.out.size)); clear hb5; obtain ⟨v0, v3, v2⟩ := HXo.out _ HB5.out))
  obtain ⟨mf, mz, hfin⟩ := FIN.out _ HB4.out
  obtain ⟨_, m1, m2, m3, m4, m5, m6, _⟩ := mf
  have FN := Lib.hid hfin
  clear hfin
  go_wp2_with fail
  first | refine bodyPost_end (results_none rfl _ _ _) rfl ?_ | refine bodyPost_ret (results_none rfl _ _ _) rfl ?_
  exact FN.out
set_option maxRecDepth 20000 in
set_option maxHeartbeats 4000000 in
theorem done_leave (P : Nat) (fr : List Nat) (N : PM) (c : PA) (L : List PA) (a : AN) (bm bc ba B : Nat) (kt : ByteArray) (kv : Int) (ku ks : Bool) (sa : Option Addr) (sn sc : Nat) (X : World) (h : MAt P fr N X) (hq : N.q = c :: L) (hl : N.q.length ≤ 1000000) (hm : X.heap[bm]? = some (mpO P)) (hc : X.heap[bc]? = some (.cells #[.string kt, .int .i64 kv, .bool ku, .bool ks, .slice sa sn sc] 78 (0, 0))) (hA : X.heap[ba]? = some (anO a)) (hnb : bm ∉ fr ∧ bc ∉ fr ∧ ba ∉ fr) (hB : B ≤ X.heap.size) (hob : (kv == 5 || kv == 6) = false) (hlb : (kv == 17 || kv == 18 || kv == 3) = true) (ho : a.out = 1) : Calls Tryd.prog 55 #[.pointer (some ⟨bm, 0, none⟩), .pointer (some ⟨bc, 0, none⟩), .pointer (some ⟨ba, 0, none⟩)] X (DoneOut P fr (nopM { N with q := L, bg := false }) B X) := by
  have HD := Lib.hid (drop_M h hq hl)
  have HX : Hid (∀ Z, Stays fr X Z → Z.cell? ⟨bm, 0, none⟩ = some (.pointer (some ⟨P, 0, none⟩)) ∧ Z.heap[bc]? = some (.cells #[.string kt, .int .i64 kv, .bool ku, .bool ks, .slice sa sn sc] 78 (0, 0)) ∧ Z.cell? ⟨ba, 2, none⟩ = some (.int .i64 1)) := Lib.hid (fun Z hZ => by
    refine ⟨?_, hZ.at_ hc hnb.2.1, by rw [← ho]; exact (an_cells (hZ.at_ hA hnb.2.2)).2.2.1⟩
    have := hZ.at_ hm hnb.1
    unfold mpO at this
    exact cell_of this 0)
  have b0 := (HX.out X (Stays.refl _ _)).1
  have HO : Hid (∀ Z, Calls Tryd.prog 36 #[.agg #[.string kt, .int .i64 kv, .bool ku, .bool ks, .slice sa sn sc]] Z fun e w' => e = .returned (.bool (kv == 5 || kv == 6)) ∧ Below Z.heap.size Z w') := Lib.hid (fun Z => opens_any ⟨kt, kv, ku, ks, .slice sa sn sc⟩ Z)
  have HL : Hid (∀ Z, Calls Tryd.prog 57 #[.agg #[.string kt, .int .i64 kv, .bool ku, .bool ks, .slice sa sn sc]] Z fun e w' => e = .returned (.bool (kv == 17 || kv == 18 || kv == 3)) ∧ Below Z.heap.size Z w') := Lib.hid (fun Z => leaves_any ⟨kt, kv, ku, ks, .slice sa sn sc⟩ ⟨_, _, _, rfl⟩ Z)
  have HFrl : Hid (∀ b, b ∈ fr → b < X.heap.size) := Lib.hid h.lt
  have HPin := Lib.hid h.pin
  have HBx := Lib.hid hB
  clear ho h hm hc hA hnb hq hB hl
  rw [hob] at HO
  rw [hlb] at HL
  clear hob
  clear hlb
  go_enter Tryd.func55, Tryd.ntmps55
  go_upto_region 1 with (go_at_call 56; refine HD.out.mono ?_; rintro e w1 ⟨rfl, hs1⟩; have HS1 := Lib.hid hs1; clear hs1)
  obtain ⟨q1, rows, was, hm1, hq1, hr1, hw1, hs1, _⟩ := HS1.out
  obtain ⟨d0, _, _⟩ := HX.out _ hs1
  have m7 := (mir_cells hm1).c7
  have f7 := mir_fz hm1 7
  have HM1 := Lib.hid hm1
  have HQ1 := Lib.hid (And.intro hq1 (And.intro hr1 (And.intro hw1 hs1)))
  clear hm1 hq1 hr1 hw1 hs1
  go_upto_region 2 with fail
  clear b0 d0 m7 f7 HD
  obtain ⟨W2, hW2⟩ : ∃ W2, w1.setCell ⟨P, 7, none⟩ (.bool false) = W2 := ⟨_, rfl⟩
  rw [hW2]
  have hm2 : W2.heap[P]? = some (mirO q1 N.sel N.v N.n N.h rows was false) := by rw [← hW2]; exact mir_set7 HM1.out _
  have hs2 : Stays fr X W2 := by rw [← hW2]; exact HQ1.out.2.2.2.setCell (.inl HPin.out) _
  have hk2 : KeepT [75] w1 W2 := by rw [← hW2]; exact KeepT.of (Stays.setCell (fp := [P]) (Stays.refl _ _) (.inl (by simp)) _) (fun b hb => by simp at hb; subst hb; exact ⟨_, _, _, HM1.out, by simp⟩)
  obtain ⟨hq1, hr1, hw1, _⟩ := HQ1.out
  have hat : MAt P fr { N with q := L, bg := false } W2 := ⟨⟨q1, rows, was, hm2, hq1.kt hk2 (by decide) (by decide) (fun _ e => e), hr1.kt hk2 (by decide) (by decide) (fun _ e => e), hw1.kt hk2 (by decide) (fun _ e => e)⟩, HPin.out, fun b hb => Nat.lt_of_lt_of_le (HFrl.out b hb) hs2.size⟩
  have HAt := Lib.hid hat
  have HM2 := Lib.hid hm2
  have HS2 := Lib.hid hs2
  have HXo : Hid (∀ Z, Below W2.heap.size W2 Z → Z.cell? ⟨bm, 0, none⟩ = some (.pointer (some ⟨P, 0, none⟩)) ∧ Z.cell? ⟨bc, 3, none⟩ = some (.bool ks) ∧ Z.cell? ⟨ba, 2, none⟩ = some (.int .i64 1)) := Lib.hid (fun Z hZ => by
    obtain ⟨y0, y1, y2⟩ := HX.out _ (hs2.trans (Stays.ofBelow (fp := fr) hZ) (fun _ e => .inl e))
    exact ⟨y0, cell_of y1 3, y2⟩)
  have HRb : Hid (∀ Z, Below W2.heap.size W2 Z → Z.rangeAt bc 0 [.string kt, .int .i64 kv, .bool ku, .bool ks, .slice sa sn sc]) := Lib.hid (fun Z hZ => box_range (z := 5) (cs := [.string kt, .int .i64 kv, .bool ku, .bool ks, .slice sa sn sc]) (HX.out _ (hs2.trans (Stays.ofBelow (fp := fr) hZ) (fun _ e => .inl e))).2.1 0)
  have BR := Lib.hid (Below.refl W2.heap.size W2)
  obtain ⟨x0, x3, x2⟩ := HXo.out _ BR.out
  have FIN : Hid (∀ Z, Below W2.heap.size W2 Z → MirF P q1 N.sel N.v N.n N.h rows was false Z ∧ (∀ o, Z.frozen? ⟨P, o, none⟩ = false) ∧ DoneOut P fr (nopM { N with q := L, bg := false }) B X (.returned (.tuple #[])) ((((((Z.setCell ⟨P, 1, none⟩ (.bool false)).setCell ⟨P, 2, none⟩ (.int .i64 0)).setCell ⟨P, 3, none⟩ (.int .i64 0)).setCell ⟨P, 4, none⟩ (.int .i64 0)).setCell ⟨P, 5, none⟩ (.slice none 0 0)).setCell ⟨P, 6, none⟩ (.map none))) := Lib.hid (fun Z hZ => by
    have hM := bel_at hZ (lt_of_heap HM2.out) HM2.out
    refine ⟨mir_cells hM, mir_fz hM, rfl, ?_⟩
    obtain ⟨q2, rw2, ws2, k1, k2, k3, k4⟩ := (HAt.out.bel hZ).ex
    have sp : ∀ (Y : World), Stays [P] Z Y → ∀ (o : Nat) (u : Value), Stays [P] Z (Y.setCell ⟨P, o, none⟩ u) := fun Y hY o u => hY.setCell (.inl (by simp)) u
    refine mgb_stays (HS2.out.trans (Stays.ofBelow (fp := fr) hZ) (fun _ e => .inl e)) ((HAt.out.bel hZ).turn k1 (sp _ (sp _ (sp _ (sp _ (sp _ (sp _ (Stays.refl _ _) _ _) _ _) _ _) _ _) _ _) _ _) ⟨q2, _, _, ?_, k2, RIn.nil, WasIn.nil⟩) HBx.out
    unfold mirO mirC at k1 ⊢
    rw [heap_setCell_at _ (heap_setCell_at _ (heap_setCell_at _ (heap_setCell_at _ (heap_setCell_at _ (heap_setCell_at _ k1)))))]
    rfl)
  clear hat hm2 hs2 hk2 hq1 hr1 hw1 hW2 HM1 HQ1 HS1 HX
  clear HAt HS2 HM2
  go_upto_region 6 with (first | (refine wpList_load_mid rfl 78 _ rfl bc 0 rfl [.string kt, .int .i64 kv, .bool ku, .bool ks, .slice sa sn sc] _ (by first | exact HRb.out _ HB5.out | exact HRb.out _ HB4.out | exact HRb.out _ HB3.out | exact HRb.out _ BR.out) Tryd.underlying78 rfl Tryd.sizeAk ?_) | (have hX := HB3; clear hX; go_at_call 36; refine (HO.out _).mono ?_; rintro e w4 ⟨rfl, hb4⟩; have HB4 := Lib.hid (HB3.out.trans (hb4.mono HB3.out.size)); clear hb4; obtain ⟨z0, z3, z2⟩ := HXo.out _ HB4.out) | (go_at_call 36; refine (HO.out _).mono ?_; rintro e w3 ⟨rfl, hb3⟩; have HB3 := Lib.hid hb3; clear hb3; obtain ⟨y0, y3, y2⟩ := HXo.out _ HB3.out) | (go_at_call 57; refine (HL.out _).mono ?_; rintro e w5 ⟨rfl, hb5⟩; have HB5 := Lib.hid (HB4.out.trans (hb5.mono HB4.out.size)); clear hb5; obtain ⟨v0, v3, v2⟩ := HXo.out _ HB5.out))
  obtain ⟨mf, mz, hfin⟩ := FIN.out _ HB5.out
  obtain ⟨_, m1, m2, m3, m4, m5, m6, _⟩ := mf
  have FN := Lib.hid hfin
  clear hfin
  go_wp2_with fail
  first | refine bodyPost_end (results_none rfl _ _ _) rfl ?_ | refine bodyPost_ret (results_none rfl _ _ _) rfl ?_
  exact FN.out
end Go.Proofs.YtlmlbcnjohjnlaaDoor

/- mirror: a command is answered: what changes little. -/
namespace Go.Proofs.YtlmlbcnjohjnlaaDoor
open Go.RowKit

set_option maxRecDepth 20000 in
set_option maxHeartbeats 4000000 in
theorem done_open3_true (P : Nat) (fr : List Nat) (N : PM) (c : PA) (L : List PA) (a : AN) (bm bc ba B : Nat) (kt : ByteArray) (kv : Int) (ku ks : Bool) (sa : Option Addr) (sn sc : Nat) (X : World) (h : MAt P fr N X) (hq : N.q = c :: L) (hl : N.q.length ≤ 1000000) (hm : X.heap[bm]? = some (mpO P)) (hc : X.heap[bc]? = some (.cells #[.string kt, .int .i64 kv, .bool ku, .bool ks, .slice sa sn sc] 78 (0, 0))) (hA : X.heap[ba]? = some (anO a)) (hnb : bm ∉ fr ∧ bc ∉ fr ∧ ba ∉ fr) (hB : B ≤ X.heap.size) (hob : (kv == 5 || kv == 6) = true) (hlb : (kv == 17 || kv == 18 || kv == 3) = false) (hks : ks = true) (n1 : (a.out == 1) = false) (n2 : (a.out == 2) = false) : Calls Tryd.prog 55 #[.pointer (some ⟨bm, 0, none⟩), .pointer (some ⟨bc, 0, none⟩), .pointer (some ⟨ba, 0, none⟩)] X (DoneOut P fr { N with q := L, bg := false } B X) := by
  subst hks
  have HD := Lib.hid (drop_M h hq hl)
  have HX : Hid (∀ Z, Stays fr X Z → Z.cell? ⟨bm, 0, none⟩ = some (.pointer (some ⟨P, 0, none⟩)) ∧ Z.heap[bc]? = some (.cells #[.string kt, .int .i64 kv, .bool ku, .bool true, .slice sa sn sc] 78 (0, 0)) ∧ Z.cell? ⟨ba, 2, none⟩ = some (.int .i64 a.out)) := Lib.hid (fun Z hZ => by
    refine ⟨?_, hZ.at_ hc hnb.2.1, (an_cells (hZ.at_ hA hnb.2.2)).2.2.1⟩
    have := hZ.at_ hm hnb.1
    unfold mpO at this
    exact cell_of this 0)
  have b0 := (HX.out X (Stays.refl _ _)).1
  have HO : Hid (∀ Z, Calls Tryd.prog 36 #[.agg #[.string kt, .int .i64 kv, .bool ku, .bool true, .slice sa sn sc]] Z fun e w' => e = .returned (.bool (kv == 5 || kv == 6)) ∧ Below Z.heap.size Z w') := Lib.hid (fun Z => opens_any ⟨kt, kv, ku, true, .slice sa sn sc⟩ Z)
  have HL : Hid (∀ Z, Calls Tryd.prog 57 #[.agg #[.string kt, .int .i64 kv, .bool ku, .bool true, .slice sa sn sc]] Z fun e w' => e = .returned (.bool (kv == 17 || kv == 18 || kv == 3)) ∧ Below Z.heap.size Z w') := Lib.hid (fun Z => leaves_any ⟨kt, kv, ku, true, .slice sa sn sc⟩ ⟨_, _, _, rfl⟩ Z)
  have HFrl : Hid (∀ b, b ∈ fr → b < X.heap.size) := Lib.hid h.lt
  have HPin := Lib.hid h.pin
  have HBx := Lib.hid hB
  clear h hm hc hA hnb hq hB hl
  rw [hob] at HO
  rw [hlb] at HL
  clear hob
  clear hlb
  go_enter Tryd.func55, Tryd.ntmps55
  go_upto_region 1 with (go_at_call 56; refine HD.out.mono ?_; rintro e w1 ⟨rfl, hs1⟩; have HS1 := Lib.hid hs1; clear hs1)
  obtain ⟨q1, rows, was, hm1, hq1, hr1, hw1, hs1, _⟩ := HS1.out
  obtain ⟨d0, _, _⟩ := HX.out _ hs1
  have m7 := (mir_cells hm1).c7
  have f7 := mir_fz hm1 7
  have HM1 := Lib.hid hm1
  have HQ1 := Lib.hid (And.intro hq1 (And.intro hr1 (And.intro hw1 hs1)))
  clear hm1 hq1 hr1 hw1 hs1
  go_upto_region 2 with fail
  clear b0 d0 m7 f7 HD
  obtain ⟨W2, hW2⟩ : ∃ W2, w1.setCell ⟨P, 7, none⟩ (.bool false) = W2 := ⟨_, rfl⟩
  rw [hW2]
  have hm2 : W2.heap[P]? = some (mirO q1 N.sel N.v N.n N.h rows was false) := by rw [← hW2]; exact mir_set7 HM1.out _
  have hs2 : Stays fr X W2 := by rw [← hW2]; exact HQ1.out.2.2.2.setCell (.inl HPin.out) _
  have hk2 : KeepT [75] w1 W2 := by rw [← hW2]; exact KeepT.of (Stays.setCell (fp := [P]) (Stays.refl _ _) (.inl (by simp)) _) (fun b hb => by simp at hb; subst hb; exact ⟨_, _, _, HM1.out, by simp⟩)
  obtain ⟨hq1, hr1, hw1, _⟩ := HQ1.out
  have hat : MAt P fr { N with q := L, bg := false } W2 := ⟨⟨q1, rows, was, hm2, hq1.kt hk2 (by decide) (by decide) (fun _ e => e), hr1.kt hk2 (by decide) (by decide) (fun _ e => e), hw1.kt hk2 (by decide) (fun _ e => e)⟩, HPin.out, fun b hb => Nat.lt_of_lt_of_le (HFrl.out b hb) hs2.size⟩
  have HAt := Lib.hid hat
  have HM2 := Lib.hid hm2
  have HS2 := Lib.hid hs2
  have HXo : Hid (∀ Z, Below W2.heap.size W2 Z → Z.cell? ⟨bm, 0, none⟩ = some (.pointer (some ⟨P, 0, none⟩)) ∧ Z.cell? ⟨bc, 3, none⟩ = some (.bool true) ∧ Z.cell? ⟨ba, 2, none⟩ = some (.int .i64 a.out)) := Lib.hid (fun Z hZ => by
    obtain ⟨y0, y1, y2⟩ := HX.out _ (hs2.trans (Stays.ofBelow (fp := fr) hZ) (fun _ e => .inl e))
    exact ⟨y0, cell_of y1 3, y2⟩)
  have HRb : Hid (∀ Z, Below W2.heap.size W2 Z → Z.rangeAt bc 0 [.string kt, .int .i64 kv, .bool ku, .bool true, .slice sa sn sc]) := Lib.hid (fun Z hZ => box_range (z := 5) (cs := [.string kt, .int .i64 kv, .bool ku, .bool true, .slice sa sn sc]) (HX.out _ (hs2.trans (Stays.ofBelow (fp := fr) hZ) (fun _ e => .inl e))).2.1 0)
  have BR := Lib.hid (Below.refl W2.heap.size W2)
  obtain ⟨x0, x3, x2⟩ := HXo.out _ BR.out
  have FIN : Hid (∀ Z, Below W2.heap.size W2 Z → DoneOut P fr { N with q := L, bg := false } B X (.returned (.tuple #[])) Z) := Lib.hid (fun Z hZ => by
    have g := MG.below (HAt.out.bel hZ) (Below.refl _ _)
    exact ⟨rfl, mgb_stays (HS2.out.trans (Stays.ofBelow (fp := fr) hZ) (fun _ e => .inl e)) g HBx.out⟩)
  clear hat hm2 hs2 hk2 hq1 hr1 hw1 hW2 HM1 HQ1 HS1 HX
  clear HAt HS2 HM2
  go_wp2_with (first | (refine wpList_load_mid rfl 78 _ rfl bc 0 rfl [.string kt, .int .i64 kv, .bool ku, .bool true, .slice sa sn sc] _ (by first | exact HRb.out _ HB5.out | exact HRb.out _ HB4.out | exact HRb.out _ HB3.out | exact HRb.out _ BR.out) Tryd.underlying78 rfl Tryd.sizeAk ?_) | (have hX := HB3; clear hX; go_at_call 36; refine (HO.out _).mono ?_; rintro e w4 ⟨rfl, hb4⟩; have HB4 := Lib.hid (HB3.out.trans (hb4.mono HB3.out.size)); clear hb4; obtain ⟨z0, z3, z2⟩ := HXo.out _ HB4.out) | (go_at_call 36; refine (HO.out _).mono ?_; rintro e w3 ⟨rfl, hb3⟩; have HB3 := Lib.hid hb3; clear hb3; obtain ⟨y0, y3, y2⟩ := HXo.out _ HB3.out) | (go_at_call 57; refine (HL.out _).mono ?_; rintro e w5 ⟨rfl, hb5⟩; have HB5 := Lib.hid (HB4.out.trans (hb5.mono HB4.out.size)); clear hb5; obtain ⟨v0, v3, v2⟩ := HXo.out _ HB5.out))
  first | refine bodyPost_end (results_none rfl _ _ _) rfl ?_ | refine bodyPost_ret (results_none rfl _ _ _) rfl ?_
  exact FIN.out _ HB5.out
set_option maxRecDepth 20000 in
set_option maxHeartbeats 4000000 in
theorem done_open3_false (P : Nat) (fr : List Nat) (N : PM) (c : PA) (L : List PA) (a : AN) (bm bc ba B : Nat) (kt : ByteArray) (kv : Int) (ku ks : Bool) (sa : Option Addr) (sn sc : Nat) (X : World) (h : MAt P fr N X) (hq : N.q = c :: L) (hl : N.q.length ≤ 1000000) (hm : X.heap[bm]? = some (mpO P)) (hc : X.heap[bc]? = some (.cells #[.string kt, .int .i64 kv, .bool ku, .bool ks, .slice sa sn sc] 78 (0, 0))) (hA : X.heap[ba]? = some (anO a)) (hnb : bm ∉ fr ∧ bc ∉ fr ∧ ba ∉ fr) (hB : B ≤ X.heap.size) (hob : (kv == 5 || kv == 6) = true) (hlb : (kv == 17 || kv == 18 || kv == 3) = false) (hks : ks = false) (n1 : (a.out == 1) = false) (n2 : (a.out == 2) = false) : Calls Tryd.prog 55 #[.pointer (some ⟨bm, 0, none⟩), .pointer (some ⟨bc, 0, none⟩), .pointer (some ⟨ba, 0, none⟩)] X (DoneOut P fr { N with q := L, bg := false } B X) := by
  subst hks
  have HD := Lib.hid (drop_M h hq hl)
  have HX : Hid (∀ Z, Stays fr X Z → Z.cell? ⟨bm, 0, none⟩ = some (.pointer (some ⟨P, 0, none⟩)) ∧ Z.heap[bc]? = some (.cells #[.string kt, .int .i64 kv, .bool ku, .bool false, .slice sa sn sc] 78 (0, 0)) ∧ Z.cell? ⟨ba, 2, none⟩ = some (.int .i64 a.out)) := Lib.hid (fun Z hZ => by
    refine ⟨?_, hZ.at_ hc hnb.2.1, (an_cells (hZ.at_ hA hnb.2.2)).2.2.1⟩
    have := hZ.at_ hm hnb.1
    unfold mpO at this
    exact cell_of this 0)
  have b0 := (HX.out X (Stays.refl _ _)).1
  have HO : Hid (∀ Z, Calls Tryd.prog 36 #[.agg #[.string kt, .int .i64 kv, .bool ku, .bool false, .slice sa sn sc]] Z fun e w' => e = .returned (.bool (kv == 5 || kv == 6)) ∧ Below Z.heap.size Z w') := Lib.hid (fun Z => opens_any ⟨kt, kv, ku, false, .slice sa sn sc⟩ Z)
  have HL : Hid (∀ Z, Calls Tryd.prog 57 #[.agg #[.string kt, .int .i64 kv, .bool ku, .bool false, .slice sa sn sc]] Z fun e w' => e = .returned (.bool (kv == 17 || kv == 18 || kv == 3)) ∧ Below Z.heap.size Z w') := Lib.hid (fun Z => leaves_any ⟨kt, kv, ku, false, .slice sa sn sc⟩ ⟨_, _, _, rfl⟩ Z)
  have HFrl : Hid (∀ b, b ∈ fr → b < X.heap.size) := Lib.hid h.lt
  have HPin := Lib.hid h.pin
  have HBx := Lib.hid hB
  clear h hm hc hA hnb hq hB hl
  rw [hob] at HO
  rw [hlb] at HL
  clear hob
  clear hlb
  go_enter Tryd.func55, Tryd.ntmps55
  go_upto_region 1 with (go_at_call 56; refine HD.out.mono ?_; rintro e w1 ⟨rfl, hs1⟩; have HS1 := Lib.hid hs1; clear hs1)
  obtain ⟨q1, rows, was, hm1, hq1, hr1, hw1, hs1, _⟩ := HS1.out
  obtain ⟨d0, _, _⟩ := HX.out _ hs1
  have m7 := (mir_cells hm1).c7
  have f7 := mir_fz hm1 7
  have HM1 := Lib.hid hm1
  have HQ1 := Lib.hid (And.intro hq1 (And.intro hr1 (And.intro hw1 hs1)))
  clear hm1 hq1 hr1 hw1 hs1
  go_upto_region 2 with fail
  clear b0 d0 m7 f7 HD
  obtain ⟨W2, hW2⟩ : ∃ W2, w1.setCell ⟨P, 7, none⟩ (.bool false) = W2 := ⟨_, rfl⟩
  rw [hW2]
  have hm2 : W2.heap[P]? = some (mirO q1 N.sel N.v N.n N.h rows was false) := by rw [← hW2]; exact mir_set7 HM1.out _
  have hs2 : Stays fr X W2 := by rw [← hW2]; exact HQ1.out.2.2.2.setCell (.inl HPin.out) _
  have hk2 : KeepT [75] w1 W2 := by rw [← hW2]; exact KeepT.of (Stays.setCell (fp := [P]) (Stays.refl _ _) (.inl (by simp)) _) (fun b hb => by simp at hb; subst hb; exact ⟨_, _, _, HM1.out, by simp⟩)
  obtain ⟨hq1, hr1, hw1, _⟩ := HQ1.out
  have hat : MAt P fr { N with q := L, bg := false } W2 := ⟨⟨q1, rows, was, hm2, hq1.kt hk2 (by decide) (by decide) (fun _ e => e), hr1.kt hk2 (by decide) (by decide) (fun _ e => e), hw1.kt hk2 (by decide) (fun _ e => e)⟩, HPin.out, fun b hb => Nat.lt_of_lt_of_le (HFrl.out b hb) hs2.size⟩
  have HAt := Lib.hid hat
  have HM2 := Lib.hid hm2
  have HS2 := Lib.hid hs2
  have HXo : Hid (∀ Z, Below W2.heap.size W2 Z → Z.cell? ⟨bm, 0, none⟩ = some (.pointer (some ⟨P, 0, none⟩)) ∧ Z.cell? ⟨bc, 3, none⟩ = some (.bool false) ∧ Z.cell? ⟨ba, 2, none⟩ = some (.int .i64 a.out)) := Lib.hid (fun Z hZ => by
    obtain ⟨y0, y1, y2⟩ := HX.out _ (hs2.trans (Stays.ofBelow (fp := fr) hZ) (fun _ e => .inl e))
    exact ⟨y0, cell_of y1 3, y2⟩)
  have HRb : Hid (∀ Z, Below W2.heap.size W2 Z → Z.rangeAt bc 0 [.string kt, .int .i64 kv, .bool ku, .bool false, .slice sa sn sc]) := Lib.hid (fun Z hZ => box_range (z := 5) (cs := [.string kt, .int .i64 kv, .bool ku, .bool false, .slice sa sn sc]) (HX.out _ (hs2.trans (Stays.ofBelow (fp := fr) hZ) (fun _ e => .inl e))).2.1 0)
  have BR := Lib.hid (Below.refl W2.heap.size W2)
  obtain ⟨x0, x3, x2⟩ := HXo.out _ BR.out
  have FIN : Hid (∀ Z, Below W2.heap.size W2 Z → DoneOut P fr { N with q := L, bg := false } B X (.returned (.tuple #[])) Z) := Lib.hid (fun Z hZ => by
    have g := MG.below (HAt.out.bel hZ) (Below.refl _ _)
    exact ⟨rfl, mgb_stays (HS2.out.trans (Stays.ofBelow (fp := fr) hZ) (fun _ e => .inl e)) g HBx.out⟩)
  clear hat hm2 hs2 hk2 hq1 hr1 hw1 hW2 HM1 HQ1 HS1 HX
  clear HAt HS2 HM2
  go_wp2_with (first | (refine wpList_load_mid rfl 78 _ rfl bc 0 rfl [.string kt, .int .i64 kv, .bool ku, .bool false, .slice sa sn sc] _ (by first | exact HRb.out _ HB5.out | exact HRb.out _ HB4.out | exact HRb.out _ HB3.out | exact HRb.out _ BR.out) Tryd.underlying78 rfl Tryd.sizeAk ?_) | (have hX := HB3; clear hX; go_at_call 36; refine (HO.out _).mono ?_; rintro e w4 ⟨rfl, hb4⟩; have HB4 := Lib.hid (HB3.out.trans (hb4.mono HB3.out.size)); clear hb4; obtain ⟨z0, z3, z2⟩ := HXo.out _ HB4.out) | (go_at_call 36; refine (HO.out _).mono ?_; rintro e w3 ⟨rfl, hb3⟩; have HB3 := Lib.hid hb3; clear hb3; obtain ⟨y0, y3, y2⟩ := HXo.out _ HB3.out) | (go_at_call 57; refine (HL.out _).mono ?_; rintro e w5 ⟨rfl, hb5⟩; have HB5 := Lib.hid (HB4.out.trans (hb5.mono HB4.out.size)); clear hb5; obtain ⟨v0, v3, v2⟩ := HXo.out _ HB5.out))
  first | refine bodyPost_end (results_none rfl _ _ _) rfl ?_ | refine bodyPost_ret (results_none rfl _ _ _) rfl ?_
  exact FIN.out _ HB5.out
set_option maxRecDepth 20000 in
set_option maxHeartbeats 4000000 in
theorem done_other_true_true (P : Nat) (fr : List Nat) (N : PM) (c : PA) (L : List PA) (a : AN) (bm bc ba B : Nat) (kt : ByteArray) (kv : Int) (ku ks : Bool) (sa : Option Addr) (sn sc : Nat) (X : World) (h : MAt P fr N X) (hq : N.q = c :: L) (hl : N.q.length ≤ 1000000) (hm : X.heap[bm]? = some (mpO P)) (hc : X.heap[bc]? = some (.cells #[.string kt, .int .i64 kv, .bool ku, .bool ks, .slice sa sn sc] 78 (0, 0))) (hA : X.heap[ba]? = some (anO a)) (hnb : bm ∉ fr ∧ bc ∉ fr ∧ ba ∉ fr) (hB : B ≤ X.heap.size) (hob : (kv == 5 || kv == 6) = false) (hlb : (kv == 17 || kv == 18 || kv == 3) = true) (hks : ks = true) (n1 : (a.out == 1) = false) : Calls Tryd.prog 55 #[.pointer (some ⟨bm, 0, none⟩), .pointer (some ⟨bc, 0, none⟩), .pointer (some ⟨ba, 0, none⟩)] X (DoneOut P fr { N with q := L, bg := false } B X) := by
  subst hks
  have HD := Lib.hid (drop_M h hq hl)
  have HX : Hid (∀ Z, Stays fr X Z → Z.cell? ⟨bm, 0, none⟩ = some (.pointer (some ⟨P, 0, none⟩)) ∧ Z.heap[bc]? = some (.cells #[.string kt, .int .i64 kv, .bool ku, .bool true, .slice sa sn sc] 78 (0, 0)) ∧ Z.cell? ⟨ba, 2, none⟩ = some (.int .i64 a.out)) := Lib.hid (fun Z hZ => by
    refine ⟨?_, hZ.at_ hc hnb.2.1, (an_cells (hZ.at_ hA hnb.2.2)).2.2.1⟩
    have := hZ.at_ hm hnb.1
    unfold mpO at this
    exact cell_of this 0)
  have b0 := (HX.out X (Stays.refl _ _)).1
  have HO : Hid (∀ Z, Calls Tryd.prog 36 #[.agg #[.string kt, .int .i64 kv, .bool ku, .bool true, .slice sa sn sc]] Z fun e w' => e = .returned (.bool (kv == 5 || kv == 6)) ∧ Below Z.heap.size Z w') := Lib.hid (fun Z => opens_any ⟨kt, kv, ku, true, .slice sa sn sc⟩ Z)
  have HL : Hid (∀ Z, Calls Tryd.prog 57 #[.agg #[.string kt, .int .i64 kv, .bool ku, .bool true, .slice sa sn sc]] Z fun e w' => e = .returned (.bool (kv == 17 || kv == 18 || kv == 3)) ∧ Below Z.heap.size Z w') := Lib.hid (fun Z => leaves_any ⟨kt, kv, ku, true, .slice sa sn sc⟩ ⟨_, _, _, rfl⟩ Z)
  have HFrl : Hid (∀ b, b ∈ fr → b < X.heap.size) := Lib.hid h.lt
  have HPin := Lib.hid h.pin
  have HBx := Lib.hid hB
  clear h hm hc hA hnb hq hB hl
  rw [hob] at HO
  rw [hlb] at HL
  clear hob
  clear hlb
  go_enter Tryd.func55, Tryd.ntmps55
  go_upto_region 1 with (go_at_call 56; refine HD.out.mono ?_; rintro e w1 ⟨rfl, hs1⟩; have HS1 := Lib.hid hs1; clear hs1)
  obtain ⟨q1, rows, was, hm1, hq1, hr1, hw1, hs1, _⟩ := HS1.out
  obtain ⟨d0, _, _⟩ := HX.out _ hs1
  have m7 := (mir_cells hm1).c7
  have f7 := mir_fz hm1 7
  have HM1 := Lib.hid hm1
  have HQ1 := Lib.hid (And.intro hq1 (And.intro hr1 (And.intro hw1 hs1)))
  clear hm1 hq1 hr1 hw1 hs1
  go_upto_region 2 with fail
  clear b0 d0 m7 f7 HD
  obtain ⟨W2, hW2⟩ : ∃ W2, w1.setCell ⟨P, 7, none⟩ (.bool false) = W2 := ⟨_, rfl⟩
  rw [hW2]
  have hm2 : W2.heap[P]? = some (mirO q1 N.sel N.v N.n N.h rows was false) := by rw [← hW2]; exact mir_set7 HM1.out _
  have hs2 : Stays fr X W2 := by rw [← hW2]; exact HQ1.out.2.2.2.setCell (.inl HPin.out) _
  have hk2 : KeepT [75] w1 W2 := by rw [← hW2]; exact KeepT.of (Stays.setCell (fp := [P]) (Stays.refl _ _) (.inl (by simp)) _) (fun b hb => by simp at hb; subst hb; exact ⟨_, _, _, HM1.out, by simp⟩)
  obtain ⟨hq1, hr1, hw1, _⟩ := HQ1.out
  have hat : MAt P fr { N with q := L, bg := false } W2 := ⟨⟨q1, rows, was, hm2, hq1.kt hk2 (by decide) (by decide) (fun _ e => e), hr1.kt hk2 (by decide) (by decide) (fun _ e => e), hw1.kt hk2 (by decide) (fun _ e => e)⟩, HPin.out, fun b hb => Nat.lt_of_lt_of_le (HFrl.out b hb) hs2.size⟩
  have HAt := Lib.hid hat
  have HM2 := Lib.hid hm2
  have HS2 := Lib.hid hs2
  have HXo : Hid (∀ Z, Below W2.heap.size W2 Z → Z.cell? ⟨bm, 0, none⟩ = some (.pointer (some ⟨P, 0, none⟩)) ∧ Z.cell? ⟨bc, 3, none⟩ = some (.bool true) ∧ Z.cell? ⟨ba, 2, none⟩ = some (.int .i64 a.out)) := Lib.hid (fun Z hZ => by
    obtain ⟨y0, y1, y2⟩ := HX.out _ (hs2.trans (Stays.ofBelow (fp := fr) hZ) (fun _ e => .inl e))
    exact ⟨y0, cell_of y1 3, y2⟩)
  have HRb : Hid (∀ Z, Below W2.heap.size W2 Z → Z.rangeAt bc 0 [.string kt, .int .i64 kv, .bool ku, .bool true, .slice sa sn sc]) := Lib.hid (fun Z hZ => box_range (z := 5) (cs := [.string kt, .int .i64 kv, .bool ku, .bool true, .slice sa sn sc]) (HX.out _ (hs2.trans (Stays.ofBelow (fp := fr) hZ) (fun _ e => .inl e))).2.1 0)
  have BR := Lib.hid (Below.refl W2.heap.size W2)
  obtain ⟨x0, x3, x2⟩ := HXo.out _ BR.out
  have FIN : Hid (∀ Z, Below W2.heap.size W2 Z → DoneOut P fr { N with q := L, bg := false } B X (.returned (.tuple #[])) Z) := Lib.hid (fun Z hZ => by
    have g := MG.below (HAt.out.bel hZ) (Below.refl _ _)
    exact ⟨rfl, mgb_stays (HS2.out.trans (Stays.ofBelow (fp := fr) hZ) (fun _ e => .inl e)) g HBx.out⟩)
  clear hat hm2 hs2 hk2 hq1 hr1 hw1 hW2 HM1 HQ1 HS1 HX
  clear HAt HS2 HM2
  go_wp2_with (first | (refine wpList_load_mid rfl 78 _ rfl bc 0 rfl [.string kt, .int .i64 kv, .bool ku, .bool true, .slice sa sn sc] _ (by first | exact HRb.out _ HB5.out | exact HRb.out _ HB4.out | exact HRb.out _ HB3.out | exact HRb.out _ BR.out) Tryd.underlying78 rfl Tryd.sizeAk ?_) | (have hX := HB3; clear hX; go_at_call 36; refine (HO.out _).mono ?_; rintro e w4 ⟨rfl, hb4⟩; have HB4 := Lib.hid (HB3.out.trans (hb4.mono HB3.out.size)); clear hb4; obtain ⟨z0, z3, z2⟩ := HXo.out _ HB4.out) | (go_at_call 36; refine (HO.out _).mono ?_; rintro e w3 ⟨rfl, hb3⟩; have HB3 := Lib.hid hb3; clear hb3; obtain ⟨y0, y3, y2⟩ := HXo.out _ HB3.out) | (go_at_call 57; refine (HL.out _).mono ?_; rintro e w5 ⟨rfl, hb5⟩; have HB5 := Lib.hid (HB4.out.trans (hb5.mono HB4.out.size)); clear hb5; obtain ⟨v0, v3, v2⟩ := HXo.out _ HB5.out))
  first | refine bodyPost_end (results_none rfl _ _ _) rfl ?_ | refine bodyPost_ret (results_none rfl _ _ _) rfl ?_
  exact FIN.out _ HB5.out
set_option maxRecDepth 20000 in
set_option maxHeartbeats 4000000 in
theorem done_other_true_false (P : Nat) (fr : List Nat) (N : PM) (c : PA) (L : List PA) (a : AN) (bm bc ba B : Nat) (kt : ByteArray) (kv : Int) (ku ks : Bool) (sa : Option Addr) (sn sc : Nat) (X : World) (h : MAt P fr N X) (hq : N.q = c :: L) (hl : N.q.length ≤ 1000000) (hm : X.heap[bm]? = some (mpO P)) (hc : X.heap[bc]? = some (.cells #[.string kt, .int .i64 kv, .bool ku, .bool ks, .slice sa sn sc] 78 (0, 0))) (hA : X.heap[ba]? = some (anO a)) (hnb : bm ∉ fr ∧ bc ∉ fr ∧ ba ∉ fr) (hB : B ≤ X.heap.size) (hob : (kv == 5 || kv == 6) = false) (hlb : (kv == 17 || kv == 18 || kv == 3) = true) (hks : ks = false) (n1 : (a.out == 1) = false) : Calls Tryd.prog 55 #[.pointer (some ⟨bm, 0, none⟩), .pointer (some ⟨bc, 0, none⟩), .pointer (some ⟨ba, 0, none⟩)] X (DoneOut P fr { N with q := L, bg := false } B X) := by
  subst hks
  have HD := Lib.hid (drop_M h hq hl)
  have HX : Hid (∀ Z, Stays fr X Z → Z.cell? ⟨bm, 0, none⟩ = some (.pointer (some ⟨P, 0, none⟩)) ∧ Z.heap[bc]? = some (.cells #[.string kt, .int .i64 kv, .bool ku, .bool false, .slice sa sn sc] 78 (0, 0)) ∧ Z.cell? ⟨ba, 2, none⟩ = some (.int .i64 a.out)) := Lib.hid (fun Z hZ => by
    refine ⟨?_, hZ.at_ hc hnb.2.1, (an_cells (hZ.at_ hA hnb.2.2)).2.2.1⟩
    have := hZ.at_ hm hnb.1
    unfold mpO at this
    exact cell_of this 0)
  have b0 := (HX.out X (Stays.refl _ _)).1
  have HO : Hid (∀ Z, Calls Tryd.prog 36 #[.agg #[.string kt, .int .i64 kv, .bool ku, .bool false, .slice sa sn sc]] Z fun e w' => e = .returned (.bool (kv == 5 || kv == 6)) ∧ Below Z.heap.size Z w') := Lib.hid (fun Z => opens_any ⟨kt, kv, ku, false, .slice sa sn sc⟩ Z)
  have HL : Hid (∀ Z, Calls Tryd.prog 57 #[.agg #[.string kt, .int .i64 kv, .bool ku, .bool false, .slice sa sn sc]] Z fun e w' => e = .returned (.bool (kv == 17 || kv == 18 || kv == 3)) ∧ Below Z.heap.size Z w') := Lib.hid (fun Z => leaves_any ⟨kt, kv, ku, false, .slice sa sn sc⟩ ⟨_, _, _, rfl⟩ Z)
  have HFrl : Hid (∀ b, b ∈ fr → b < X.heap.size) := Lib.hid h.lt
  have HPin := Lib.hid h.pin
  have HBx := Lib.hid hB
  clear h hm hc hA hnb hq hB hl
  rw [hob] at HO
  rw [hlb] at HL
  clear hob
  clear hlb
  go_enter Tryd.func55, Tryd.ntmps55
  go_upto_region 1 with (go_at_call 56; refine HD.out.mono ?_; rintro e w1 ⟨rfl, hs1⟩; have HS1 := Lib.hid hs1; clear hs1)
  obtain ⟨q1, rows, was, hm1, hq1, hr1, hw1, hs1, _⟩ := HS1.out
  obtain ⟨d0, _, _⟩ := HX.out _ hs1
  have m7 := (mir_cells hm1).c7
  have f7 := mir_fz hm1 7
  have HM1 := Lib.hid hm1
  have HQ1 := Lib.hid (And.intro hq1 (And.intro hr1 (And.intro hw1 hs1)))
  clear hm1 hq1 hr1 hw1 hs1
  go_upto_region 2 with fail
  clear b0 d0 m7 f7 HD
  obtain ⟨W2, hW2⟩ : ∃ W2, w1.setCell ⟨P, 7, none⟩ (.bool false) = W2 := ⟨_, rfl⟩
  rw [hW2]
  have hm2 : W2.heap[P]? = some (mirO q1 N.sel N.v N.n N.h rows was false) := by rw [← hW2]; exact mir_set7 HM1.out _
  have hs2 : Stays fr X W2 := by rw [← hW2]; exact HQ1.out.2.2.2.setCell (.inl HPin.out) _
  have hk2 : KeepT [75] w1 W2 := by rw [← hW2]; exact KeepT.of (Stays.setCell (fp := [P]) (Stays.refl _ _) (.inl (by simp)) _) (fun b hb => by simp at hb; subst hb; exact ⟨_, _, _, HM1.out, by simp⟩)
  obtain ⟨hq1, hr1, hw1, _⟩ := HQ1.out
  have hat : MAt P fr { N with q := L, bg := false } W2 := ⟨⟨q1, rows, was, hm2, hq1.kt hk2 (by decide) (by decide) (fun _ e => e), hr1.kt hk2 (by decide) (by decide) (fun _ e => e), hw1.kt hk2 (by decide) (fun _ e => e)⟩, HPin.out, fun b hb => Nat.lt_of_lt_of_le (HFrl.out b hb) hs2.size⟩
  have HAt := Lib.hid hat
  have HM2 := Lib.hid hm2
  have HS2 := Lib.hid hs2
  have HXo : Hid (∀ Z, Below W2.heap.size W2 Z → Z.cell? ⟨bm, 0, none⟩ = some (.pointer (some ⟨P, 0, none⟩)) ∧ Z.cell? ⟨bc, 3, none⟩ = some (.bool false) ∧ Z.cell? ⟨ba, 2, none⟩ = some (.int .i64 a.out)) := Lib.hid (fun Z hZ => by
    obtain ⟨y0, y1, y2⟩ := HX.out _ (hs2.trans (Stays.ofBelow (fp := fr) hZ) (fun _ e => .inl e))
    exact ⟨y0, cell_of y1 3, y2⟩)
  have HRb : Hid (∀ Z, Below W2.heap.size W2 Z → Z.rangeAt bc 0 [.string kt, .int .i64 kv, .bool ku, .bool false, .slice sa sn sc]) := Lib.hid (fun Z hZ => box_range (z := 5) (cs := [.string kt, .int .i64 kv, .bool ku, .bool false, .slice sa sn sc]) (HX.out _ (hs2.trans (Stays.ofBelow (fp := fr) hZ) (fun _ e => .inl e))).2.1 0)
  have BR := Lib.hid (Below.refl W2.heap.size W2)
  obtain ⟨x0, x3, x2⟩ := HXo.out _ BR.out
  have FIN : Hid (∀ Z, Below W2.heap.size W2 Z → DoneOut P fr { N with q := L, bg := false } B X (.returned (.tuple #[])) Z) := Lib.hid (fun Z hZ => by
    have g := MG.below (HAt.out.bel hZ) (Below.refl _ _)
    exact ⟨rfl, mgb_stays (HS2.out.trans (Stays.ofBelow (fp := fr) hZ) (fun _ e => .inl e)) g HBx.out⟩)
  clear hat hm2 hs2 hk2 hq1 hr1 hw1 hW2 HM1 HQ1 HS1 HX
  clear HAt HS2 HM2
  go_wp2_with (first | (refine wpList_load_mid rfl 78 _ rfl bc 0 rfl [.string kt, .int .i64 kv, .bool ku, .bool false, .slice sa sn sc] _ (by first | exact HRb.out _ HB5.out | exact HRb.out _ HB4.out | exact HRb.out _ HB3.out | exact HRb.out _ BR.out) Tryd.underlying78 rfl Tryd.sizeAk ?_) | (have hX := HB3; clear hX; go_at_call 36; refine (HO.out _).mono ?_; rintro e w4 ⟨rfl, hb4⟩; have HB4 := Lib.hid (HB3.out.trans (hb4.mono HB3.out.size)); clear hb4; obtain ⟨z0, z3, z2⟩ := HXo.out _ HB4.out) | (go_at_call 36; refine (HO.out _).mono ?_; rintro e w3 ⟨rfl, hb3⟩; have HB3 := Lib.hid hb3; clear hb3; obtain ⟨y0, y3, y2⟩ := HXo.out _ HB3.out) | (go_at_call 57; refine (HL.out _).mono ?_; rintro e w5 ⟨rfl, hb5⟩; have HB5 := Lib.hid (HB4.out.trans (hb5.mono HB4.out.size)); clear hb5; obtain ⟨v0, v3, v2⟩ := HXo.out _ HB5.out))
  first | refine bodyPost_end (results_none rfl _ _ _) rfl ?_ | refine bodyPost_ret (results_none rfl _ _ _) rfl ?_
  exact FIN.out _ HB5.out
set_option maxRecDepth 20000 in
set_option maxHeartbeats 4000000 in
theorem done_other_false_true (P : Nat) (fr : List Nat) (N : PM) (c : PA) (L : List PA) (a : AN) (bm bc ba B : Nat) (kt : ByteArray) (kv : Int) (ku ks : Bool) (sa : Option Addr) (sn sc : Nat) (X : World) (h : MAt P fr N X) (hq : N.q = c :: L) (hl : N.q.length ≤ 1000000) (hm : X.heap[bm]? = some (mpO P)) (hc : X.heap[bc]? = some (.cells #[.string kt, .int .i64 kv, .bool ku, .bool ks, .slice sa sn sc] 78 (0, 0))) (hA : X.heap[ba]? = some (anO a)) (hnb : bm ∉ fr ∧ bc ∉ fr ∧ ba ∉ fr) (hB : B ≤ X.heap.size) (hob : (kv == 5 || kv == 6) = false) (hlb : (kv == 17 || kv == 18 || kv == 3) = false) (hks : ks = true) (n1 : (a.out == 1) = false) : Calls Tryd.prog 55 #[.pointer (some ⟨bm, 0, none⟩), .pointer (some ⟨bc, 0, none⟩), .pointer (some ⟨ba, 0, none⟩)] X (DoneOut P fr { N with q := L, bg := false } B X) := by
  subst hks
  have HD := Lib.hid (drop_M h hq hl)
  have HX : Hid (∀ Z, Stays fr X Z → Z.cell? ⟨bm, 0, none⟩ = some (.pointer (some ⟨P, 0, none⟩)) ∧ Z.heap[bc]? = some (.cells #[.string kt, .int .i64 kv, .bool ku, .bool true, .slice sa sn sc] 78 (0, 0)) ∧ Z.cell? ⟨ba, 2, none⟩ = some (.int .i64 a.out)) := Lib.hid (fun Z hZ => by
    refine ⟨?_, hZ.at_ hc hnb.2.1, (an_cells (hZ.at_ hA hnb.2.2)).2.2.1⟩
    have := hZ.at_ hm hnb.1
    unfold mpO at this
    exact cell_of this 0)
  have b0 := (HX.out X (Stays.refl _ _)).1
  have HO : Hid (∀ Z, Calls Tryd.prog 36 #[.agg #[.string kt, .int .i64 kv, .bool ku, .bool true, .slice sa sn sc]] Z fun e w' => e = .returned (.bool (kv == 5 || kv == 6)) ∧ Below Z.heap.size Z w') := Lib.hid (fun Z => opens_any ⟨kt, kv, ku, true, .slice sa sn sc⟩ Z)
  have HL : Hid (∀ Z, Calls Tryd.prog 57 #[.agg #[.string kt, .int .i64 kv, .bool ku, .bool true, .slice sa sn sc]] Z fun e w' => e = .returned (.bool (kv == 17 || kv == 18 || kv == 3)) ∧ Below Z.heap.size Z w') := Lib.hid (fun Z => leaves_any ⟨kt, kv, ku, true, .slice sa sn sc⟩ ⟨_, _, _, rfl⟩ Z)
  have HFrl : Hid (∀ b, b ∈ fr → b < X.heap.size) := Lib.hid h.lt
  have HPin := Lib.hid h.pin
  have HBx := Lib.hid hB
  clear h hm hc hA hnb hq hB hl
  rw [hob] at HO
  rw [hlb] at HL
  clear hob
  clear hlb
  go_enter Tryd.func55, Tryd.ntmps55
  go_upto_region 1 with (go_at_call 56; refine HD.out.mono ?_; rintro e w1 ⟨rfl, hs1⟩; have HS1 := Lib.hid hs1; clear hs1)
  obtain ⟨q1, rows, was, hm1, hq1, hr1, hw1, hs1, _⟩ := HS1.out
  obtain ⟨d0, _, _⟩ := HX.out _ hs1
  have m7 := (mir_cells hm1).c7
  have f7 := mir_fz hm1 7
  have HM1 := Lib.hid hm1
  have HQ1 := Lib.hid (And.intro hq1 (And.intro hr1 (And.intro hw1 hs1)))
  clear hm1 hq1 hr1 hw1 hs1
  go_upto_region 2 with fail
  clear b0 d0 m7 f7 HD
  obtain ⟨W2, hW2⟩ : ∃ W2, w1.setCell ⟨P, 7, none⟩ (.bool false) = W2 := ⟨_, rfl⟩
  rw [hW2]
  have hm2 : W2.heap[P]? = some (mirO q1 N.sel N.v N.n N.h rows was false) := by rw [← hW2]; exact mir_set7 HM1.out _
  have hs2 : Stays fr X W2 := by rw [← hW2]; exact HQ1.out.2.2.2.setCell (.inl HPin.out) _
  have hk2 : KeepT [75] w1 W2 := by rw [← hW2]; exact KeepT.of (Stays.setCell (fp := [P]) (Stays.refl _ _) (.inl (by simp)) _) (fun b hb => by simp at hb; subst hb; exact ⟨_, _, _, HM1.out, by simp⟩)
  obtain ⟨hq1, hr1, hw1, _⟩ := HQ1.out
  have hat : MAt P fr { N with q := L, bg := false } W2 := ⟨⟨q1, rows, was, hm2, hq1.kt hk2 (by decide) (by decide) (fun _ e => e), hr1.kt hk2 (by decide) (by decide) (fun _ e => e), hw1.kt hk2 (by decide) (fun _ e => e)⟩, HPin.out, fun b hb => Nat.lt_of_lt_of_le (HFrl.out b hb) hs2.size⟩
  have HAt := Lib.hid hat
  have HM2 := Lib.hid hm2
  have HS2 := Lib.hid hs2
  have HXo : Hid (∀ Z, Below W2.heap.size W2 Z → Z.cell? ⟨bm, 0, none⟩ = some (.pointer (some ⟨P, 0, none⟩)) ∧ Z.cell? ⟨bc, 3, none⟩ = some (.bool true) ∧ Z.cell? ⟨ba, 2, none⟩ = some (.int .i64 a.out)) := Lib.hid (fun Z hZ => by
    obtain ⟨y0, y1, y2⟩ := HX.out _ (hs2.trans (Stays.ofBelow (fp := fr) hZ) (fun _ e => .inl e))
    exact ⟨y0, cell_of y1 3, y2⟩)
  have HRb : Hid (∀ Z, Below W2.heap.size W2 Z → Z.rangeAt bc 0 [.string kt, .int .i64 kv, .bool ku, .bool true, .slice sa sn sc]) := Lib.hid (fun Z hZ => box_range (z := 5) (cs := [.string kt, .int .i64 kv, .bool ku, .bool true, .slice sa sn sc]) (HX.out _ (hs2.trans (Stays.ofBelow (fp := fr) hZ) (fun _ e => .inl e))).2.1 0)
  have BR := Lib.hid (Below.refl W2.heap.size W2)
  obtain ⟨x0, x3, x2⟩ := HXo.out _ BR.out
  have FIN : Hid (∀ Z, Below W2.heap.size W2 Z → DoneOut P fr { N with q := L, bg := false } B X (.returned (.tuple #[])) Z) := Lib.hid (fun Z hZ => by
    have g := MG.below (HAt.out.bel hZ) (Below.refl _ _)
    exact ⟨rfl, mgb_stays (HS2.out.trans (Stays.ofBelow (fp := fr) hZ) (fun _ e => .inl e)) g HBx.out⟩)
  clear hat hm2 hs2 hk2 hq1 hr1 hw1 hW2 HM1 HQ1 HS1 HX
  clear HAt HS2 HM2
  go_wp2_with (first | (refine wpList_load_mid rfl 78 _ rfl bc 0 rfl [.string kt, .int .i64 kv, .bool ku, .bool true, .slice sa sn sc] _ (by first | exact HRb.out _ HB5.out | exact HRb.out _ HB4.out | exact HRb.out _ HB3.out | exact HRb.out _ BR.out) Tryd.underlying78 rfl Tryd.sizeAk ?_) | (have hX := HB3; clear hX; go_at_call 36; refine (HO.out _).mono ?_; rintro e w4 ⟨rfl, hb4⟩; have HB4 := Lib.hid (HB3.out.trans (hb4.mono HB3.out.size)); clear hb4; obtain ⟨z0, z3, z2⟩ := HXo.out _ HB4.out) | (go_at_call 36; refine (HO.out _).mono ?_; rintro e w3 ⟨rfl, hb3⟩; have HB3 := Lib.hid hb3; clear hb3; obtain ⟨y0, y3, y2⟩ := HXo.out _ HB3.out) | (go_at_call 57; refine (HL.out _).mono ?_; rintro e w5 ⟨rfl, hb5⟩; have HB5 := Lib.hid (HB4.out.trans (hb5.mono HB4.out.size)); clear hb5; obtain ⟨v0, v3, v2⟩ := HXo.out _ HB5.out))
  first | refine bodyPost_end (results_none rfl _ _ _) rfl ?_ | refine bodyPost_ret (results_none rfl _ _ _) rfl ?_
  exact FIN.out _ HB5.out
set_option maxRecDepth 20000 in
set_option maxHeartbeats 4000000 in
theorem done_other_false_false (P : Nat) (fr : List Nat) (N : PM) (c : PA) (L : List PA) (a : AN) (bm bc ba B : Nat) (kt : ByteArray) (kv : Int) (ku ks : Bool) (sa : Option Addr) (sn sc : Nat) (X : World) (h : MAt P fr N X) (hq : N.q = c :: L) (hl : N.q.length ≤ 1000000) (hm : X.heap[bm]? = some (mpO P)) (hc : X.heap[bc]? = some (.cells #[.string kt, .int .i64 kv, .bool ku, .bool ks, .slice sa sn sc] 78 (0, 0))) (hA : X.heap[ba]? = some (anO a)) (hnb : bm ∉ fr ∧ bc ∉ fr ∧ ba ∉ fr) (hB : B ≤ X.heap.size) (hob : (kv == 5 || kv == 6) = false) (hlb : (kv == 17 || kv == 18 || kv == 3) = false) (hks : ks = false) (_n1 : (a.out == 1) = false) : Calls Tryd.prog 55 #[.pointer (some ⟨bm, 0, none⟩), .pointer (some ⟨bc, 0, none⟩), .pointer (some ⟨ba, 0, none⟩)] X (DoneOut P fr { N with q := L, bg := false } B X) := by
  subst hks
  have HD := Lib.hid (drop_M h hq hl)
  have HX : Hid (∀ Z, Stays fr X Z → Z.cell? ⟨bm, 0, none⟩ = some (.pointer (some ⟨P, 0, none⟩)) ∧ Z.heap[bc]? = some (.cells #[.string kt, .int .i64 kv, .bool ku, .bool false, .slice sa sn sc] 78 (0, 0)) ∧ Z.cell? ⟨ba, 2, none⟩ = some (.int .i64 a.out)) := Lib.hid (fun Z hZ => by
    refine ⟨?_, hZ.at_ hc hnb.2.1, (an_cells (hZ.at_ hA hnb.2.2)).2.2.1⟩
    have := hZ.at_ hm hnb.1
    unfold mpO at this
    exact cell_of this 0)
  have b0 := (HX.out X (Stays.refl _ _)).1
  have HO : Hid (∀ Z, Calls Tryd.prog 36 #[.agg #[.string kt, .int .i64 kv, .bool ku, .bool false, .slice sa sn sc]] Z fun e w' => e = .returned (.bool (kv == 5 || kv == 6)) ∧ Below Z.heap.size Z w') := Lib.hid (fun Z => opens_any ⟨kt, kv, ku, false, .slice sa sn sc⟩ Z)
  have HL : Hid (∀ Z, Calls Tryd.prog 57 #[.agg #[.string kt, .int .i64 kv, .bool ku, .bool false, .slice sa sn sc]] Z fun e w' => e = .returned (.bool (kv == 17 || kv == 18 || kv == 3)) ∧ Below Z.heap.size Z w') := Lib.hid (fun Z => leaves_any ⟨kt, kv, ku, false, .slice sa sn sc⟩ ⟨_, _, _, rfl⟩ Z)
  have HFrl : Hid (∀ b, b ∈ fr → b < X.heap.size) := Lib.hid h.lt
  have HPin := Lib.hid h.pin
  have HBx := Lib.hid hB
  clear h hm hc hA hnb hq hB hl
  rw [hob] at HO
  rw [hlb] at HL
  clear hob
  clear hlb
  go_enter Tryd.func55, Tryd.ntmps55
  go_upto_region 1 with (go_at_call 56; refine HD.out.mono ?_; rintro e w1 ⟨rfl, hs1⟩; have HS1 := Lib.hid hs1; clear hs1)
  obtain ⟨q1, rows, was, hm1, hq1, hr1, hw1, hs1, _⟩ := HS1.out
  obtain ⟨d0, _, _⟩ := HX.out _ hs1
  have m7 := (mir_cells hm1).c7
  have f7 := mir_fz hm1 7
  have HM1 := Lib.hid hm1
  have HQ1 := Lib.hid (And.intro hq1 (And.intro hr1 (And.intro hw1 hs1)))
  clear hm1 hq1 hr1 hw1 hs1
  go_upto_region 2 with fail
  clear b0 d0 m7 f7 HD
  obtain ⟨W2, hW2⟩ : ∃ W2, w1.setCell ⟨P, 7, none⟩ (.bool false) = W2 := ⟨_, rfl⟩
  rw [hW2]
  have hm2 : W2.heap[P]? = some (mirO q1 N.sel N.v N.n N.h rows was false) := by rw [← hW2]; exact mir_set7 HM1.out _
  have hs2 : Stays fr X W2 := by rw [← hW2]; exact HQ1.out.2.2.2.setCell (.inl HPin.out) _
  have hk2 : KeepT [75] w1 W2 := by rw [← hW2]; exact KeepT.of (Stays.setCell (fp := [P]) (Stays.refl _ _) (.inl (by simp)) _) (fun b hb => by simp at hb; subst hb; exact ⟨_, _, _, HM1.out, by simp⟩)
  obtain ⟨hq1, hr1, hw1, _⟩ := HQ1.out
  have hat : MAt P fr { N with q := L, bg := false } W2 := ⟨⟨q1, rows, was, hm2, hq1.kt hk2 (by decide) (by decide) (fun _ e => e), hr1.kt hk2 (by decide) (by decide) (fun _ e => e), hw1.kt hk2 (by decide) (fun _ e => e)⟩, HPin.out, fun b hb => Nat.lt_of_lt_of_le (HFrl.out b hb) hs2.size⟩
  have HAt := Lib.hid hat
  have HM2 := Lib.hid hm2
  have HS2 := Lib.hid hs2
  have HXo : Hid (∀ Z, Below W2.heap.size W2 Z → Z.cell? ⟨bm, 0, none⟩ = some (.pointer (some ⟨P, 0, none⟩)) ∧ Z.cell? ⟨bc, 3, none⟩ = some (.bool false) ∧ Z.cell? ⟨ba, 2, none⟩ = some (.int .i64 a.out)) := Lib.hid (fun Z hZ => by
    obtain ⟨y0, y1, y2⟩ := HX.out _ (hs2.trans (Stays.ofBelow (fp := fr) hZ) (fun _ e => .inl e))
    exact ⟨y0, cell_of y1 3, y2⟩)
  have HRb : Hid (∀ Z, Below W2.heap.size W2 Z → Z.rangeAt bc 0 [.string kt, .int .i64 kv, .bool ku, .bool false, .slice sa sn sc]) := Lib.hid (fun Z hZ => box_range (z := 5) (cs := [.string kt, .int .i64 kv, .bool ku, .bool false, .slice sa sn sc]) (HX.out _ (hs2.trans (Stays.ofBelow (fp := fr) hZ) (fun _ e => .inl e))).2.1 0)
  have BR := Lib.hid (Below.refl W2.heap.size W2)
  obtain ⟨x0, x3, x2⟩ := HXo.out _ BR.out
  have FIN : Hid (∀ Z, Below W2.heap.size W2 Z → DoneOut P fr { N with q := L, bg := false } B X (.returned (.tuple #[])) Z) := Lib.hid (fun Z hZ => by
    have g := MG.below (HAt.out.bel hZ) (Below.refl _ _)
    exact ⟨rfl, mgb_stays (HS2.out.trans (Stays.ofBelow (fp := fr) hZ) (fun _ e => .inl e)) g HBx.out⟩)
  clear hat hm2 hs2 hk2 hq1 hr1 hw1 hW2 HM1 HQ1 HS1 HX
  clear HAt HS2 HM2
  go_wp2_with (first | (refine wpList_load_mid rfl 78 _ rfl bc 0 rfl [.string kt, .int .i64 kv, .bool ku, .bool false, .slice sa sn sc] _ (by first | exact HRb.out _ HB5.out | exact HRb.out _ HB4.out | exact HRb.out _ HB3.out | exact HRb.out _ BR.out) Tryd.underlying78 rfl Tryd.sizeAk ?_) | (have hX := HB3; clear hX; go_at_call 36; refine (HO.out _).mono ?_; rintro e w4 ⟨rfl, hb4⟩; have HB4 := Lib.hid (HB3.out.trans (hb4.mono HB3.out.size)); clear hb4; obtain ⟨z0, z3, z2⟩ := HXo.out _ HB4.out) | (go_at_call 36; refine (HO.out _).mono ?_; rintro e w3 ⟨rfl, hb3⟩; have HB3 := Lib.hid hb3; clear hb3; obtain ⟨y0, y3, y2⟩ := HXo.out _ HB3.out) | (go_at_call 57; refine (HL.out _).mono ?_; rintro e w5 ⟨rfl, hb5⟩; have HB5 := Lib.hid (HB4.out.trans (hb5.mono HB4.out.size)); clear hb5; obtain ⟨v0, v3, v2⟩ := HXo.out _ HB5.out))
  first | refine bodyPost_end (results_none rfl _ _ _) rfl ?_ | refine bodyPost_ret (results_none rfl _ _ _) rfl ?_
  exact FIN.out _ HB5.out
set_option maxRecDepth 20000 in
set_option maxHeartbeats 4000000 in
theorem done_loud (P : Nat) (fr : List Nat) (N : PM) (c : PA) (L : List PA) (a : AN) (bm bc ba B : Nat) (kt : ByteArray) (kv : Int) (ku ks : Bool) (sa : Option Addr) (sn sc : Nat) (X : World) (h : MAt P fr N X) (hq : N.q = c :: L) (hl : N.q.length ≤ 1000000) (hm : X.heap[bm]? = some (mpO P)) (hc : X.heap[bc]? = some (.cells #[.string kt, .int .i64 kv, .bool ku, .bool ks, .slice sa sn sc] 78 (0, 0))) (hA : X.heap[ba]? = some (anO a)) (hnb : bm ∉ fr ∧ bc ∉ fr ∧ ba ∉ fr) (hB : B ≤ X.heap.size) (hob : (kv == 5 || kv == 6) = false) (hlb : (kv == 17 || kv == 18 || kv == 3) = false) (hks : ks = false) (ho : a.out = 1) : Calls Tryd.prog 55 #[.pointer (some ⟨bm, 0, none⟩), .pointer (some ⟨bc, 0, none⟩), .pointer (some ⟨ba, 0, none⟩)] X (DoneOut P fr { N with q := L, bg := false } B X) := by
  subst hks
  have HD := Lib.hid (drop_M h hq hl)
  have HX : Hid (∀ Z, Stays fr X Z → Z.cell? ⟨bm, 0, none⟩ = some (.pointer (some ⟨P, 0, none⟩)) ∧ Z.heap[bc]? = some (.cells #[.string kt, .int .i64 kv, .bool ku, .bool false, .slice sa sn sc] 78 (0, 0)) ∧ Z.cell? ⟨ba, 2, none⟩ = some (.int .i64 1)) := Lib.hid (fun Z hZ => by
    refine ⟨?_, hZ.at_ hc hnb.2.1, by rw [← ho]; exact (an_cells (hZ.at_ hA hnb.2.2)).2.2.1⟩
    have := hZ.at_ hm hnb.1
    unfold mpO at this
    exact cell_of this 0)
  have b0 := (HX.out X (Stays.refl _ _)).1
  have HO : Hid (∀ Z, Calls Tryd.prog 36 #[.agg #[.string kt, .int .i64 kv, .bool ku, .bool false, .slice sa sn sc]] Z fun e w' => e = .returned (.bool (kv == 5 || kv == 6)) ∧ Below Z.heap.size Z w') := Lib.hid (fun Z => opens_any ⟨kt, kv, ku, false, .slice sa sn sc⟩ Z)
  have HL : Hid (∀ Z, Calls Tryd.prog 57 #[.agg #[.string kt, .int .i64 kv, .bool ku, .bool false, .slice sa sn sc]] Z fun e w' => e = .returned (.bool (kv == 17 || kv == 18 || kv == 3)) ∧ Below Z.heap.size Z w') := Lib.hid (fun Z => leaves_any ⟨kt, kv, ku, false, .slice sa sn sc⟩ ⟨_, _, _, rfl⟩ Z)
  have HFrl : Hid (∀ b, b ∈ fr → b < X.heap.size) := Lib.hid h.lt
  have HPin := Lib.hid h.pin
  have HBx := Lib.hid hB
  clear ho h hm hc hA hnb hq hB hl
  rw [hob] at HO
  rw [hlb] at HL
  clear hob
  clear hlb
  go_enter Tryd.func55, Tryd.ntmps55
  go_upto_region 1 with (go_at_call 56; refine HD.out.mono ?_; rintro e w1 ⟨rfl, hs1⟩; have HS1 := Lib.hid hs1; clear hs1)
  obtain ⟨q1, rows, was, hm1, hq1, hr1, hw1, hs1, _⟩ := HS1.out
  obtain ⟨d0, _, _⟩ := HX.out _ hs1
  have m7 := (mir_cells hm1).c7
  have f7 := mir_fz hm1 7
  have HM1 := Lib.hid hm1
  have HQ1 := Lib.hid (And.intro hq1 (And.intro hr1 (And.intro hw1 hs1)))
  clear hm1 hq1 hr1 hw1 hs1
  go_upto_region 2 with fail
  clear b0 d0 m7 f7 HD
  obtain ⟨W2, hW2⟩ : ∃ W2, w1.setCell ⟨P, 7, none⟩ (.bool false) = W2 := ⟨_, rfl⟩
  rw [hW2]
  have hm2 : W2.heap[P]? = some (mirO q1 N.sel N.v N.n N.h rows was false) := by rw [← hW2]; exact mir_set7 HM1.out _
  have hs2 : Stays fr X W2 := by rw [← hW2]; exact HQ1.out.2.2.2.setCell (.inl HPin.out) _
  have hk2 : KeepT [75] w1 W2 := by rw [← hW2]; exact KeepT.of (Stays.setCell (fp := [P]) (Stays.refl _ _) (.inl (by simp)) _) (fun b hb => by simp at hb; subst hb; exact ⟨_, _, _, HM1.out, by simp⟩)
  obtain ⟨hq1, hr1, hw1, _⟩ := HQ1.out
  have hat : MAt P fr { N with q := L, bg := false } W2 := ⟨⟨q1, rows, was, hm2, hq1.kt hk2 (by decide) (by decide) (fun _ e => e), hr1.kt hk2 (by decide) (by decide) (fun _ e => e), hw1.kt hk2 (by decide) (fun _ e => e)⟩, HPin.out, fun b hb => Nat.lt_of_lt_of_le (HFrl.out b hb) hs2.size⟩
  have HAt := Lib.hid hat
  have HM2 := Lib.hid hm2
  have HS2 := Lib.hid hs2
  have HXo : Hid (∀ Z, Below W2.heap.size W2 Z → Z.cell? ⟨bm, 0, none⟩ = some (.pointer (some ⟨P, 0, none⟩)) ∧ Z.cell? ⟨bc, 3, none⟩ = some (.bool false) ∧ Z.cell? ⟨ba, 2, none⟩ = some (.int .i64 1)) := Lib.hid (fun Z hZ => by
    obtain ⟨y0, y1, y2⟩ := HX.out _ (hs2.trans (Stays.ofBelow (fp := fr) hZ) (fun _ e => .inl e))
    exact ⟨y0, cell_of y1 3, y2⟩)
  have HRb : Hid (∀ Z, Below W2.heap.size W2 Z → Z.rangeAt bc 0 [.string kt, .int .i64 kv, .bool ku, .bool false, .slice sa sn sc]) := Lib.hid (fun Z hZ => box_range (z := 5) (cs := [.string kt, .int .i64 kv, .bool ku, .bool false, .slice sa sn sc]) (HX.out _ (hs2.trans (Stays.ofBelow (fp := fr) hZ) (fun _ e => .inl e))).2.1 0)
  have BR := Lib.hid (Below.refl W2.heap.size W2)
  obtain ⟨x0, x3, x2⟩ := HXo.out _ BR.out
  have FIN : Hid (∀ Z, Below W2.heap.size W2 Z → DoneOut P fr { N with q := L, bg := false } B X (.returned (.tuple #[])) Z) := Lib.hid (fun Z hZ => by
    have g := MG.below (HAt.out.bel hZ) (Below.refl _ _)
    exact ⟨rfl, mgb_stays (HS2.out.trans (Stays.ofBelow (fp := fr) hZ) (fun _ e => .inl e)) g HBx.out⟩)
  clear hat hm2 hs2 hk2 hq1 hr1 hw1 hW2 HM1 HQ1 HS1 HX
  clear HAt HS2 HM2
  go_wp2_with (first | (refine wpList_load_mid rfl 78 _ rfl bc 0 rfl [.string kt, .int .i64 kv, .bool ku, .bool false, .slice sa sn sc] _ (by first | exact HRb.out _ HB5.out | exact HRb.out _ HB4.out | exact HRb.out _ HB3.out | exact HRb.out _ BR.out) Tryd.underlying78 rfl Tryd.sizeAk ?_) | (have hX := HB3; clear hX; go_at_call 36; refine (HO.out _).mono ?_; rintro e w4 ⟨rfl, hb4⟩; have HB4 := Lib.hid (HB3.out.trans (hb4.mono HB3.out.size)); clear hb4; obtain ⟨z0, z3, z2⟩ := HXo.out _ HB4.out) | (go_at_call 36; refine (HO.out _).mono ?_; rintro e w3 ⟨rfl, hb3⟩; have HB3 := Lib.hid hb3; clear hb3; obtain ⟨y0, y3, y2⟩ := HXo.out _ HB3.out) | (go_at_call 57; refine (HL.out _).mono ?_; rintro e w5 ⟨rfl, hb5⟩; have HB5 := Lib.hid (HB4.out.trans (hb5.mono HB4.out.size)); clear hb5; obtain ⟨v0, v3, v2⟩ := HXo.out _ HB5.out))
  first | refine bodyPost_end (results_none rfl _ _ _) rfl ?_ | refine bodyPost_ret (results_none rfl _ _ _) rfl ?_
  exact FIN.out _ HB5.out
set_option maxRecDepth 20000 in
set_option maxHeartbeats 4000000 in
theorem done_silent (P : Nat) (fr : List Nat) (N : PM) (c : PA) (L : List PA) (a : AN) (bm bc ba B : Nat) (kt : ByteArray) (kv : Int) (ku ks : Bool) (sa : Option Addr) (sn sc : Nat) (X : World) (h : MAt P fr N X) (hq : N.q = c :: L) (hl : N.q.length ≤ 1000000) (hm : X.heap[bm]? = some (mpO P)) (hc : X.heap[bc]? = some (.cells #[.string kt, .int .i64 kv, .bool ku, .bool ks, .slice sa sn sc] 78 (0, 0))) (hA : X.heap[ba]? = some (anO a)) (hnb : bm ∉ fr ∧ bc ∉ fr ∧ ba ∉ fr) (hB : B ≤ X.heap.size) (hob : (kv == 5 || kv == 6) = false) (hlb : (kv == 17 || kv == 18 || kv == 3) = false) (hks : ks = true) (ho : a.out = 1) (hset : ku = c.uid ∧ RgsIn fr X (.slice sa sn sc) c.set ∧ c.set.length ≤ 1000000 ∧ N.rows.length ≤ 1000000) : Calls Tryd.prog 55 #[.pointer (some ⟨bm, 0, none⟩), .pointer (some ⟨bc, 0, none⟩), .pointer (some ⟨ba, 0, none⟩)] X (DoneOut P fr { N with q := L, bg := false, rows := forgetL c 0 N.rows } B X) := by
  subst hks
  have HSet := Lib.hid hset
  clear hset
  have HD := Lib.hid (drop_M h hq hl)
  have HX : Hid (∀ Z, Stays fr X Z → Z.cell? ⟨bm, 0, none⟩ = some (.pointer (some ⟨P, 0, none⟩)) ∧ Z.heap[bc]? = some (.cells #[.string kt, .int .i64 kv, .bool ku, .bool true, .slice sa sn sc] 78 (0, 0)) ∧ Z.cell? ⟨ba, 2, none⟩ = some (.int .i64 1)) := Lib.hid (fun Z hZ => by
    refine ⟨?_, hZ.at_ hc hnb.2.1, by rw [← ho]; exact (an_cells (hZ.at_ hA hnb.2.2)).2.2.1⟩
    have := hZ.at_ hm hnb.1
    unfold mpO at this
    exact cell_of this 0)
  have b0 := (HX.out X (Stays.refl _ _)).1
  have HO : Hid (∀ Z, Calls Tryd.prog 36 #[.agg #[.string kt, .int .i64 kv, .bool ku, .bool true, .slice sa sn sc]] Z fun e w' => e = .returned (.bool (kv == 5 || kv == 6)) ∧ Below Z.heap.size Z w') := Lib.hid (fun Z => opens_any ⟨kt, kv, ku, true, .slice sa sn sc⟩ Z)
  have HL : Hid (∀ Z, Calls Tryd.prog 57 #[.agg #[.string kt, .int .i64 kv, .bool ku, .bool true, .slice sa sn sc]] Z fun e w' => e = .returned (.bool (kv == 17 || kv == 18 || kv == 3)) ∧ Below Z.heap.size Z w') := Lib.hid (fun Z => leaves_any ⟨kt, kv, ku, true, .slice sa sn sc⟩ ⟨_, _, _, rfl⟩ Z)
  have HFrl : Hid (∀ b, b ∈ fr → b < X.heap.size) := Lib.hid h.lt
  have HPin := Lib.hid h.pin
  have HBx := Lib.hid hB
  clear ho h hm hc hA hnb hq hB hl
  rw [hob] at HO
  rw [hlb] at HL
  clear hob
  clear hlb
  go_enter Tryd.func55, Tryd.ntmps55
  go_upto_region 1 with (go_at_call 56; refine HD.out.mono ?_; rintro e w1 ⟨rfl, hs1⟩; have HS1 := Lib.hid hs1; clear hs1)
  obtain ⟨q1, rows, was, hm1, hq1, hr1, hw1, hs1, hk1⟩ := HS1.out
  obtain ⟨d0, _, _⟩ := HX.out _ hs1
  have m7 := (mir_cells hm1).c7
  have f7 := mir_fz hm1 7
  have HM1 := Lib.hid hm1
  have HQ1 := Lib.hid (And.intro hq1 (And.intro hr1 (And.intro hw1 hs1)))
  clear hm1 hq1 hr1 hw1 hs1
  go_upto_region 2 with fail
  clear b0 d0 m7 f7 HD
  obtain ⟨W2, hW2⟩ : ∃ W2, w1.setCell ⟨P, 7, none⟩ (.bool false) = W2 := ⟨_, rfl⟩
  rw [hW2]
  have hm2 : W2.heap[P]? = some (mirO q1 N.sel N.v N.n N.h rows was false) := by rw [← hW2]; exact mir_set7 HM1.out _
  have hs2 : Stays fr X W2 := by rw [← hW2]; exact HQ1.out.2.2.2.setCell (.inl HPin.out) _
  have hk2 : KeepT [75] w1 W2 := by rw [← hW2]; exact KeepT.of (Stays.setCell (fp := [P]) (Stays.refl _ _) (.inl (by simp)) _) (fun b hb => by simp at hb; subst hb; exact ⟨_, _, _, HM1.out, by simp⟩)
  obtain ⟨hq1, hr1, hw1, _⟩ := HQ1.out
  have hat : MAt P fr { N with q := L, bg := false } W2 := ⟨⟨q1, rows, was, hm2, hq1.kt hk2 (by decide) (by decide) (fun _ e => e), hr1.kt hk2 (by decide) (by decide) (fun _ e => e), hw1.kt hk2 (by decide) (fun _ e => e)⟩, HPin.out, fun b hb => Nat.lt_of_lt_of_le (HFrl.out b hb) hs2.size⟩
  have HAt := Lib.hid hat
  have HM2 := Lib.hid hm2
  have HS2 := Lib.hid hs2
  have HXo : Hid (∀ Z, Below W2.heap.size W2 Z → Z.cell? ⟨bm, 0, none⟩ = some (.pointer (some ⟨P, 0, none⟩)) ∧ Z.cell? ⟨bc, 3, none⟩ = some (.bool true) ∧ Z.cell? ⟨ba, 2, none⟩ = some (.int .i64 1)) := Lib.hid (fun Z hZ => by
    obtain ⟨y0, y1, y2⟩ := HX.out _ (hs2.trans (Stays.ofBelow (fp := fr) hZ) (fun _ e => .inl e))
    exact ⟨y0, cell_of y1 3, y2⟩)
  have HRb : Hid (∀ Z, Below W2.heap.size W2 Z → Z.rangeAt bc 0 [.string kt, .int .i64 kv, .bool ku, .bool true, .slice sa sn sc]) := Lib.hid (fun Z hZ => box_range (z := 5) (cs := [.string kt, .int .i64 kv, .bool ku, .bool true, .slice sa sn sc]) (HX.out _ (hs2.trans (Stays.ofBelow (fp := fr) hZ) (fun _ e => .inl e))).2.1 0)
  have BR := Lib.hid (Below.refl W2.heap.size W2)
  obtain ⟨x0, x3, x2⟩ := HXo.out _ BR.out
  have HFg : Hid (∀ Z, Below W2.heap.size W2 Z → Calls Tryd.prog 58 #[.pointer (some ⟨P, 1, none⟩), .agg #[.string kt, .int .i64 kv, .bool ku, .bool true, .slice sa sn sc]] Z (DoneOut P fr { N with q := L, bg := false, rows := forgetL c 0 N.rows } B X)) := Lib.hid (fun Z hZ => by
    obtain ⟨hku, hset, hsl, hnr⟩ := HSet.out
    obtain ⟨q2, rw2, ws2, k1, k2, ⟨rs, r1, r2, r3⟩, k4⟩ := (HAt.out.bel hZ).ex
    have hset2 := (((hset.kt hk1 (by decide) (fun _ e => e)).kt hk2 (by decide) (fun _ e => e)).kt (KeepT.below (ts := []) hZ) (by decide) (fun _ e => e))
    refine (forget_any P fr q2 _ _ _ _ rw2 N.rows.length ws2 _ rs c kt kv ku true sa sn sc Z hku hset2 hsl k1 r1 (all_fv r3) hnr).mono ?_
    rintro e X' ⟨rfl, hs, hr⟩
    have hP : X'.heap[P]? = Z.heap[P]? := hs.block P (lt_of_heap k1) (fun e => by
      have e : rw2.ownBlock = some P := by simpa using e
      obtain ⟨cs, hc⟩ := r1.kind e
      exact kind_ne hc k1 (by decide) rfl)
    have g := MAt.rows (nb := []) (M' := { N with q := L, bg := false, rows := forgetL c 0 N.rows }) (B := B) (HAt.out.bel hZ) k1 k2 k4 r1 r2 (hs.mono (fun b hb => List.mem_cons_of_mem _ hb)) (hP.trans k1) rfl rfl (by rw [show (forgetL c 0 N.rows).length = N.rows.length from forgetL_len _ _ _]; exact hr) (by rw [List.append_nil]; exact fg_all c 0 r3) (fun b e => .inl (r2 b e)) (fun b hb => by cases hb)
    obtain ⟨fr', g1, g2, g3⟩ := g
    exact ⟨rfl, fr', g1, (HS2.out.trans (Stays.ofBelow (fp := fr) hZ) (fun _ e => .inl e)).trans g2 (fun _ e => .inl e), g3⟩)
  have HC5 : Hid (∀ Z, Below W2.heap.size W2 Z → Z.cell? ⟨bc, 0, none⟩ = some (.string kt) ∧ Z.cell? ⟨bc, 1, none⟩ = some (.int .i64 kv) ∧ Z.cell? ⟨bc, 2, none⟩ = some (.bool ku) ∧ Z.cell? ⟨bc, 4, none⟩ = some (.slice sa sn sc)) := Lib.hid (fun Z hZ => by
    have k := (HX.out _ (HS2.out.trans (Stays.ofBelow (fp := fr) hZ) (fun _ e => .inl e))).2.1
    exact ⟨cell_of k 0, cell_of k 1, cell_of k 2, cell_of k 4⟩)
  clear hat hm2 hs2 hk2 hq1 hr1 hw1 hW2 HM1 HQ1 HS1 HX
  clear HAt HS2 HM2 hk1 HSet
  go_upto_region 8 with (first | (refine wpList_load_mid rfl 78 _ rfl bc 0 rfl [.string kt, .int .i64 kv, .bool ku, .bool true, .slice sa sn sc] _ (by first | exact HRb.out _ HB5.out | exact HRb.out _ HB4.out | exact HRb.out _ HB3.out | exact HRb.out _ BR.out) Tryd.underlying78 rfl Tryd.sizeAk ?_) | (have hX := HB3; clear hX; go_at_call 36; refine (HO.out _).mono ?_; rintro e w4 ⟨rfl, hb4⟩; have HB4 := Lib.hid (HB3.out.trans (hb4.mono HB3.out.size)); clear hb4; obtain ⟨z0, z3, z2⟩ := HXo.out _ HB4.out) | (go_at_call 36; refine (HO.out _).mono ?_; rintro e w3 ⟨rfl, hb3⟩; have HB3 := Lib.hid hb3; clear hb3; obtain ⟨y0, y3, y2⟩ := HXo.out _ HB3.out) | (go_at_call 57; refine (HL.out _).mono ?_; rintro e w5 ⟨rfl, hb5⟩; have HB5 := Lib.hid (HB4.out.trans (hb5.mono HB4.out.size)); clear hb5; obtain ⟨v0, v3, v2⟩ := HXo.out _ HB5.out))
  obtain ⟨g0, g1, g2, g4⟩ := HC5.out _ HB5.out
  refine wp_region_N 4 (fun X => X = w5.drew) (by kernel_rfl) ?_
  refine wpAnyN_take (i := 0) (oi := { dst := some 49, op := Go.Op.load 24 (Go.Operand.tmp 0), type := 24, pos := "hear.go:90", after := #[], guard := none }) (oL := { dst := some 53, op := Go.Op.call { callee := Go.Callee.value (Go.Operand.func 58), args := #[Go.Operand.tmp 51, Go.Operand.tmp 52], argTypes := #[73, 78] }, type := 0, pos := "hear.go:90", after := #[{ on := 2, ground := Go.Ground.data }, { on := 3, ground := Go.Ground.data }], guard := none }) (v := .pointer (some ⟨P, 0, none⟩)) rfl rfl (by kernel_rfl) (by kernel_rfl) (by kernel_rfl) (by kernel_rfl) (fun _ _ _ h => h) (Or.inl ⟨by kernel_rfl, ?_⟩) rfl ?_
  · (intro X hX; subst hX <;> (go_simp; try (with_reducible rfl)))
  (try simp only [Act.put, List.setIfInBounds_toArray, List.set_cons_zero, List.set_cons_succ])
  refine wpAnyN_take (i := 1) (oi := { dst := some 50, op := Go.Op.nilCheck (Go.Operand.tmp 49), type := 0, pos := "hear.go:90", after := #[{ on := 0, ground := Go.Ground.data }], guard := none }) (oL := { dst := some 53, op := Go.Op.call { callee := Go.Callee.value (Go.Operand.func 58), args := #[Go.Operand.tmp 51, Go.Operand.tmp 52], argTypes := #[73, 78] }, type := 0, pos := "hear.go:90", after := #[{ on := 2, ground := Go.Ground.data }, { on := 3, ground := Go.Ground.data }], guard := none }) (v := .pointer (some ⟨P, 0, none⟩)) rfl rfl (by kernel_rfl) (by kernel_rfl) (by kernel_rfl) (by kernel_rfl) (fun _ _ _ h => h) (Or.inl ⟨by kernel_rfl, ?_⟩) rfl ?_
  · (intro X hX; subst hX <;> (go_simp; try (with_reducible rfl)))
  (try simp only [Act.put, List.setIfInBounds_toArray, List.set_cons_zero, List.set_cons_succ])
  refine wpAnyN_take (i := 2) (oi := { dst := some 51, op := Go.Op.fieldAddr 75 (Go.Operand.tmp 50) 1, type := 0, pos := "hear.go:90", after := #[{ on := 1, ground := Go.Ground.data }], guard := none }) (oL := { dst := some 53, op := Go.Op.call { callee := Go.Callee.value (Go.Operand.func 58), args := #[Go.Operand.tmp 51, Go.Operand.tmp 52], argTypes := #[73, 78] }, type := 0, pos := "hear.go:90", after := #[{ on := 2, ground := Go.Ground.data }, { on := 3, ground := Go.Ground.data }], guard := none }) (v := .pointer (some ⟨P, 1, none⟩)) rfl rfl (by kernel_rfl) (by kernel_rfl) (by kernel_rfl) (by kernel_rfl) (fun _ _ _ h => h) (Or.inl ⟨by kernel_rfl, ?_⟩) rfl ?_
  · (intro X hX; subst hX <;> (go_simp; try (with_reducible rfl)))
  (try simp only [Act.put, List.setIfInBounds_toArray, List.set_cons_zero, List.set_cons_succ])
  refine wpAnyN_take (i := 3) (oi := { dst := some 52, op := Go.Op.load 78 (Go.Operand.tmp 1), type := 78, pos := "hear.go:90", after := #[], guard := none }) (oL := { dst := some 53, op := Go.Op.call { callee := Go.Callee.value (Go.Operand.func 58), args := #[Go.Operand.tmp 51, Go.Operand.tmp 52], argTypes := #[73, 78] }, type := 0, pos := "hear.go:90", after := #[{ on := 2, ground := Go.Ground.data }, { on := 3, ground := Go.Ground.data }], guard := none }) (v := .agg #[.string kt, .int .i64 kv, .bool ku, .bool true, .slice sa sn sc]) rfl rfl (by kernel_rfl) (by kernel_rfl) (by kernel_rfl) (by kernel_rfl) (fun _ _ _ h => h) (Or.inl ⟨by kernel_rfl, ?_⟩) rfl ?_
  · (intro X hX; subst hX <;> (go_simp; try (with_reducible rfl)))
  (try simp only [Act.put, List.setIfInBounds_toArray, List.set_cons_zero, List.set_cons_succ])
  refine wpAnyN_one (i := 4) (o := { dst := some 53, op := Go.Op.call { callee := Go.Callee.value (Go.Operand.func 58), args := #[Go.Operand.tmp 51, Go.Operand.tmp 52], argTypes := #[73, 78] }, type := 0, pos := "hear.go:90", after := #[{ on := 2, ground := Go.Ground.data }, { on := 3, ground := Go.Ground.data }], guard := none }) (by kernel_rfl) rfl (fun K hK => ?_)
  go_simp
  refine (HFg.out _ HB5.out.drew).mono ?_
  rintro e w6 ⟨rfl, hfo⟩
  have HFO := Lib.hid hfo
  clear hfo
  refine hK.out _ _ (fun e => absurd (e.symm.trans (by kernel_rfl) : false = true) Bool.false_ne_true) ?_
  clear hK K
  (try simp only [Act.put, List.setIfInBounds_toArray, List.set_cons_zero, List.set_cons_succ])
  refine wpAnyN_of_H (S' := fun _ => True) _ _ _ _ (by kernel_rfl) ?_
  refine wpAnyH_done (by kernel_rfl) ?_ _
  go_wp2_with fail
  first | refine bodyPost_end (results_none rfl _ _ _) rfl ?_ | refine bodyPost_ret (results_none rfl _ _ _) rfl ?_
  exact ⟨rfl, HFO.out⟩
end Go.Proofs.YtlmlbcnjohjnlaaDoor

/- mirror: answered, by what is at hand. -/
namespace Go.Proofs.YtlmlbcnjohjnlaaDoor
open Go.RowKit

/-- What an answer with a command's tag changes. -/
def ansF (M : PM) (tag : ByteArray) (out : Int) : Option (PM → PM) := match M.q with
  | [] => none
  | c :: _ => if (c.tag.toList == tag.toList) = false ∨ out = 4 then none else some (fun N => doneM N c out)
set_option maxRecDepth 10000 in
set_option maxHeartbeats 2000000 in
theorem answered_none (P : Nat) (fr : List Nat) (M : PM) (a : AN) (w : World) (h : MAt P fr M w) (hq : M.q.length ≤ 1000000) (hem : M.q = []) : Calls Tryd.prog 38 #[.pointer (some ⟨P, 0, none⟩), .agg (anC a)] w (ChgOut P fr M none w) := by
  have q2 := two_below w (mpO P) (anO a)
  obtain ⟨Y, hY⟩ : ∃ Y, (w.alloc (mpO P)).alloc (anO a) = Y := ⟨_, rfl⟩
  have hz : Y.heap.size = w.heap.size + 1 + 1 := by rw [← hY]; simp
  rw [hY] at q2
  have r0 : Y.heap[w.heap.size]? = some (mpO P) := by rw [← hY, Below.heap_alloc _ _ _ (by simp)]; exact heap_new _ _
  have r1 : Y.heap[w.heap.size + 1]? = some (anO a) := by rw [← hY]; have := heap_new (w.alloc (mpO P)) (anO a); rw [show (w.alloc (mpO P)).heap.size = w.heap.size + 1 from by simp] at this; exact this
  have p0 : Y.cell? ⟨w.heap.size, 0, none⟩ = some (.pointer (some ⟨P, 0, none⟩)) := by unfold mpO at r0; exact cell_of r0 0
  obtain ⟨kt, kv, ku, ks, sa, sn, sc, kb, hfst, hkb, hkk⟩ := first_M h hq
  have HF := Lib.hid (hfst Y q2)
  have HXA : Hid (∀ X, Below Y.heap.size Y X → X.cell? ⟨w.heap.size + 1, 1, none⟩ = some (.string a.tag) ∧ X.cell? ⟨w.heap.size + 1, 2, none⟩ = some (.int .i64 a.out)) := Lib.hid (fun X hX => by
    have := an_cells (bel_at hX (by omega) r1)
    exact ⟨this.2.1, this.2.2.1⟩)
  have Q2 := Lib.hid q2
  have HY := Lib.hid hY
  obtain rfl : kb = false := by rw [hkb, hem]; rfl
  clear hY q2 r0 r1 hz h hq hfst hkb hkk hem
  unfold mpO anO at HY
  go_enter Tryd.func38, Tryd.ntmps38
  go_upto_region 1 with fail
  rw [HY.out]
  clear HY
  go_upto_region 2 with (go_at_call 35; refine HF.out.mono ?_; rintro e w3 ⟨rfl, hb3⟩; have HB3 := Lib.hid hb3; clear hb3)
  clear HF p0
  refine wp_gen (fun Y3 hY3 => ?_)
  have r3 : Y3.heap[w3.heap.size]? = some (.cells #[.string kt, .int .i64 kv, .bool ku, .bool ks, .slice sa sn sc] 78 (0, 0)) := by rw [hY3]; exact heap_new _ _
  have b3 : Below w3.heap.size w3 Y3 := by rw [hY3]; exact (Below.refl _ _).alloc (Nat.le_refl _) _
  have bb : Below Y.heap.size Y Y3 := HB3.out.trans (b3.mono HB3.out.size)
  have HBB := Lib.hid bb
  have HR3 := Lib.hid (And.intro r3 HB3.out.size)
  have t0 : Y3.cell? ⟨w3.heap.size, 0, none⟩ = some (.string kt) := cell_of r3 0
  obtain ⟨x1, x2⟩ := HXA.out _ bb
  clear hY3 r3 b3 bb
  go_wp2_with fail
  go_ret
  exact ⟨Q2.out.trans (HBB.out.mono Q2.out.size), rfl⟩
set_option maxRecDepth 10000 in
set_option maxHeartbeats 2000000 in
theorem answered_tag (P : Nat) (fr : List Nat) (M : PM) (a : AN) (w : World) (h : MAt P fr M w) (hq : M.q.length ≤ 1000000) (c : PA) (L : List PA) (hc : M.q = c :: L) (ht : (c.tag.toList == a.tag.toList) = false) : Calls Tryd.prog 38 #[.pointer (some ⟨P, 0, none⟩), .agg (anC a)] w (ChgOut P fr M none w) := by
  have q2 := two_below w (mpO P) (anO a)
  obtain ⟨Y, hY⟩ : ∃ Y, (w.alloc (mpO P)).alloc (anO a) = Y := ⟨_, rfl⟩
  have hz : Y.heap.size = w.heap.size + 1 + 1 := by rw [← hY]; simp
  rw [hY] at q2
  have r0 : Y.heap[w.heap.size]? = some (mpO P) := by rw [← hY, Below.heap_alloc _ _ _ (by simp)]; exact heap_new _ _
  have r1 : Y.heap[w.heap.size + 1]? = some (anO a) := by rw [← hY]; have := heap_new (w.alloc (mpO P)) (anO a); rw [show (w.alloc (mpO P)).heap.size = w.heap.size + 1 from by simp] at this; exact this
  have p0 : Y.cell? ⟨w.heap.size, 0, none⟩ = some (.pointer (some ⟨P, 0, none⟩)) := by unfold mpO at r0; exact cell_of r0 0
  obtain ⟨kt, kv, ku, ks, sa, sn, sc, kb, hfst, hkb, hkk⟩ := first_M h hq
  have HF := Lib.hid (hfst Y q2)
  have HXA : Hid (∀ X, Below Y.heap.size Y X → X.cell? ⟨w.heap.size + 1, 1, none⟩ = some (.string a.tag) ∧ X.cell? ⟨w.heap.size + 1, 2, none⟩ = some (.int .i64 a.out)) := Lib.hid (fun X hX => by
    have := an_cells (bel_at hX (by omega) r1)
    exact ⟨this.2.1, this.2.2.1⟩)
  have Q2 := Lib.hid q2
  have HY := Lib.hid hY
  obtain rfl : kb = true := by rw [hkb, hc]; rfl
  rw [← (hkk c L hc).1] at ht
  clear hY q2 r0 r1 hz h hq hfst hkb hkk hc
  unfold mpO anO at HY
  go_enter Tryd.func38, Tryd.ntmps38
  go_upto_region 1 with fail
  rw [HY.out]
  clear HY
  go_upto_region 2 with (go_at_call 35; refine HF.out.mono ?_; rintro e w3 ⟨rfl, hb3⟩; have HB3 := Lib.hid hb3; clear hb3)
  clear HF p0
  refine wp_gen (fun Y3 hY3 => ?_)
  have r3 : Y3.heap[w3.heap.size]? = some (.cells #[.string kt, .int .i64 kv, .bool ku, .bool ks, .slice sa sn sc] 78 (0, 0)) := by rw [hY3]; exact heap_new _ _
  have b3 : Below w3.heap.size w3 Y3 := by rw [hY3]; exact (Below.refl _ _).alloc (Nat.le_refl _) _
  have bb : Below Y.heap.size Y Y3 := HB3.out.trans (b3.mono HB3.out.size)
  have HBB := Lib.hid bb
  have HR3 := Lib.hid (And.intro r3 HB3.out.size)
  have t0 : Y3.cell? ⟨w3.heap.size, 0, none⟩ = some (.string kt) := cell_of r3 0
  obtain ⟨x1, x2⟩ := HXA.out _ bb
  clear hY3 r3 b3 bb
  go_wp2_with fail
  go_ret
  exact ⟨Q2.out.trans (HBB.out.mono Q2.out.size), rfl⟩
set_option maxRecDepth 10000 in
set_option maxHeartbeats 2000000 in
theorem answered_bye (P : Nat) (fr : List Nat) (M : PM) (a : AN) (w : World) (h : MAt P fr M w) (hq : M.q.length ≤ 1000000) (c : PA) (L : List PA) (hc : M.q = c :: L) (ht : (c.tag.toList == a.tag.toList) = true) (ho : a.out = 4) : Calls Tryd.prog 38 #[.pointer (some ⟨P, 0, none⟩), .agg (anC a)] w (ChgOut P fr M none w) := by
  have q2 := two_below w (mpO P) (anO a)
  obtain ⟨Y, hY⟩ : ∃ Y, (w.alloc (mpO P)).alloc (anO a) = Y := ⟨_, rfl⟩
  have hz : Y.heap.size = w.heap.size + 1 + 1 := by rw [← hY]; simp
  rw [hY] at q2
  have r0 : Y.heap[w.heap.size]? = some (mpO P) := by rw [← hY, Below.heap_alloc _ _ _ (by simp)]; exact heap_new _ _
  have r1 : Y.heap[w.heap.size + 1]? = some (anO a) := by rw [← hY]; have := heap_new (w.alloc (mpO P)) (anO a); rw [show (w.alloc (mpO P)).heap.size = w.heap.size + 1 from by simp] at this; exact this
  have p0 : Y.cell? ⟨w.heap.size, 0, none⟩ = some (.pointer (some ⟨P, 0, none⟩)) := by unfold mpO at r0; exact cell_of r0 0
  obtain ⟨kt, kv, ku, ks, sa, sn, sc, kb, hfst, hkb, hkk⟩ := first_M h hq
  have HF := Lib.hid (hfst Y q2)
  have HXA : Hid (∀ X, Below Y.heap.size Y X → X.cell? ⟨w.heap.size + 1, 1, none⟩ = some (.string a.tag) ∧ X.cell? ⟨w.heap.size + 1, 2, none⟩ = some (.int .i64 a.out)) := Lib.hid (fun X hX => by
    have := an_cells (bel_at hX (by omega) r1)
    exact ⟨this.2.1, this.2.2.1⟩)
  have Q2 := Lib.hid q2
  have HY := Lib.hid hY
  obtain rfl : kb = true := by rw [hkb, hc]; rfl
  rw [← (hkk c L hc).1] at ht
  clear hY q2 r0 r1 hz h hq hfst hkb hkk hc
  unfold mpO anO at HY
  go_enter Tryd.func38, Tryd.ntmps38
  go_upto_region 1 with fail
  rw [HY.out]
  clear HY
  go_upto_region 2 with (go_at_call 35; refine HF.out.mono ?_; rintro e w3 ⟨rfl, hb3⟩; have HB3 := Lib.hid hb3; clear hb3)
  clear HF p0
  refine wp_gen (fun Y3 hY3 => ?_)
  have r3 : Y3.heap[w3.heap.size]? = some (.cells #[.string kt, .int .i64 kv, .bool ku, .bool ks, .slice sa sn sc] 78 (0, 0)) := by rw [hY3]; exact heap_new _ _
  have b3 : Below w3.heap.size w3 Y3 := by rw [hY3]; exact (Below.refl _ _).alloc (Nat.le_refl _) _
  have bb : Below Y.heap.size Y Y3 := HB3.out.trans (b3.mono HB3.out.size)
  have HBB := Lib.hid bb
  have HR3 := Lib.hid (And.intro r3 HB3.out.size)
  have t0 : Y3.cell? ⟨w3.heap.size, 0, none⟩ = some (.string kt) := cell_of r3 0
  obtain ⟨x1, x2⟩ := HXA.out _ bb
  clear hY3 r3 b3 bb
  go_wp2_with fail
  go_ret
  exact ⟨Q2.out.trans (HBB.out.mono Q2.out.size), rfl⟩
theorem bgM_q (bb : Bool) (M : PM) : (bgM bb M).q = M.q := by cases bb <;> rfl
theorem bgM_rows (bb : Bool) (M : PM) : (bgM bb M).rows.length ≤ M.rows.length := by cases bb <;> simp [bgM, nopM]
theorem done_all (P : Nat) (fr : List Nat) (N : PM) (c : PA) (L : List PA) (a : AN) (bm bc ba B : Nat) (kt : ByteArray) (kv : Int) (ku ks : Bool) (sa : Option Addr) (sn sc : Nat) (X : World) (h : MAt P fr N X) (hq : N.q = c :: L) (hl : N.q.length ≤ 1000000) (hm : X.heap[bm]? = some (mpO P)) (hc : X.heap[bc]? = some (.cells #[.string kt, .int .i64 kv, .bool ku, .bool ks, .slice sa sn sc] 78 (0, 0))) (hA : X.heap[ba]? = some (anO a)) (hnb : bm ∉ fr ∧ bc ∉ fr ∧ ba ∉ fr) (hB : B ≤ X.heap.size) (hkv : kv = c.verb) (hku : ku = c.uid) (hks : ks = c.sil) (hset : RgsIn fr X (.slice sa sn sc) c.set) (hsl : c.set.length ≤ 1000000) (hnr : N.rows.length ≤ 1000000) :
    Calls Tryd.prog 55 #[.pointer (some ⟨bm, 0, none⟩), .pointer (some ⟨bc, 0, none⟩), .pointer (some ⟨ba, 0, none⟩)] X (DoneOut P fr (doneM N c a.out) B X) := by
  have eo : opnA c = (kv == 5 || kv == 6) := by rw [hkv]; rfl
  have el : leavA c = (kv == 17 || kv == 18 || kv == 3) := by rw [hkv]; rfl
  have et : N.q.tail = L := by rw [hq]; rfl
  unfold doneM
  simp only [eo, el, ← hks, et]
  have exc : (kv == 5 || kv == 6) = true → (kv == 17 || kv == 18 || kv == 3) = false := fun e => by
    simp only [Bool.or_eq_true, beq_iff_eq] at e
    rcases e with e | e <;> (subst e; rfl)
  cases hob : (kv == 5 || kv == 6) with
  | true =>
    have hlb := exc hob
    rw [hlb]
    by_cases h1 : a.out = 1
    · rw [show (a.out == 1) = true from by simpa using h1]
      exact done_sel P fr N c L a bm bc ba B kt kv ku ks sa sn sc X h hq hl hm hc hA hnb hB hob h1
    · rw [show (a.out == 1) = false from by simpa using h1]
      by_cases h2 : a.out = 2
      · rw [show (a.out == 2) = true from by simpa using h2]
        exact done_no P fr N c L a bm bc ba B kt kv ku ks sa sn sc X h hq hl hm hc hA hnb hB hob h2
      · rw [show (a.out == 2) = false from by simpa using h2]
        simp only [Bool.and_false, Bool.or_false, Bool.false_eq_true, if_false]
        cases hk : ks with
        | true => exact done_open3_true P fr N c L a bm bc ba B kt kv ku ks sa sn sc X h hq hl hm hc hA hnb hB hob hlb hk (by simpa using h1) (by simpa using h2)
        | false => exact done_open3_false P fr N c L a bm bc ba B kt kv ku ks sa sn sc X h hq hl hm hc hA hnb hB hob hlb hk (by simpa using h1) (by simpa using h2)
  | false =>
    simp only [Bool.false_and, Bool.false_or, Bool.false_eq_true, if_false]
    by_cases h1 : a.out = 1
    · rw [show (a.out == 1) = true from by simpa using h1]
      cases hlb : (kv == 17 || kv == 18 || kv == 3) with
      | true =>
        exact done_leave P fr N c L a bm bc ba B kt kv ku ks sa sn sc X h hq hl hm hc hA hnb hB hob hlb h1
      | false =>
        simp only [Bool.and_true, Bool.false_eq_true, if_false]
        cases hk : ks with
        | true => exact done_silent P fr N c L a bm bc ba B kt kv ku ks sa sn sc X h hq hl hm hc hA hnb hB hob hlb hk h1 ⟨hku, hset, hsl, hnr⟩
        | false => exact done_loud P fr N c L a bm bc ba B kt kv ku ks sa sn sc X h hq hl hm hc hA hnb hB hob hlb hk h1
    · rw [show (a.out == 1) = false from by simpa using h1]
      simp only [Bool.and_false, Bool.false_eq_true, if_false]
      cases hlb : (kv == 17 || kv == 18 || kv == 3) with
      | true =>
        cases hk : ks with
        | true => exact done_other_true_true P fr N c L a bm bc ba B kt kv ku ks sa sn sc X h hq hl hm hc hA hnb hB hob hlb hk (by simpa using h1)
        | false => exact done_other_true_false P fr N c L a bm bc ba B kt kv ku ks sa sn sc X h hq hl hm hc hA hnb hB hob hlb hk (by simpa using h1)
      | false =>
        cases hk : ks with
        | true => exact done_other_false_true P fr N c L a bm bc ba B kt kv ku ks sa sn sc X h hq hl hm hc hA hnb hB hob hlb hk (by simpa using h1)
        | false => exact done_other_false_false P fr N c L a bm bc ba B kt kv ku ks sa sn sc X h hq hl hm hc hA hnb hB hob hlb hk (by simpa using h1)
set_option maxRecDepth 10000 in
set_option maxHeartbeats 2000000 in
theorem answered_go (P : Nat) (fr : List Nat) (M : PM) (a : AN) (w : World) (h : MAt P fr M w) (hq : M.q.length ≤ 1000000) (c : PA) (L : List PA) (hc : M.q = c :: L) (hsl : c.set.length ≤ 1000000) (hnr : M.rows.length ≤ 1000000) (ht : (c.tag.toList == a.tag.toList) = true) (ho : ¬ a.out = 4) : Calls Tryd.prog 38 #[.pointer (some ⟨P, 0, none⟩), .agg (anC a)] w (ChgOut P fr M (some (fun N => doneM N c a.out)) w) := by
  have q2 := two_below w (mpO P) (anO a)
  obtain ⟨Y, hY⟩ : ∃ Y, (w.alloc (mpO P)).alloc (anO a) = Y := ⟨_, rfl⟩
  have hz : Y.heap.size = w.heap.size + 1 + 1 := by rw [← hY]; simp
  rw [hY] at q2
  have r0 : Y.heap[w.heap.size]? = some (mpO P) := by rw [← hY, Below.heap_alloc _ _ _ (by simp)]; exact heap_new _ _
  have r1 : Y.heap[w.heap.size + 1]? = some (anO a) := by rw [← hY]; have := heap_new (w.alloc (mpO P)) (anO a); rw [show (w.alloc (mpO P)).heap.size = w.heap.size + 1 from by simp] at this; exact this
  have p0 : Y.cell? ⟨w.heap.size, 0, none⟩ = some (.pointer (some ⟨P, 0, none⟩)) := by unfold mpO at r0; exact cell_of r0 0
  obtain ⟨kt, kv, ku, ks, sa, sn, sc, kb, hfst, hkb, hkk⟩ := first_M h hq
  have HF := Lib.hid (hfst Y q2)
  have HXA : Hid (∀ X, Below Y.heap.size Y X → X.cell? ⟨w.heap.size + 1, 1, none⟩ = some (.string a.tag) ∧ X.cell? ⟨w.heap.size + 1, 2, none⟩ = some (.int .i64 a.out)) := Lib.hid (fun X hX => by
    have := an_cells (bel_at hX (by omega) r1)
    exact ⟨this.2.1, this.2.2.1⟩)
  have Q2 := Lib.hid q2
  have HY := Lib.hid hY
  obtain rfl : kb = true := by rw [hkb, hc]; rfl
  obtain ⟨hk1, hk2, hk3, hk4, hk5⟩ := hkk c L hc
  rw [← hk1] at ht
  have hfrl := h.lt
  have hpin := h.pin
  have fin : ∀ bc w', Below Y.heap.size Y w' → w'.heap[bc]? = some (.cells #[.string kt, .int .i64 kv, .bool ku, .bool ks, .slice sa sn sc] 78 (0, 0)) → Y.heap.size ≤ bc → ChgOut P fr M (some (fun N => doneM N c a.out)) w (.returned (.func (.func 55) #[] #[.pointer (some ⟨w.heap.size, 0, none⟩), .pointer (some ⟨bc, 0, none⟩), .pointer (some ⟨w.heap.size + 1, 0, none⟩)])) w' := fun bc w' hw' hbc hbs => by
    have bw := q2.trans (hw'.mono q2.size)
    refine ⟨bw, _, _, rfl, isFn_answered1, fun bb X hbb hX hM => ?_⟩
    have n1 : ∀ b, w.heap.size ≤ b → b ∉ fr := fun b hb e => by have := hfrl b e; omega
    have hset : RgsIn fr X (.slice sa sn sc) c.set := (hk5.on (fun b e => bw.block b (hfrl b e)) (fun _ e => e)).kt (KeepT.of (ts := [75]) hbb.2 (fun b hb => by
      simp at hb
      subst hb
      obtain ⟨q, rows, was, hMw, _⟩ := h.ex
      exact ⟨_, _, _, bel_at bw (hfrl b hpin) hMw, by simp⟩)) (by decide) (fun _ e => e)
    exact done_all P fr (bgM bb M) c L a w.heap.size bc (w.heap.size + 1) w.heap.size kt kv ku ks sa sn sc X hM ((bgM_q bb M).trans hc) (by rw [bgM_q]; exact hq) (hX.at_ (bel_at hw' (by omega) r0) (n1 _ (by omega))) (hX.at_ hbc (n1 _ (by omega))) (hX.at_ (bel_at hw' (by omega) r1) (n1 _ (by omega))) ⟨n1 _ (by omega), n1 _ (by omega), n1 _ (by omega)⟩ (Nat.le_trans bw.size hX.size) hk2 hk3 hk4 hset hsl (Nat.le_trans (bgM_rows bb M) hnr)
  have FIN := Lib.hid fin
  have e4 : (a.out == 4) = false := by simpa using ho
  clear hY q2 r0 r1 hz h hq hfst hkb hkk hc fin hk1 hk2 hk3 hk4 hk5 hfrl hpin hsl hnr ho
  unfold mpO anO at HY
  go_enter Tryd.func38, Tryd.ntmps38
  go_upto_region 1 with fail
  rw [HY.out]
  clear HY
  go_upto_region 2 with (go_at_call 35; refine HF.out.mono ?_; rintro e w3 ⟨rfl, hb3⟩; have HB3 := Lib.hid hb3; clear hb3)
  clear HF p0
  refine wp_gen (fun Y3 hY3 => ?_)
  have r3 : Y3.heap[w3.heap.size]? = some (.cells #[.string kt, .int .i64 kv, .bool ku, .bool ks, .slice sa sn sc] 78 (0, 0)) := by rw [hY3]; exact heap_new _ _
  have b3 : Below w3.heap.size w3 Y3 := by rw [hY3]; exact (Below.refl _ _).alloc (Nat.le_refl _) _
  have bb : Below Y.heap.size Y Y3 := HB3.out.trans (b3.mono HB3.out.size)
  have HBB := Lib.hid bb
  have HR3 := Lib.hid (And.intro r3 HB3.out.size)
  have t0 : Y3.cell? ⟨w3.heap.size, 0, none⟩ = some (.string kt) := cell_of r3 0
  obtain ⟨x1, x2⟩ := HXA.out _ bb
  clear hY3 r3 b3 bb
  go_wp2_with fail
  go_ret
  exact FIN.out _ _ HBB.out HR3.out.1 HR3.out.2
theorem answered_M (P : Nat) (fr : List Nat) (M : PM) (a : AN) (w : World) (h : MAt P fr M w) (hq : M.q.length ≤ 1000000) (hsl : ∀ c ∈ M.q, c.set.length ≤ 1000000) (hnr : M.rows.length ≤ 1000000) : Calls Tryd.prog 38 #[.pointer (some ⟨P, 0, none⟩), .agg (anC a)] w (ChgOut P fr M (ansF M a.tag a.out) w) := by
  unfold ansF
  cases hc : M.q with
  | nil => exact answered_none P fr M a w h hq hc
  | cons c L =>
    cases ht : (c.tag.toList == a.tag.toList) with
    | false => simp only [ht, true_or, if_true]; exact answered_tag P fr M a w h hq c L hc ht
    | true =>
      by_cases ho : a.out = 4
      · simp only [ho, or_true, if_true]; exact answered_bye P fr M a w h hq c L hc ht ho
      · simp only [ht, ho, Bool.true_eq_false, or_self, if_false]; exact answered_go P fr M a w h hq c L hc (hsl c (by rw [hc]; simp)) hnr ht ho
end Go.Proofs.YtlmlbcnjohjnlaaDoor

/- view: one of the numbers is taken out; a row turns. -/
import Derived.Test.YtiphbnmnoofpkaaQ16h
import Derived.Test.YtiphbnmnoofpkaaZv
namespace Go.Proofs.Ytiphbnmnoofpkaa
open Go.RowKit

theorem step_append_run {ops : Array Oper} {o : Oper} {a : Act} {K : Act → World → Prop} {Q : Exit → Act → World → Prop} {E : Prop} {w : World} (hgd : o.guard = none) (s x : Operand) (ts : Array TypeId)
    (ho : o.op = .call { callee := .builtin .append, args := #[s, x], argTypes := ts }) (ty : TypeId) (hty : o.type = ty) (u v : Value) (hs : a.eval s = u) (hx : a.eval x = v) (v' : Value) (w' : World)
    (hr : (Builtin.append_ ts ty #[u, v]).run Try.prog w = .ok v' w') (h : K (a.put o.dst v') w') : if Region.wanted o (yielded ops a.tmps) = true then Oper.wp Try.prog o a w K Q else E := by
  have hw : Region.wanted o (yielded ops a.tmps) = true := by simp [Region.wanted, hgd]
  rw [if_pos hw]
  subst hty
  unfold Oper.wp execOp
  simp only [ho, resolve, invoke, builtin, Sem.run_bind, Sem.run_pure, Result.andThen_ok, List.map_toArray, List.map_cons, List.map_nil, hs, hx, hr]
  exact h
theorem ic_take (C : List Int) (n : Nat) : (ic C).take n = ic (C.take n) := by simp [ic, List.map_take]
theorem ic_drop (C : List Int) (n : Nat) : (ic C).drop n = ic (C.drop n) := by simp [ic, List.map_drop]
theorem zeroI (w : World) : (zeroValue 3).run Try.prog w = .ok (.int .i64 0) w := by kernel_rfl
set_option maxRecDepth 100000 in
set_option maxHeartbeats 2000000 in
theorem delete_any (v : Value) (C : List Int) (i : Nat) (w : World) (h : w.ownsRow 0 3 1 v C.length (ic C)) (hi : i < C.length) (hl : C.length ≤ 1000000) :
    Calls Try.prog 62 #[v, .int .i64 (i : Int), .int .i64 ((i + 1 : Nat) : Int)] w fun e w' => ∃ v', e = .returned v' ∧ w'.ownsRow 0 3 1 v' (C.take i ++ C.drop (i + 1)).length (ic (C.take i ++ C.drop (i + 1))) ∧ w.grownBy w' v.ownBlock ∧ v'.ownBlock = v.ownBlock := by
  rcases h.2 with ⟨_, h0⟩ | ⟨g, cap, cur, rfl, hb, hg, hnc, hcm, hcs, htake⟩
  · omega
  obtain ⟨m, hm⟩ : ∃ m, C.length = m + 1 := ⟨C.length - 1, by omega⟩
  obtain ⟨i0, hi0, hz0, hz1, hz2⟩ := info_parts' Try.infoInt
  have hpre : w.drew.ownsRow 0 3 1 (.slice (some ⟨g, 0, none⟩) i cap) i (ic (C.take i)) := by
    refine ⟨by simp [ic]; omega, .inr ⟨g, cap, cur, rfl, hb, hg, by omega, hcm, hcs, ?_⟩⟩
    rw [← ic_take, ← htake, List.take_take, show min i (C.length * 1) = i * 1 by omega]
  obtain ⟨o2, c2, ho2, hform⟩ : ∃ o2 c2, (o2 = i + 1 ∨ C.length = i + 1) ∧ ((i + 1 < cap ∧ o2 = i + 1 ∧ c2 = cap - (i + 1)) ∨ (i + 1 = cap ∧ o2 = 0 ∧ c2 = 0)) := by
    by_cases hq : i + 1 < cap
    · exact ⟨i + 1, cap - (i + 1), .inl rfl, .inl ⟨hq, rfl, rfl⟩⟩
    · exact ⟨0, 0, .inr (by omega), .inr ⟨by omega, rfl, rfl⟩⟩
  obtain ⟨w1, hrun, hrow, hgr⟩ := run_append_fits (P := Try.prog) w.drew 0 30 30 3 i0 1 Try.underlying30 hi0 hz1 g i cap (ic (C.take i)) hpre ⟨g, o2, none⟩ (m - i) c2 (ic (C.drop (i + 1))) (by rw [ic_length, List.length_drop]; omega) (by
      intro j u hj
      have hjl : j < (ic (C.drop (i + 1))).length := (List.getElem?_eq_some_iff.1 hj).1
      rw [ic_length, List.length_drop] at hjl
      have ho3 : o2 = i + 1 := by omega
      subst ho3
      rw [← ic_drop, List.getElem?_drop] at hj
      have := h.cells (g := g) rfl (i + 1 + j) u hj
      rw [Addr.add_lit, Nat.zero_add] at this
      rw [Addr.add_lit]
      exact this) (ic_one _) (by omega)
  have him : i + (m - i) = m := by omega
  rw [him, ← ic_append] at hrow
  rw [him] at hrun
  have hfz : w1.frozen? ⟨g, m, none⟩ = false := hrow.frozenAt m
  have hcell : (w1.cell? ⟨g, m, none⟩).isSome = true := by
    rcases hrow.2 with ⟨e, _⟩ | ⟨g', cap', cur', e, _, hg', _, _, hcs', _⟩
    · cases e
    · cases e
      rw [cell_of hg' m, Array.getElem?_eq_getElem (by omega)]
      rfl
  have hcl : ∀ ty, (Builtin.clear_ #[30] ty #[.slice (some ⟨g, m, none⟩) 1 (cap - m)]).run Try.prog w1 = .ok (.tuple #[]) (w1.setCell ⟨g, m, none⟩ (.int .i64 0)) := fun ty =>
    Lib.run_clear_slice w1 30 3 ty (.int .i64 0) Try.underlying30 zeroI rfl rfl g m 1 (cap - m) (by omega) (fun j hj => by
      have : j = 0 := by omega
      subst this; exact hcell) (fun j hj => by
      have : j = 0 := by omega
      subst this; exact hfz)
  obtain ⟨hs, hgs⟩ := hrow.stored m (.int .i64 0)
  have hlen : (C.take i ++ C.drop (i + 1)).length = m := by simp only [List.length_append, List.length_take, List.length_drop]; omega
  have HF : Hid ((w1.setCell ⟨g, m, none⟩ (.int .i64 0)).ownsRow 0 3 1 (.slice (some ⟨g, 0, none⟩) m cap) (C.take i ++ C.drop (i + 1)).length (ic (C.take i ++ C.drop (i + 1))) ∧ w.grownBy (w1.setCell ⟨g, m, none⟩ (.int .i64 0)) (some g)) := Lib.hid (by
    refine ⟨?_, ⟨hgs.os.trans hgr.os, hgs.tape.trans hgr.tape, hgs.output.trans hgr.output, Nat.le_trans hgr.size hgs.size, fun k hk hne => ?_⟩⟩
    · rw [hlen]
      rw [List.set_eq_of_length_le (by rw [ic_length, hlen]; exact Nat.le_refl _)] at hs
      exact hs
    · rw [hgs.block k (Nat.lt_of_lt_of_le hk hgr.size) hne, hgr.block k hk hne]
      rfl)
  have HRun := Lib.hid hrun
  obtain ⟨j, hj⟩ : ∃ j, j = i + 1 := ⟨_, rfl⟩
  obtain ⟨n, hn⟩ : ∃ n, n = C.length := ⟨_, rfl⟩
  rw [← hj] at ⊢ hform HF
  rw [← hn] at ⊢
  rw [show m - i = n - j by omega] at HRun
  rw [show (1 : Nat) = n - m by omega] at hcl
  have hne : ((i : Int) == (j : Int)) = false := by rw [beq_eq_false_iff_ne]; omega
  have z1 : j ≤ n := by omega
  have z2 : i ≤ j := by omega
  have z3 : n ≤ cap := by omega
  have z4 : m ≤ n := by omega
  have z5 : i ≤ cap := by omega
  have z6 : j ≤ cap := by omega
  have z7 : m ≤ cap := by omega
  have z8 : n ≤ 1000000 := by omega
  have z9 : i < n := by omega
  have za : m < cap := by omega
  have zb : n ≤ j + (n - j) := by omega
  have zc : cap = j → n - j = 0 := fun e => by omega
  clear h hg hb hcs htake hpre hrow hgr hcell hfz hs hgs hlen hrun hm hi0 hz0 hz1 hz2 hcm hnc hn hj hi hl him ho2 zb
  rcases hform with ⟨hq, rfl, rfl⟩ | ⟨hq, rfl, rfl⟩
  · clear zc
    have zq : ¬ cap = o2 := by omega
    go_enter Try.func62, Try.ntmps62
    go_wp2_with fail
    --R DelA--
    refine wp_region_N 6 (fun X => X = w.drew) (by kernel_rfl) ?_
    refine wpAnyN_take (i := 0) (oi := { dst := some 20, op := Go.Op.move (Go.Operand.tmp 0), type := 30, pos := "slices.go:232", after := #[], guard := none }) (oL := { dst := some 26, op := Go.Op.call { callee := Go.Callee.builtin Go.Builtin.append, args := #[Go.Operand.tmp 22, Go.Operand.tmp 25], argTypes := #[30, 30] }, type := 30, pos := "slices.go:232", after := #[{ on := 2, ground := Go.Ground.data }, { on := 5, ground := Go.Ground.data }], guard := none }) (v := .slice (some ⟨g, 0, none⟩) n cap) rfl rfl (by kernel_rfl) (by kernel_rfl) (by kernel_rfl) (by kernel_rfl) (fun _ _ _ h => h) (Or.inl ⟨by kernel_rfl, ?_⟩) rfl ?_
    · (intro X hX; subst hX <;> (go_simp; try (with_reducible rfl)))
    (try simp only [Act.put, List.setIfInBounds_toArray, List.set_cons_zero, List.set_cons_succ])
    refine wpAnyN_take (i := 1) (oi := { dst := some 21, op := Go.Op.move (Go.Operand.tmp 1), type := 3, pos := "slices.go:232", after := #[], guard := none }) (oL := { dst := some 26, op := Go.Op.call { callee := Go.Callee.builtin Go.Builtin.append, args := #[Go.Operand.tmp 22, Go.Operand.tmp 25], argTypes := #[30, 30] }, type := 30, pos := "slices.go:232", after := #[{ on := 2, ground := Go.Ground.data }, { on := 5, ground := Go.Ground.data }], guard := none }) (v := .int .i64 (i : Int)) rfl rfl (by kernel_rfl) (by kernel_rfl) (by kernel_rfl) (by kernel_rfl) (fun _ _ _ h => h) (Or.inl ⟨by kernel_rfl, ?_⟩) rfl ?_
    · (intro X hX; subst hX <;> (go_simp; try (with_reducible rfl)))
    (try simp only [Act.put, List.setIfInBounds_toArray, List.set_cons_zero, List.set_cons_succ])
    refine wpAnyN_take (i := 2) (oi := { dst := some 22, op := Go.Op.slice 30 (Go.Operand.tmp 20) none (some (Go.Operand.tmp 21)) none, type := 30, pos := "slices.go:232", after := #[{ on := 0, ground := Go.Ground.data }, { on := 1, ground := Go.Ground.data }], guard := none }) (oL := { dst := some 26, op := Go.Op.call { callee := Go.Callee.builtin Go.Builtin.append, args := #[Go.Operand.tmp 22, Go.Operand.tmp 25], argTypes := #[30, 30] }, type := 30, pos := "slices.go:232", after := #[{ on := 2, ground := Go.Ground.data }, { on := 5, ground := Go.Ground.data }], guard := none }) (v := .slice (some ⟨g, 0, none⟩) i cap) rfl rfl (by kernel_rfl) (by kernel_rfl) (by kernel_rfl) (by kernel_rfl) (fun _ _ _ h => h) (Or.inl ⟨by kernel_rfl, ?_⟩) rfl ?_
    · (intro X hX; subst hX <;> (go_simp; try (with_reducible rfl)))
    (try simp only [Act.put, List.setIfInBounds_toArray, List.set_cons_zero, List.set_cons_succ])
    refine wpAnyN_take (i := 3) (oi := { dst := some 23, op := Go.Op.move (Go.Operand.tmp 0), type := 30, pos := "slices.go:232", after := #[], guard := none }) (oL := { dst := some 26, op := Go.Op.call { callee := Go.Callee.builtin Go.Builtin.append, args := #[Go.Operand.tmp 22, Go.Operand.tmp 25], argTypes := #[30, 30] }, type := 30, pos := "slices.go:232", after := #[{ on := 2, ground := Go.Ground.data }, { on := 5, ground := Go.Ground.data }], guard := none }) (v := .slice (some ⟨g, 0, none⟩) n cap) rfl rfl (by kernel_rfl) (by kernel_rfl) (by kernel_rfl) (by kernel_rfl) (fun _ _ _ h => h) (Or.inl ⟨by kernel_rfl, ?_⟩) rfl ?_
    · (intro X hX; subst hX <;> (go_simp; try (with_reducible rfl)))
    (try simp only [Act.put, List.setIfInBounds_toArray, List.set_cons_zero, List.set_cons_succ])
    refine wpAnyN_take (i := 4) (oi := { dst := some 24, op := Go.Op.move (Go.Operand.tmp 2), type := 3, pos := "slices.go:232", after := #[], guard := none }) (oL := { dst := some 26, op := Go.Op.call { callee := Go.Callee.builtin Go.Builtin.append, args := #[Go.Operand.tmp 22, Go.Operand.tmp 25], argTypes := #[30, 30] }, type := 30, pos := "slices.go:232", after := #[{ on := 2, ground := Go.Ground.data }, { on := 5, ground := Go.Ground.data }], guard := none }) (v := .int .i64 (o2 : Int)) rfl rfl (by kernel_rfl) (by kernel_rfl) (by kernel_rfl) (by kernel_rfl) (fun _ _ _ h => h) (Or.inl ⟨by kernel_rfl, ?_⟩) rfl ?_
    · (intro X hX; subst hX <;> (go_simp; try (with_reducible rfl)))
    (try simp only [Act.put, List.setIfInBounds_toArray, List.set_cons_zero, List.set_cons_succ])
    refine wpAnyN_take (i := 5) (oi := { dst := some 25, op := Go.Op.slice 30 (Go.Operand.tmp 23) (some (Go.Operand.tmp 24)) none none, type := 30, pos := "slices.go:232", after := #[{ on := 3, ground := Go.Ground.data }, { on := 4, ground := Go.Ground.data }], guard := none }) (oL := { dst := some 26, op := Go.Op.call { callee := Go.Callee.builtin Go.Builtin.append, args := #[Go.Operand.tmp 22, Go.Operand.tmp 25], argTypes := #[30, 30] }, type := 30, pos := "slices.go:232", after := #[{ on := 2, ground := Go.Ground.data }, { on := 5, ground := Go.Ground.data }], guard := none }) (v := .slice (some ⟨g, o2, none⟩) (n - o2) (cap - o2)) rfl rfl (by kernel_rfl) (by kernel_rfl) (by kernel_rfl) (by kernel_rfl) (fun _ _ _ h => h) (Or.inl ⟨by kernel_rfl, ?_⟩) rfl ?_
    · (intro X hX; subst hX <;> (go_simp; try (with_reducible rfl)))
    (try simp only [Act.put, List.setIfInBounds_toArray, List.set_cons_zero, List.set_cons_succ])
    refine wpAnyN_one (i := 6) (o := { dst := some 26, op := Go.Op.call { callee := Go.Callee.builtin Go.Builtin.append, args := #[Go.Operand.tmp 22, Go.Operand.tmp 25], argTypes := #[30, 30] }, type := 30, pos := "slices.go:232", after := #[{ on := 2, ground := Go.Ground.data }, { on := 5, ground := Go.Ground.data }], guard := none }) (by kernel_rfl) rfl (fun K hK => ?_)
    refine step_append_run (u := .slice (some ⟨g, 0, none⟩) i cap) (v := .slice (some ⟨g, o2, none⟩) (n - o2) (cap - o2)) rfl _ _ _ rfl 30 rfl rfl rfl _ _ HRun.out ?_
    refine hK.out _ _ (fun e => absurd (e.symm.trans (by kernel_rfl) : false = true) Bool.false_ne_true) ?_
    clear hK K
    (try simp only [Act.put, List.setIfInBounds_toArray, List.set_cons_zero, List.set_cons_succ])
    refine wpAnyN_of_H (S' := fun _ => True) _ _ _ _ (by kernel_rfl) ?_
    refine wpAnyH_take (i := 7) (oi := { dst := some 0, op := Go.Op.assign (Go.Operand.tmp 26), type := 30, pos := "slices.go:232", after := #[{ on := 6, ground := Go.Ground.data }, { on := 6, ground := Go.Ground.chain }, { on := 0, ground := Go.Ground.phase }, { on := 1, ground := Go.Ground.phase }, { on := 2, ground := Go.Ground.phase }, { on := 3, ground := Go.Ground.phase }, { on := 4, ground := Go.Ground.phase }, { on := 5, ground := Go.Ground.phase }, { on := 6, ground := Go.Ground.phase }], guard := none }) (v := .slice (some ⟨g, 0, none⟩) m cap) rfl (by kernel_rfl) (by kernel_rfl) (by kernel_rfl) (fun _ _ _ h => h) (Or.inl ⟨by kernel_rfl, ?_⟩) trivial ?_
    · (intro X hX; go_simp; try (with_reducible rfl))
    (try simp only [Act.put, List.setIfInBounds_toArray, List.set_cons_zero])
    refine wpAnyH_done (by kernel_rfl) ?_ _
    --E DelA--
    all_goals
      go_wp2_with (simp only [hcl])
      go_ret
      exact ⟨_, rfl, HF.out.1, HF.out.2, rfl⟩
  · rw [zc hq.symm] at HRun
    have hnj : n = j := by have := zc hq.symm; omega
    subst hnj
    subst hq
    clear zc
    go_enter Try.func62, Try.ntmps62
    go_wp2_with fail
    --R DelB--
    refine wp_region_N 6 (fun X => X = w.drew) (by kernel_rfl) ?_
    refine wpAnyN_take (i := 0) (oi := { dst := some 20, op := Go.Op.move (Go.Operand.tmp 0), type := 30, pos := "slices.go:232", after := #[], guard := none }) (oL := { dst := some 26, op := Go.Op.call { callee := Go.Callee.builtin Go.Builtin.append, args := #[Go.Operand.tmp 22, Go.Operand.tmp 25], argTypes := #[30, 30] }, type := 30, pos := "slices.go:232", after := #[{ on := 2, ground := Go.Ground.data }, { on := 5, ground := Go.Ground.data }], guard := none }) (v := .slice (some ⟨g, 0, none⟩) n n) rfl rfl (by kernel_rfl) (by kernel_rfl) (by kernel_rfl) (by kernel_rfl) (fun _ _ _ h => h) (Or.inl ⟨by kernel_rfl, ?_⟩) rfl ?_
    · (intro X hX; subst hX <;> (go_simp; try (with_reducible rfl)))
    (try simp only [Act.put, List.setIfInBounds_toArray, List.set_cons_zero, List.set_cons_succ])
    refine wpAnyN_take (i := 1) (oi := { dst := some 21, op := Go.Op.move (Go.Operand.tmp 1), type := 3, pos := "slices.go:232", after := #[], guard := none }) (oL := { dst := some 26, op := Go.Op.call { callee := Go.Callee.builtin Go.Builtin.append, args := #[Go.Operand.tmp 22, Go.Operand.tmp 25], argTypes := #[30, 30] }, type := 30, pos := "slices.go:232", after := #[{ on := 2, ground := Go.Ground.data }, { on := 5, ground := Go.Ground.data }], guard := none }) (v := .int .i64 (i : Int)) rfl rfl (by kernel_rfl) (by kernel_rfl) (by kernel_rfl) (by kernel_rfl) (fun _ _ _ h => h) (Or.inl ⟨by kernel_rfl, ?_⟩) rfl ?_
    · (intro X hX; subst hX <;> (go_simp; try (with_reducible rfl)))
    (try simp only [Act.put, List.setIfInBounds_toArray, List.set_cons_zero, List.set_cons_succ])
    refine wpAnyN_take (i := 2) (oi := { dst := some 22, op := Go.Op.slice 30 (Go.Operand.tmp 20) none (some (Go.Operand.tmp 21)) none, type := 30, pos := "slices.go:232", after := #[{ on := 0, ground := Go.Ground.data }, { on := 1, ground := Go.Ground.data }], guard := none }) (oL := { dst := some 26, op := Go.Op.call { callee := Go.Callee.builtin Go.Builtin.append, args := #[Go.Operand.tmp 22, Go.Operand.tmp 25], argTypes := #[30, 30] }, type := 30, pos := "slices.go:232", after := #[{ on := 2, ground := Go.Ground.data }, { on := 5, ground := Go.Ground.data }], guard := none }) (v := .slice (some ⟨g, 0, none⟩) i n) rfl rfl (by kernel_rfl) (by kernel_rfl) (by kernel_rfl) (by kernel_rfl) (fun _ _ _ h => h) (Or.inl ⟨by kernel_rfl, ?_⟩) rfl ?_
    · (intro X hX; subst hX <;> (go_simp; try (with_reducible rfl)))
    (try simp only [Act.put, List.setIfInBounds_toArray, List.set_cons_zero, List.set_cons_succ])
    refine wpAnyN_take (i := 3) (oi := { dst := some 23, op := Go.Op.move (Go.Operand.tmp 0), type := 30, pos := "slices.go:232", after := #[], guard := none }) (oL := { dst := some 26, op := Go.Op.call { callee := Go.Callee.builtin Go.Builtin.append, args := #[Go.Operand.tmp 22, Go.Operand.tmp 25], argTypes := #[30, 30] }, type := 30, pos := "slices.go:232", after := #[{ on := 2, ground := Go.Ground.data }, { on := 5, ground := Go.Ground.data }], guard := none }) (v := .slice (some ⟨g, 0, none⟩) n n) rfl rfl (by kernel_rfl) (by kernel_rfl) (by kernel_rfl) (by kernel_rfl) (fun _ _ _ h => h) (Or.inl ⟨by kernel_rfl, ?_⟩) rfl ?_
    · (intro X hX; subst hX <;> (go_simp; try (with_reducible rfl)))
    (try simp only [Act.put, List.setIfInBounds_toArray, List.set_cons_zero, List.set_cons_succ])
    refine wpAnyN_take (i := 4) (oi := { dst := some 24, op := Go.Op.move (Go.Operand.tmp 2), type := 3, pos := "slices.go:232", after := #[], guard := none }) (oL := { dst := some 26, op := Go.Op.call { callee := Go.Callee.builtin Go.Builtin.append, args := #[Go.Operand.tmp 22, Go.Operand.tmp 25], argTypes := #[30, 30] }, type := 30, pos := "slices.go:232", after := #[{ on := 2, ground := Go.Ground.data }, { on := 5, ground := Go.Ground.data }], guard := none }) (v := .int .i64 (n : Int)) rfl rfl (by kernel_rfl) (by kernel_rfl) (by kernel_rfl) (by kernel_rfl) (fun _ _ _ h => h) (Or.inl ⟨by kernel_rfl, ?_⟩) rfl ?_
    · (intro X hX; subst hX <;> (go_simp; try (with_reducible rfl)))
    (try simp only [Act.put, List.setIfInBounds_toArray, List.set_cons_zero, List.set_cons_succ])
    refine wpAnyN_take (i := 5) (oi := { dst := some 25, op := Go.Op.slice 30 (Go.Operand.tmp 23) (some (Go.Operand.tmp 24)) none none, type := 30, pos := "slices.go:232", after := #[{ on := 3, ground := Go.Ground.data }, { on := 4, ground := Go.Ground.data }], guard := none }) (oL := { dst := some 26, op := Go.Op.call { callee := Go.Callee.builtin Go.Builtin.append, args := #[Go.Operand.tmp 22, Go.Operand.tmp 25], argTypes := #[30, 30] }, type := 30, pos := "slices.go:232", after := #[{ on := 2, ground := Go.Ground.data }, { on := 5, ground := Go.Ground.data }], guard := none }) (v := .slice (some ⟨g, 0, none⟩) (0) (0)) rfl rfl (by kernel_rfl) (by kernel_rfl) (by kernel_rfl) (by kernel_rfl) (fun _ _ _ h => h) (Or.inl ⟨by kernel_rfl, ?_⟩) rfl ?_
    · (intro X hX; subst hX <;> (go_simp; try (with_reducible rfl)))
    (try simp only [Act.put, List.setIfInBounds_toArray, List.set_cons_zero, List.set_cons_succ])
    refine wpAnyN_one (i := 6) (o := { dst := some 26, op := Go.Op.call { callee := Go.Callee.builtin Go.Builtin.append, args := #[Go.Operand.tmp 22, Go.Operand.tmp 25], argTypes := #[30, 30] }, type := 30, pos := "slices.go:232", after := #[{ on := 2, ground := Go.Ground.data }, { on := 5, ground := Go.Ground.data }], guard := none }) (by kernel_rfl) rfl (fun K hK => ?_)
    refine step_append_run (u := .slice (some ⟨g, 0, none⟩) i n) (v := .slice (some ⟨g, 0, none⟩) (0) (0)) rfl _ _ _ rfl 30 rfl rfl rfl _ _ HRun.out ?_
    refine hK.out _ _ (fun e => absurd (e.symm.trans (by kernel_rfl) : false = true) Bool.false_ne_true) ?_
    clear hK K
    (try simp only [Act.put, List.setIfInBounds_toArray, List.set_cons_zero, List.set_cons_succ])
    refine wpAnyN_of_H (S' := fun _ => True) _ _ _ _ (by kernel_rfl) ?_
    refine wpAnyH_take (i := 7) (oi := { dst := some 0, op := Go.Op.assign (Go.Operand.tmp 26), type := 30, pos := "slices.go:232", after := #[{ on := 6, ground := Go.Ground.data }, { on := 6, ground := Go.Ground.chain }, { on := 0, ground := Go.Ground.phase }, { on := 1, ground := Go.Ground.phase }, { on := 2, ground := Go.Ground.phase }, { on := 3, ground := Go.Ground.phase }, { on := 4, ground := Go.Ground.phase }, { on := 5, ground := Go.Ground.phase }, { on := 6, ground := Go.Ground.phase }], guard := none }) (v := .slice (some ⟨g, 0, none⟩) m n) rfl (by kernel_rfl) (by kernel_rfl) (by kernel_rfl) (fun _ _ _ h => h) (Or.inl ⟨by kernel_rfl, ?_⟩) trivial ?_
    · (intro X hX; go_simp; try (with_reducible rfl))
    (try simp only [Act.put, List.setIfInBounds_toArray, List.set_cons_zero])
    refine wpAnyH_done (by kernel_rfl) ?_ _
    --E DelB--
    all_goals
      go_wp2_with (simp only [hcl])
      go_ret
      exact ⟨_, rfl, HF.out.1, HF.out.2, rfl⟩
end Go.Proofs.Ytiphbnmnoofpkaa

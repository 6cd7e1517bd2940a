/- view: one of the numbers is taken out; a row turns. -/
import Derived.Test.YtmedpcldfpfpnaaGreatQ16a
import Derived.Test.YtmedpcldfpfpnaaGreatZv
import Derived.Deep.RegionWith
import Derived.Deep.DeepCutAuto
namespace Go.Proofs.YtmedpcldfpfpnaaGreat
open Go.RowKit

theorem step_append_run {ops : Array Oper} {o : Oper} {a : Act} {K : Act → World → Prop} {Q : Exit → Act → World → Prop} {E : Prop} {w : World} (hgd : o.guard = none) (s x : Operand) (ts : Array TypeId)
    (ho : o.op = .call { callee := .builtin .append, args := #[s, x], argTypes := ts }) (ty : TypeId) (hty : o.type = ty) (u v : Value) (hs : a.eval s = u) (hx : a.eval x = v) (v' : Value) (w' : World)
    (hr : (Builtin.append_ ts ty #[u, v]).run Tryz.prog w = .ok v' w') (h : K (a.put o.dst v') w') : if Region.wanted o (yielded ops a.tmps) = true then Oper.wp Tryz.prog o a w K Q else E := by
  have hw : Region.wanted o (yielded ops a.tmps) = true := by simp [Region.wanted, hgd]
  rw [if_pos hw]
  subst hty
  unfold Oper.wp execOp
  simp only [ho, resolve, invoke, builtin, Sem.run_bind, Sem.run_pure, Result.andThen_ok, List.map_toArray, List.map_cons, List.map_nil, hs, hx, hr]
  exact h
theorem ic_take (C : List Int) (n : Nat) : (ic C).take n = ic (C.take n) := by simp [ic, List.map_take]
theorem ic_drop (C : List Int) (n : Nat) : (ic C).drop n = ic (C.drop n) := by simp [ic, List.map_drop]
theorem zeroI (w : World) : (zeroValue 3).run Tryz.prog w = .ok (.int .i64 0) w := by kernel_rfl
set_option maxRecDepth 100000 in
set_option maxHeartbeats 2000000 in
theorem delete_any (v : Value) (C : List Int) (i : Nat) (w : World) (h : w.ownsRow 0 3 1 v C.length (ic C)) (hi : i < C.length) (hl : C.length ≤ 1000000) :
    Calls Tryz.prog 83 #[v, .int .i64 (i : Int), .int .i64 ((i + 1 : Nat) : Int)] w fun e w' => ∃ v', e = .returned v' ∧ w'.ownsRow 0 3 1 v' (C.take i ++ C.drop (i + 1)).length (ic (C.take i ++ C.drop (i + 1))) ∧ w.grownBy w' v.ownBlock ∧ v'.ownBlock = v.ownBlock := by
  rcases h.2 with ⟨_, h0⟩ | ⟨g, cap, cur, rfl, hb, hg, hnc, hcm, hcs, htake⟩
  · omega
  obtain ⟨m, hm⟩ : ∃ m, C.length = m + 1 := ⟨C.length - 1, by omega⟩
  obtain ⟨i0, hi0, hz0, hz1, hz2⟩ := info_parts' Tryz.infoInt
  have hpre : w.drew.ownsRow 0 3 1 (.slice (some ⟨g, 0, none⟩) i cap) i (ic (C.take i)) := by
    refine ⟨by simp [ic]; omega, .inr ⟨g, cap, cur, rfl, hb, hg, by omega, hcm, hcs, ?_⟩⟩
    rw [← ic_take, ← htake, List.take_take, show min i (C.length * 1) = i * 1 by omega]
  obtain ⟨o2, c2, ho2, hform⟩ : ∃ o2 c2, (o2 = i + 1 ∨ C.length = i + 1) ∧ ((i + 1 < cap ∧ o2 = i + 1 ∧ c2 = cap - (i + 1)) ∨ (i + 1 = cap ∧ o2 = 0 ∧ c2 = 0)) := by
    by_cases hq : i + 1 < cap
    · exact ⟨i + 1, cap - (i + 1), .inl rfl, .inl ⟨hq, rfl, rfl⟩⟩
    · exact ⟨0, 0, .inr (by omega), .inr ⟨by omega, rfl, rfl⟩⟩
  obtain ⟨w1, hrun, hrow, hgr⟩ := run_append_fits (P := Tryz.prog) w.drew 0 29 29 3 i0 1 Tryz.underlying29 hi0 hz1 g i cap (ic (C.take i)) hpre ⟨g, o2, none⟩ (m - i) c2 (ic (C.drop (i + 1))) (by rw [ic_length, List.length_drop]; omega) (by
      intro j u hj
      have hjl : j < (ic (C.drop (i + 1))).length := (List.getElem?_eq_some_iff.1 hj).1
      rw [ic_length, List.length_drop] at hjl
      have ho3 : o2 = i + 1 := by omega
      subst ho3
      rw [← ic_drop, List.getElem?_drop] at hj
      have := h.cells (g := g) rfl (i + 1 + j) u hj
      rw [Addr.add_lit, Nat.zero_add] at this
      rw [Addr.add_lit]
      exact this) (ic_one _) (by omega)
  have him : i + (m - i) = m := by omega
  rw [him, ← ic_append] at hrow
  rw [him] at hrun
  have hfz : w1.frozen? ⟨g, m, none⟩ = false := hrow.frozenAt m
  have hcell : (w1.cell? ⟨g, m, none⟩).isSome = true := by
    rcases hrow.2 with ⟨e, _⟩ | ⟨g', cap', cur', e, _, hg', _, _, hcs', _⟩
    · cases e
    · cases e
      rw [cell_of hg' m, Array.getElem?_eq_getElem (by omega)]
      rfl
  have hcl : ∀ ty, (Builtin.clear_ #[29] ty #[.slice (some ⟨g, m, none⟩) 1 (cap - m)]).run Tryz.prog w1 = .ok (.tuple #[]) (w1.setCell ⟨g, m, none⟩ (.int .i64 0)) := fun ty =>
    Lib.run_clear_slice w1 29 3 ty (.int .i64 0) Tryz.underlying29 zeroI rfl rfl g m 1 (cap - m) (by omega) (fun j hj => by
      have : j = 0 := by omega
      subst this; exact hcell) (fun j hj => by
      have : j = 0 := by omega
      subst this; exact hfz)
  obtain ⟨hs, hgs⟩ := hrow.stored m (.int .i64 0)
  have hlen : (C.take i ++ C.drop (i + 1)).length = m := by simp only [List.length_append, List.length_take, List.length_drop]; omega
  have HF : Hid ((w1.setCell ⟨g, m, none⟩ (.int .i64 0)).ownsRow 0 3 1 (.slice (some ⟨g, 0, none⟩) m cap) (C.take i ++ C.drop (i + 1)).length (ic (C.take i ++ C.drop (i + 1))) ∧ w.grownBy (w1.setCell ⟨g, m, none⟩ (.int .i64 0)) (some g)) := Lib.hid (by
    refine ⟨?_, ⟨hgs.os.trans hgr.os, hgs.tape.trans hgr.tape, hgs.output.trans hgr.output, Nat.le_trans hgr.size hgs.size, fun k hk hne => ?_⟩⟩
    · rw [hlen]
      rw [List.set_eq_of_length_le (by rw [ic_length, hlen]; exact Nat.le_refl _)] at hs
      exact hs
    · rw [hgs.block k (Nat.lt_of_lt_of_le hk hgr.size) hne, hgr.block k hk hne]
      rfl)
  have HRun := Lib.hid hrun
  obtain ⟨j, hj⟩ : ∃ j, j = i + 1 := ⟨_, rfl⟩
  obtain ⟨n, hn⟩ : ∃ n, n = C.length := ⟨_, rfl⟩
  rw [← hj] at ⊢ hform HF
  rw [← hn] at ⊢
  rw [show m - i = n - j by omega] at HRun
  rw [show (1 : Nat) = n - m by omega] at hcl
  have hne : ((i : Int) == (j : Int)) = false := by rw [beq_eq_false_iff_ne]; omega
  have z1 : j ≤ n := by omega
  have z2 : i ≤ j := by omega
  have z3 : n ≤ cap := by omega
  have z4 : m ≤ n := by omega
  have z5 : i ≤ cap := by omega
  have z6 : j ≤ cap := by omega
  have z7 : m ≤ cap := by omega
  have z8 : n ≤ 1000000 := by omega
  have z9 : i < n := by omega
  have za : m < cap := by omega
  have zb : n ≤ j + (n - j) := by omega
  have zc : cap = j → n - j = 0 := fun e => by omega
  clear h hg hb hcs htake hpre hrow hgr hcell hfz hs hgs hlen hrun hm hi0 hz0 hz1 hz2 hcm hnc hn hj hi hl him ho2 zb
  rcases hform with ⟨hq, rfl, rfl⟩ | ⟨hq, rfl, rfl⟩
  · clear zc
    have zq : ¬ cap = o2 := by omega
    go_enter Tryz.func83, Tryz.ntmps83
    go_wp2_with fail
    --R DelA--
    refine wp_region_N 6 (fun X => X = w.drew) (by kernel_rfl) ?_
    refine wpAnyN_take (i := 0) (oi := { dst := some 20, op := Go.Op.move (Go.Operand.tmp 0), type := 29, pos := "slices.go:232", after := #[], guard := none }) (oL := { dst := some 26, op := Go.Op.call { callee := Go.Callee.builtin Go.Builtin.append, args := #[Go.Operand.tmp 22, Go.Operand.tmp 25], argTypes := #[29, 29] }, type := 29, pos := "slices.go:232", after := #[{ on := 2, ground := Go.Ground.data }, { on := 5, ground := Go.Ground.data }], guard := none }) (v := .slice (some ⟨g, 0, none⟩) n cap) rfl rfl (by kernel_rfl) (by kernel_rfl) (by kernel_rfl) (by kernel_rfl) (fun _ _ _ h => h) (Or.inl ⟨by kernel_rfl, ?_⟩) rfl ?_
    · (intro X hX; subst hX <;> (go_simp; try (with_reducible rfl)))
    (try simp only [Act.put, List.setIfInBounds_toArray, List.set_cons_zero, List.set_cons_succ])
    refine wpAnyN_take (i := 1) (oi := { dst := some 21, op := Go.Op.move (Go.Operand.tmp 1), type := 3, pos := "slices.go:232", after := #[], guard := none }) (oL := { dst := some 26, op := Go.Op.call { callee := Go.Callee.builtin Go.Builtin.append, args := #[Go.Operand.tmp 22, Go.Operand.tmp 25], argTypes := #[29, 29] }, type := 29, pos := "slices.go:232", after := #[{ on := 2, ground := Go.Ground.data }, { on := 5, ground := Go.Ground.data }], guard := none }) (v := .int .i64 (i : Int)) rfl rfl (by kernel_rfl) (by kernel_rfl) (by kernel_rfl) (by kernel_rfl) (fun _ _ _ h => h) (Or.inl ⟨by kernel_rfl, ?_⟩) rfl ?_
    · (intro X hX; subst hX <;> (go_simp; try (with_reducible rfl)))
    (try simp only [Act.put, List.setIfInBounds_toArray, List.set_cons_zero, List.set_cons_succ])
    refine wpAnyN_take (i := 2) (oi := { dst := some 22, op := Go.Op.slice 29 (Go.Operand.tmp 20) none (some (Go.Operand.tmp 21)) none, type := 29, pos := "slices.go:232", after := #[{ on := 0, ground := Go.Ground.data }, { on := 1, ground := Go.Ground.data }], guard := none }) (oL := { dst := some 26, op := Go.Op.call { callee := Go.Callee.builtin Go.Builtin.append, args := #[Go.Operand.tmp 22, Go.Operand.tmp 25], argTypes := #[29, 29] }, type := 29, pos := "slices.go:232", after := #[{ on := 2, ground := Go.Ground.data }, { on := 5, ground := Go.Ground.data }], guard := none }) (v := .slice (some ⟨g, 0, none⟩) i cap) rfl rfl (by kernel_rfl) (by kernel_rfl) (by kernel_rfl) (by kernel_rfl) (fun _ _ _ h => h) (Or.inl ⟨by kernel_rfl, ?_⟩) rfl ?_
    · (intro X hX; subst hX <;> (go_simp; try (with_reducible rfl)))
    (try simp only [Act.put, List.setIfInBounds_toArray, List.set_cons_zero, List.set_cons_succ])
    refine wpAnyN_take (i := 3) (oi := { dst := some 23, op := Go.Op.move (Go.Operand.tmp 0), type := 29, pos := "slices.go:232", after := #[], guard := none }) (oL := { dst := some 26, op := Go.Op.call { callee := Go.Callee.builtin Go.Builtin.append, args := #[Go.Operand.tmp 22, Go.Operand.tmp 25], argTypes := #[29, 29] }, type := 29, pos := "slices.go:232", after := #[{ on := 2, ground := Go.Ground.data }, { on := 5, ground := Go.Ground.data }], guard := none }) (v := .slice (some ⟨g, 0, none⟩) n cap) rfl rfl (by kernel_rfl) (by kernel_rfl) (by kernel_rfl) (by kernel_rfl) (fun _ _ _ h => h) (Or.inl ⟨by kernel_rfl, ?_⟩) rfl ?_
    · (intro X hX; subst hX <;> (go_simp; try (with_reducible rfl)))
    (try simp only [Act.put, List.setIfInBounds_toArray, List.set_cons_zero, List.set_cons_succ])
    refine wpAnyN_take (i := 4) (oi := { dst := some 24, op := Go.Op.move (Go.Operand.tmp 2), type := 3, pos := "slices.go:232", after := #[], guard := none }) (oL := { dst := some 26, op := Go.Op.call { callee := Go.Callee.builtin Go.Builtin.append, args := #[Go.Operand.tmp 22, Go.Operand.tmp 25], argTypes := #[29, 29] }, type := 29, pos := "slices.go:232", after := #[{ on := 2, ground := Go.Ground.data }, { on := 5, ground := Go.Ground.data }], guard := none }) (v := .int .i64 (o2 : Int)) rfl rfl (by kernel_rfl) (by kernel_rfl) (by kernel_rfl) (by kernel_rfl) (fun _ _ _ h => h) (Or.inl ⟨by kernel_rfl, ?_⟩) rfl ?_
    · (intro X hX; subst hX <;> (go_simp; try (with_reducible rfl)))
    (try simp only [Act.put, List.setIfInBounds_toArray, List.set_cons_zero, List.set_cons_succ])
    refine wpAnyN_take (i := 5) (oi := { dst := some 25, op := Go.Op.slice 29 (Go.Operand.tmp 23) (some (Go.Operand.tmp 24)) none none, type := 29, pos := "slices.go:232", after := #[{ on := 3, ground := Go.Ground.data }, { on := 4, ground := Go.Ground.data }], guard := none }) (oL := { dst := some 26, op := Go.Op.call { callee := Go.Callee.builtin Go.Builtin.append, args := #[Go.Operand.tmp 22, Go.Operand.tmp 25], argTypes := #[29, 29] }, type := 29, pos := "slices.go:232", after := #[{ on := 2, ground := Go.Ground.data }, { on := 5, ground := Go.Ground.data }], guard := none }) (v := .slice (some ⟨g, o2, none⟩) (n - o2) (cap - o2)) rfl rfl (by kernel_rfl) (by kernel_rfl) (by kernel_rfl) (by kernel_rfl) (fun _ _ _ h => h) (Or.inl ⟨by kernel_rfl, ?_⟩) rfl ?_
    · (intro X hX; subst hX <;> (go_simp; try (with_reducible rfl)))
    (try simp only [Act.put, List.setIfInBounds_toArray, List.set_cons_zero, List.set_cons_succ])
    refine wpAnyN_one (i := 6) (o := { dst := some 26, op := Go.Op.call { callee := Go.Callee.builtin Go.Builtin.append, args := #[Go.Operand.tmp 22, Go.Operand.tmp 25], argTypes := #[29, 29] }, type := 29, pos := "slices.go:232", after := #[{ on := 2, ground := Go.Ground.data }, { on := 5, ground := Go.Ground.data }], guard := none }) (by kernel_rfl) rfl (fun K hK => ?_)
    refine step_append_run (u := .slice (some ⟨g, 0, none⟩) i cap) (v := .slice (some ⟨g, o2, none⟩) (n - o2) (cap - o2)) rfl _ _ _ rfl 29 rfl rfl rfl _ _ HRun.out ?_
    refine hK.out _ _ (fun e => absurd (e.symm.trans (by kernel_rfl) : false = true) Bool.false_ne_true) ?_
    clear hK K
    (try simp only [Act.put, List.setIfInBounds_toArray, List.set_cons_zero, List.set_cons_succ])
    refine wpAnyN_of_H (S' := fun _ => True) _ _ _ _ (by kernel_rfl) ?_
    refine wpAnyH_take (i := 7) (oi := { dst := some 0, op := Go.Op.assign (Go.Operand.tmp 26), type := 29, pos := "slices.go:232", after := #[{ on := 6, ground := Go.Ground.data }, { on := 6, ground := Go.Ground.chain }, { on := 0, ground := Go.Ground.phase }, { on := 1, ground := Go.Ground.phase }, { on := 2, ground := Go.Ground.phase }, { on := 3, ground := Go.Ground.phase }, { on := 4, ground := Go.Ground.phase }, { on := 5, ground := Go.Ground.phase }, { on := 6, ground := Go.Ground.phase }], guard := none }) (v := .slice (some ⟨g, 0, none⟩) m cap) rfl (by kernel_rfl) (by kernel_rfl) (by kernel_rfl) (fun _ _ _ h => h) (Or.inl ⟨by kernel_rfl, ?_⟩) trivial ?_
    · (intro X hX; go_simp; try (with_reducible rfl))
    (try simp only [Act.put, List.setIfInBounds_toArray, List.set_cons_zero])
    refine wpAnyH_done (by kernel_rfl) ?_ _
    --E DelA--
    all_goals
      go_wp2_with (simp only [hcl])
      go_ret
      exact ⟨_, rfl, HF.out.1, HF.out.2, rfl⟩
  · rw [zc hq.symm] at HRun
    have hnj : n = j := by have := zc hq.symm; omega
    subst hnj
    subst hq
    clear zc
    go_enter Tryz.func83, Tryz.ntmps83
    go_wp2_with fail
    --R DelB--
    refine wp_region_N 6 (fun X => X = w.drew) (by kernel_rfl) ?_
    refine wpAnyN_take (i := 0) (oi := { dst := some 20, op := Go.Op.move (Go.Operand.tmp 0), type := 29, pos := "slices.go:232", after := #[], guard := none }) (oL := { dst := some 26, op := Go.Op.call { callee := Go.Callee.builtin Go.Builtin.append, args := #[Go.Operand.tmp 22, Go.Operand.tmp 25], argTypes := #[29, 29] }, type := 29, pos := "slices.go:232", after := #[{ on := 2, ground := Go.Ground.data }, { on := 5, ground := Go.Ground.data }], guard := none }) (v := .slice (some ⟨g, 0, none⟩) n n) rfl rfl (by kernel_rfl) (by kernel_rfl) (by kernel_rfl) (by kernel_rfl) (fun _ _ _ h => h) (Or.inl ⟨by kernel_rfl, ?_⟩) rfl ?_
    · (intro X hX; subst hX <;> (go_simp; try (with_reducible rfl)))
    (try simp only [Act.put, List.setIfInBounds_toArray, List.set_cons_zero, List.set_cons_succ])
    refine wpAnyN_take (i := 1) (oi := { dst := some 21, op := Go.Op.move (Go.Operand.tmp 1), type := 3, pos := "slices.go:232", after := #[], guard := none }) (oL := { dst := some 26, op := Go.Op.call { callee := Go.Callee.builtin Go.Builtin.append, args := #[Go.Operand.tmp 22, Go.Operand.tmp 25], argTypes := #[29, 29] }, type := 29, pos := "slices.go:232", after := #[{ on := 2, ground := Go.Ground.data }, { on := 5, ground := Go.Ground.data }], guard := none }) (v := .int .i64 (i : Int)) rfl rfl (by kernel_rfl) (by kernel_rfl) (by kernel_rfl) (by kernel_rfl) (fun _ _ _ h => h) (Or.inl ⟨by kernel_rfl, ?_⟩) rfl ?_
    · (intro X hX; subst hX <;> (go_simp; try (with_reducible rfl)))
    (try simp only [Act.put, List.setIfInBounds_toArray, List.set_cons_zero, List.set_cons_succ])
    refine wpAnyN_take (i := 2) (oi := { dst := some 22, op := Go.Op.slice 29 (Go.Operand.tmp 20) none (some (Go.Operand.tmp 21)) none, type := 29, pos := "slices.go:232", after := #[{ on := 0, ground := Go.Ground.data }, { on := 1, ground := Go.Ground.data }], guard := none }) (oL := { dst := some 26, op := Go.Op.call { callee := Go.Callee.builtin Go.Builtin.append, args := #[Go.Operand.tmp 22, Go.Operand.tmp 25], argTypes := #[29, 29] }, type := 29, pos := "slices.go:232", after := #[{ on := 2, ground := Go.Ground.data }, { on := 5, ground := Go.Ground.data }], guard := none }) (v := .slice (some ⟨g, 0, none⟩) i n) rfl rfl (by kernel_rfl) (by kernel_rfl) (by kernel_rfl) (by kernel_rfl) (fun _ _ _ h => h) (Or.inl ⟨by kernel_rfl, ?_⟩) rfl ?_
    · (intro X hX; subst hX <;> (go_simp; try (with_reducible rfl)))
    (try simp only [Act.put, List.setIfInBounds_toArray, List.set_cons_zero, List.set_cons_succ])
    refine wpAnyN_take (i := 3) (oi := { dst := some 23, op := Go.Op.move (Go.Operand.tmp 0), type := 29, pos := "slices.go:232", after := #[], guard := none }) (oL := { dst := some 26, op := Go.Op.call { callee := Go.Callee.builtin Go.Builtin.append, args := #[Go.Operand.tmp 22, Go.Operand.tmp 25], argTypes := #[29, 29] }, type := 29, pos := "slices.go:232", after := #[{ on := 2, ground := Go.Ground.data }, { on := 5, ground := Go.Ground.data }], guard := none }) (v := .slice (some ⟨g, 0, none⟩) n n) rfl rfl (by kernel_rfl) (by kernel_rfl) (by kernel_rfl) (by kernel_rfl) (fun _ _ _ h => h) (Or.inl ⟨by kernel_rfl, ?_⟩) rfl ?_
    · (intro X hX; subst hX <;> (go_simp; try (with_reducible rfl)))
    (try simp only [Act.put, List.setIfInBounds_toArray, List.set_cons_zero, List.set_cons_succ])
    refine wpAnyN_take (i := 4) (oi := { dst := some 24, op := Go.Op.move (Go.Operand.tmp 2), type := 3, pos := "slices.go:232", after := #[], guard := none }) (oL := { dst := some 26, op := Go.Op.call { callee := Go.Callee.builtin Go.Builtin.append, args := #[Go.Operand.tmp 22, Go.Operand.tmp 25], argTypes := #[29, 29] }, type := 29, pos := "slices.go:232", after := #[{ on := 2, ground := Go.Ground.data }, { on := 5, ground := Go.Ground.data }], guard := none }) (v := .int .i64 (n : Int)) rfl rfl (by kernel_rfl) (by kernel_rfl) (by kernel_rfl) (by kernel_rfl) (fun _ _ _ h => h) (Or.inl ⟨by kernel_rfl, ?_⟩) rfl ?_
    · (intro X hX; subst hX <;> (go_simp; try (with_reducible rfl)))
    (try simp only [Act.put, List.setIfInBounds_toArray, List.set_cons_zero, List.set_cons_succ])
    refine wpAnyN_take (i := 5) (oi := { dst := some 25, op := Go.Op.slice 29 (Go.Operand.tmp 23) (some (Go.Operand.tmp 24)) none none, type := 29, pos := "slices.go:232", after := #[{ on := 3, ground := Go.Ground.data }, { on := 4, ground := Go.Ground.data }], guard := none }) (oL := { dst := some 26, op := Go.Op.call { callee := Go.Callee.builtin Go.Builtin.append, args := #[Go.Operand.tmp 22, Go.Operand.tmp 25], argTypes := #[29, 29] }, type := 29, pos := "slices.go:232", after := #[{ on := 2, ground := Go.Ground.data }, { on := 5, ground := Go.Ground.data }], guard := none }) (v := .slice (some ⟨g, 0, none⟩) (0) (0)) rfl rfl (by kernel_rfl) (by kernel_rfl) (by kernel_rfl) (by kernel_rfl) (fun _ _ _ h => h) (Or.inl ⟨by kernel_rfl, ?_⟩) rfl ?_
    · (intro X hX; subst hX <;> (go_simp; try (with_reducible rfl)))
    (try simp only [Act.put, List.setIfInBounds_toArray, List.set_cons_zero, List.set_cons_succ])
    refine wpAnyN_one (i := 6) (o := { dst := some 26, op := Go.Op.call { callee := Go.Callee.builtin Go.Builtin.append, args := #[Go.Operand.tmp 22, Go.Operand.tmp 25], argTypes := #[29, 29] }, type := 29, pos := "slices.go:232", after := #[{ on := 2, ground := Go.Ground.data }, { on := 5, ground := Go.Ground.data }], guard := none }) (by kernel_rfl) rfl (fun K hK => ?_)
    refine step_append_run (u := .slice (some ⟨g, 0, none⟩) i n) (v := .slice (some ⟨g, 0, none⟩) (0) (0)) rfl _ _ _ rfl 29 rfl rfl rfl _ _ HRun.out ?_
    refine hK.out _ _ (fun e => absurd (e.symm.trans (by kernel_rfl) : false = true) Bool.false_ne_true) ?_
    clear hK K
    (try simp only [Act.put, List.setIfInBounds_toArray, List.set_cons_zero, List.set_cons_succ])
    refine wpAnyN_of_H (S' := fun _ => True) _ _ _ _ (by kernel_rfl) ?_
    refine wpAnyH_take (i := 7) (oi := { dst := some 0, op := Go.Op.assign (Go.Operand.tmp 26), type := 29, pos := "slices.go:232", after := #[{ on := 6, ground := Go.Ground.data }, { on := 6, ground := Go.Ground.chain }, { on := 0, ground := Go.Ground.phase }, { on := 1, ground := Go.Ground.phase }, { on := 2, ground := Go.Ground.phase }, { on := 3, ground := Go.Ground.phase }, { on := 4, ground := Go.Ground.phase }, { on := 5, ground := Go.Ground.phase }, { on := 6, ground := Go.Ground.phase }], guard := none }) (v := .slice (some ⟨g, 0, none⟩) m n) rfl (by kernel_rfl) (by kernel_rfl) (by kernel_rfl) (fun _ _ _ h => h) (Or.inl ⟨by kernel_rfl, ?_⟩) trivial ?_
    · (intro X hX; go_simp; try (with_reducible rfl))
    (try simp only [Act.put, List.setIfInBounds_toArray, List.set_cons_zero])
    refine wpAnyH_done (by kernel_rfl) ?_ _
    --E DelB--
    all_goals
      go_wp2_with (simp only [hcl])
      go_ret
      exact ⟨_, rfl, HF.out.1, HF.out.2, rfl⟩
end Go.Proofs.YtmedpcldfpfpnaaGreat

/- view: a row goes, a row turns; a number that was coming is taken out. -/
namespace Go.Proofs.YtmedpcldfpfpnaaGreat
open Go.RowKit

def goE (r : RE) : RE := { r with gone := true, tn := none }
def turnE (t : TE) (r : RE) : RE := { r with tn := some t }
theorem rwC_cons (q : RE) (s : List RE) : rwC (q :: s) = .int .i64 q.uid :: .bool q.gone :: .bool q.rct :: q.ptr :: rwC s := by simp [rwC, RE.enc]
theorem rwC_go (R : List RE) (i : Nat) (hi : i < R.length) : ((rwC R).set (i * 4 + 1) (.bool true)).set (i * 4 + 3) (.pointer none) = rwC (R.set i (goE (R.getD i RE0))) := by
  induction R generalizing i with
  | nil => simp at hi
  | cons p t ih =>
    cases i with
    | zero => rw [rwC_cons]; show _ = rwC (goE p :: t); rw [rwC_cons]; rfl
    | succ i =>
      have := ih i (by simpa using hi)
      rw [rwC_cons, show (i + 1) * 4 = i * 4 + 1 + 1 + 1 + 1 by omega]
      simp only [List.set_cons_succ, List.getD_cons_succ]
      rw [this, rwC_cons]
theorem rwC_turn (R : List RE) (i : Nat) (te : TE) (hi : i < R.length) : (rwC R).set (i * 4 + 3) (.pointer (some ⟨te.blk, 0, none⟩)) = rwC (R.set i (turnE te (R.getD i RE0))) := by
  induction R generalizing i with
  | nil => simp at hi
  | cons p t ih =>
    cases i with
    | zero => rw [rwC_cons]; show _ = rwC (turnE te p :: t); rw [rwC_cons]; rfl
    | succ i =>
      have := ih i (by simpa using hi)
      rw [rwC_cons, show (i + 1) * 4 = i * 4 + 1 + 1 + 1 + 1 by omega]
      simp only [List.set_cons_succ, List.getD_cons_succ]
      rw [this, rwC_cons]
theorem mem_set' {R : List RE} {i : Nat} {r x : RE} (h : x ∈ R.set i r) : x ∈ R ∨ x = r := by
  rcases List.mem_or_eq_of_mem_set h with h | h
  · exact .inl h
  · exact .inr h
theorem getD_mem' {R : List RE} {i : Nat} (hi : i < R.length) : R.getD i RE0 ∈ R := by
  rw [List.getD_eq_getElem?_getD, List.getElem?_eq_getElem hi]
  exact List.getElem_mem hi
section
variable {P : Nat} {val : Int} {cv : Value} {R : List RE} {C : List Int} {w : World} {g cap : Nat}
theorem VAt.row_at {rv : Value} (h : VAt P val rv cv R C w) {i : Nat} (hi : i < R.length) : ∃ g cap, rv = .slice (some ⟨g, 0, none⟩) R.length cap ∧ w.cell? ⟨g, i * 4, none⟩ = some (.int .i64 (R.getD i RE0).uid) ∧ w.cell? ⟨g, i * 4 + 1, none⟩ = some (.bool (R.getD i RE0).gone) ∧ w.cell? ⟨g, i * 4 + 2, none⟩ = some (.bool (R.getD i RE0).rct) ∧ w.cell? ⟨g, i * 4 + 3, none⟩ = some (R.getD i RE0).ptr ∧ ∀ j, w.frozen? ⟨g, j, none⟩ = false := by
  have hr := h.rows
  rcases hr.2 with ⟨rfl, h0⟩ | ⟨g, cap, cur, rfl, _⟩
  · omega
  · have := rwC_at R i hi
    exact ⟨g, cap, rfl, (hr.cellAt _ (by omega)).trans this.1, (hr.cellAt _ (by omega)).trans this.2.1, (hr.cellAt _ (by omega)).trans this.2.2.1, (hr.cellAt _ (by omega)).trans this.2.2.2, fun j => hr.frozenAt j⟩
/-- A row has gone. -/
theorem VAt.goR (h : VAt P val (.slice (some ⟨g, 0, none⟩) R.length cap) cv R C w) {i : Nat} (hi : i < R.length) :
    VAt P val (.slice (some ⟨g, 0, none⟩) R.length cap) cv (R.set i (goE (R.getD i RE0))) C ((w.setCell ⟨g, i * 4 + 1, none⟩ (.bool true)).setCell ⟨g, i * 4 + 3, none⟩ (.pointer none)) ∧
      FO (fpV P (.slice (some ⟨g, 0, none⟩) R.length cap) cv R) (fpV P (.slice (some ⟨g, 0, none⟩) R.length cap) cv (R.set i (goE (R.getD i RE0)))) w ((w.setCell ⟨g, i * 4 + 1, none⟩ (.bool true)).setCell ⟨g, i * 4 + 3, none⟩ (.pointer none)) := by
  obtain ⟨s1, g1⟩ := h.rows.stored (i * 4 + 1) (.bool true)
  obtain ⟨s2, g2⟩ := s1.stored (i * 4 + 3) (.pointer none)
  rw [rwC_go R i hi] at s2
  have keep : ∀ b, b ≠ g → ((w.setCell ⟨g, i * 4 + 1, none⟩ (.bool true)).setCell ⟨g, i * 4 + 3, none⟩ (.pointer none)).heap[b]? = w.heap[b]? := fun b hb => by
    rw [Below.heap_setCell _ _ _ _ hb, Below.heap_setCell _ _ _ _ hb]
  have hgo : (Value.slice (some ⟨g, 0, none⟩) R.length cap).ownBlock = some g := rfl
  refine ⟨⟨?_, ?_, ?_, ?_⟩, ?_, ?_⟩
  · rw [keep P (fun e => h.pr (e ▸ hgo))]; exact h.self
  · rw [List.length_set]; exact s2
  · exact ownsRow_same h.com (fun b e => keep b (fun e' => h.rc hgo (e' ▸ e)))
  · intro r hr t ht
    rcases mem_set' hr with hr | rfl
    · exact (h.turns r hr t ht).hold (fun b hb => keep b (fun e' => (h.tt hr ht hb).2.1 (e' ▸ hgo)))
    · cases ht
  · exact Stays.setCell (p := ⟨g, i * 4 + 3, none⟩) (Stays.setCell (p := ⟨g, i * 4 + 1, none⟩) (Stays.refl _ _) (.inl (mem_fpV_r hgo)) _) (.inl (mem_fpV_r hgo)) _
  · intro b hb
    rcases mem_fpV.1 hb with rfl | hb | hb | ⟨r, hr, hb⟩
    · exact .inl mem_fpV_p
    · exact .inl (mem_fpV_r hb)
    · exact .inl (mem_fpV_c hb)
    · rcases mem_set' hr with hr | rfl
      · exact .inl (mem_fpV_t hr hb)
      · rw [blks_no rfl] at hb; cases hb
/-- Something waits of a row; it lies in new blocks. -/
theorem VAt.turnR {w1 : World} (h : VAt P val (.slice (some ⟨g, 0, none⟩) R.length cap) cv R C w) {i : Nat} (hi : i < R.length) (hb1 : Below w.heap.size w w1) (t : TE) (ht1 : TurnAt w1 t) (hnew : ∀ b, b ∈ t.blks → w.heap.size ≤ b) :
    VAt P val (.slice (some ⟨g, 0, none⟩) R.length cap) cv (R.set i (turnE t (R.getD i RE0))) C (w1.setCell ⟨g, i * 4 + 3, none⟩ (.pointer (some ⟨t.blk, 0, none⟩))) ∧
      FO (fpV P (.slice (some ⟨g, 0, none⟩) R.length cap) cv R) (fpV P (.slice (some ⟨g, 0, none⟩) R.length cap) cv (R.set i (turnE t (R.getD i RE0)))) w (w1.setCell ⟨g, i * 4 + 3, none⟩ (.pointer (some ⟨t.blk, 0, none⟩))) := by
  have h1 := h.on hb1
  obtain ⟨s1, g1⟩ := h1.rows.stored (i * 4 + 3) (.pointer (some ⟨t.blk, 0, none⟩))
  rw [rwC_turn R i t hi] at s1
  have hgl : g < w.heap.size := (h.rows.lt g rfl).2
  have keep : ∀ b, b ≠ g → (w1.setCell ⟨g, i * 4 + 3, none⟩ (.pointer (some ⟨t.blk, 0, none⟩))).heap[b]? = w1.heap[b]? := fun b hb => by
    rw [Below.heap_setCell _ _ _ _ hb]
  have hgo : (Value.slice (some ⟨g, 0, none⟩) R.length cap).ownBlock = some g := rfl
  refine ⟨⟨?_, ?_, ?_, ?_⟩, ?_, ?_⟩
  · rw [keep P (fun e => h1.pr (e ▸ hgo))]; exact h1.self
  · rw [List.length_set]; exact s1
  · exact ownsRow_same h1.com (fun b e => keep b (fun e' => h1.rc hgo (e' ▸ e)))
  · intro r hr t' ht
    rcases mem_set' hr with hr | rfl
    · exact (h1.turns r hr t' ht).hold (fun b hb => keep b (fun e' => (h1.tt hr ht hb).2.1 (e' ▸ hgo)))
    · have : t = t' := by simpa [turnE] using ht
      subst this
      exact ht1.hold (fun b hb => keep b (fun e' => by have := hnew b hb; omega))
  · exact Stays.setCell (p := ⟨g, i * 4 + 3, none⟩) (Stays.ofBelow hb1) (.inl (mem_fpV_r hgo)) _
  · intro b hb
    rcases mem_fpV.1 hb with rfl | hb | hb | ⟨r, hr, hb⟩
    · exact .inl mem_fpV_p
    · exact .inl (mem_fpV_r hb)
    · exact .inl (mem_fpV_c hb)
    · rcases mem_set' hr with hr | rfl
      · exact .inl (mem_fpV_t hr hb)
      · rw [blks_tn (t := t) rfl] at hb; exact .inr (hnew b hb)
/-- coming is another row that the call made, in its own block or a new one. -/
theorem VAt.newC {rv cv' : Value} {C' : List Int} {w1 : World} (h : VAt P val rv cv R C w) (hg1 : w.grownBy w1 cv.ownBlock) (hrow : w1.ownsRow 0 3 1 cv' C'.length (ic C')) (hb : ∀ b, cv'.ownBlock = some b → cv.ownBlock = some b ∨ w.heap.size ≤ b) :
    w1.heap[P]? = some (selfV val rv cv) ∧ VAt P val rv cv' R C' (w1.setCell ⟨P, 3, none⟩ cv') ∧ FO (fpV P rv cv R) (fpV P rv cv' R) w (w1.setCell ⟨P, 3, none⟩ cv') := by
  have hbl := lt_of_heap h.self
  have hs1 : w1.heap[P]? = some (selfV val rv cv) := by rw [hg1.block P hbl (fun e => h.pc e.symm)]; exact h.self
  have hset : ∀ b, b ≠ P → (w1.setCell ⟨P, 3, none⟩ cv').heap[b]? = w1.heap[b]? := fun b hb => Below.heap_setCell _ _ _ _ hb
  have keep : ∀ b, b < w.heap.size → b ≠ P → cv.ownBlock ≠ some b → (w1.setCell ⟨P, 3, none⟩ cv').heap[b]? = w.heap[b]? := fun b hb hp hc => by
    rw [hset b hp, hg1.block b hb (fun e => hc e.symm)]
  refine ⟨hs1, ⟨?_, ?_, ?_, ?_⟩, ?_, ?_⟩
  · unfold selfV at hs1
    rw [heap_setCell_at _ hs1]
    rfl
  · exact ownsRow_same h.rows (fun b e => keep b (h.rows.lt b e).2 (fun e' => h.pr (e' ▸ e)) (h.rc e))
  · exact ownsRow_same hrow (fun b e => hset b (fun e' => by
      subst e'
      rcases hb _ e with e2 | e2
      · exact h.pc e2
      · omega))
  · intro r hr t ht
    refine (h.turns r hr t ht).hold (fun b hb => ?_)
    have q := h.tt hr ht hb
    exact keep b ((h.turns r hr t ht).lt hb) q.1 q.2.2
  · exact Stays.setCell (p := ⟨P, 3, none⟩) (Stays.ofGrown hg1 (fun b e => mem_fpV_c e)) (.inl mem_fpV_p) _
  · intro b hb'
    rcases mem_fpV.1 hb' with rfl | hb' | hb' | ⟨r, hr, hb'⟩
    · exact .inl mem_fpV_p
    · exact .inl (mem_fpV_r hb')
    · rcases hb b hb' with e | e
      · exact .inl (mem_fpV_c e)
      · exact .inr e
    · exact .inl (mem_fpV_t hr hb')
end
end Go.Proofs.YtmedpcldfpfpnaaGreat

/- view: leave. -/
namespace Go.Proofs.YtmedpcldfpfpnaaGreat
open Go.RowKit

def atU (u : Int) (f : RE → RE) (r : RE) : RE := if r.uid = u then f r else r
theorem map_no {u : Int} {f : RE → RE} : ∀ {R : List RE}, (∀ r ∈ R, r.uid ≠ u) → R.map (atU u f) = R
  | [], _ => rfl
  | r :: R, h => by
    rw [List.map_cons, map_no (fun x hx => h x (List.mem_cons_of_mem _ hx))]
    unfold atU
    rw [if_neg (h r List.mem_cons_self)]
theorem map_hit {u : Int} {f : RE → RE} : ∀ {R : List RE} {m : Int}, riseF m (uidR R) → u ∈ uidR R → R.set (ixP (uidR R) u) (f (R.getD (ixP (uidR R) u) RE0)) = R.map (atU u f)
  | [], _, _, h => by simp [uidR] at h
  | r :: R, m, ⟨a, b⟩, h => by
    have e : uidR (r :: R) = r.uid :: uidR R := rfl
    by_cases hr : r.uid = u
    · have hn : ixP (uidR (r :: R)) u = 0 := by
        rw [e]; unfold ixP; rw [if_neg (by omega)]
      rw [hn]
      show f r :: R = atU u f r :: R.map (atU u f)
      rw [map_no (fun x hx => by
        have := riseF_gt b (x := x.uid) (List.mem_map_of_mem hx)
        omega)]
      unfold atU
      rw [if_pos hr]
    · have hm : u ∈ uidR R := by
        rw [e] at h
        rcases List.mem_cons.1 h with h | h
        · exact absurd h.symm hr
        · exact h
      have hlt := riseF_gt b hm
      have hn : ixP (uidR (r :: R)) u = ixP (uidR R) u + 1 := by
        rw [e]
        show (if r.uid < u then ixP (uidR R) u + 1 else 0) = _
        rw [if_pos hlt]
      rw [hn, List.map_cons]
      show r :: R.set (ixP (uidR R) u) (f (R.getD (ixP (uidR R) u) RE0)) = _
      rw [map_hit b hm]
      unfold atU
      rw [if_neg hr]
theorem map_miss {u : Int} {f : RE → RE} {R : List RE} {m : Int} (hr : riseF m (uidR R)) (h : hitP (uidR R) u = false) : R.map (atU u f) = R :=
  map_no (fun r hr' e => by
    have : hitP (uidR R) u = true := (hitP_iff hr).2 (e ▸ List.mem_map_of_mem hr')
    rw [h] at this
    cases this)
theorem filt_hit : ∀ {C : List Int} {m u : Int}, riseF m C → u ∈ C → C.take (ixP C u) ++ C.drop (ixP C u + 1) = C.filter (fun x => x != u)
  | x :: C, m, u, ⟨a, b⟩, h => by
    by_cases hx : x = u
    · subst hx
      have hn : ixP (x :: C) x = 0 := by unfold ixP; rw [if_neg (by omega)]
      rw [hn]
      show C = _
      rw [List.filter_cons_of_neg (by simp)]
      symm
      rw [List.filter_eq_self]
      intro y hy
      have := riseF_gt b hy
      simp; omega
    · have hm : u ∈ C := by
        rcases List.mem_cons.1 h with h | h
        · exact absurd h.symm hx
        · exact h
      have hlt := riseF_gt b hm
      have hn : ixP (x :: C) u = ixP C u + 1 := by
        show (if x < u then ixP C u + 1 else 0) = _
        rw [if_pos hlt]
      rw [hn, List.filter_cons_of_pos (by simpa using hx)]
      show x :: (C.take (ixP C u) ++ C.drop (ixP C u + 1)) = _
      rw [filt_hit b hm]
theorem filt_miss {C : List Int} {m u : Int} (hr : riseF m C) (h : hitP C u = false) : C.filter (fun x => x != u) = C := by
  rw [List.filter_eq_self]
  intro y hy
  have : y ≠ u := fun e => by
    have : hitP C u = true := (hitP_iff hr).2 (e ▸ hy)
    rw [h] at this
    cases this
  simpa using this
def lvR (R : List RE) (us : List Int) : List RE := us.foldl (fun R u => R.map (atU u goE)) R
def lvC (C : List Int) (us : List Int) : List Int := us.foldl (fun C u => C.filter (fun x => x != u)) C
theorem lvR_snoc (R : List RE) (us : List Int) (u : Int) : lvR R (us ++ [u]) = (lvR R us).map (atU u goE) := by simp [lvR]
theorem lvC_snoc (C us : List Int) (u : Int) : lvC C (us ++ [u]) = (lvC C us).filter (fun x => x != u) := by simp [lvC]
theorem atU_uid {u : Int} {f : RE → RE} (hf : ∀ r, (f r).uid = r.uid) (r : RE) : (atU u f r).uid = r.uid := by unfold atU; split <;> simp [hf]
theorem uidR_map {f : RE → RE} (hf : ∀ r, (f r).uid = r.uid) (R : List RE) : uidR (R.map f) = uidR R := by
  unfold uidR; rw [List.map_map]; exact List.map_congr_left fun r _ => hf r
theorem lvR_uid : ∀ (us : List Int) (R : List RE), uidR (lvR R us) = uidR R
  | [], _ => rfl
  | u :: us, R => (lvR_uid us _).trans (uidR_map (f := atU u goE) (atU_uid (f := goE) (fun _ => rfl)) R)
theorem lvR_len : ∀ (us : List Int) (R : List RE), (lvR R us).length = R.length
  | [], _ => rfl
  | u :: us, R => (lvR_len us _).trans (by simp)
theorem lvC_sub : ∀ (us C : List Int), (lvC C us).Sublist C
  | [], _ => List.Sublist.refl _
  | _ :: us, _ => (lvC_sub us _).trans List.filter_sublist
theorem VOK.leave {R : List RE} {C : List Int} {N : Nat} (h : VOK R C N) (us : List Int) : VOK (lvR R us) (lvC C us) N := by
  have hs : (uidR (lvR R us) ++ lvC C us).Sublist (uidR R ++ C) := by
    rw [lvR_uid]; exact List.Sublist.append (List.Sublist.refl _) (lvC_sub us C)
  refine ⟨riseF_sub h.rise hs, fun x hx => h.top x (hs.subset hx), ?_⟩
  have h1 := lvR_len us R
  have h2 := (lvC_sub us C).length_le
  have := h.len
  omega
theorem VOK.com {R : List RE} {C : List Int} {N : Nat} (h : VOK R C N) : riseF (lastD (uidR R) 0) C := ((riseF_append _ _ _).1 h.rise).2
section
variable {P : Nat} {val : Int} {rv cv : Value} {R : List RE} {C : List Int} {w : World} {N : Nat}
/-- The second half of leave's round: a number that is coming. -/
theorem dropC (h : VAt P val rv cv R C w) (hk : VOK R C N) (hN : N ≤ 1000000) (u : Int) (hh : hitP C u = true) :
    Calls Tryz.prog 83 #[cv, .int .i64 (ixP C u : Nat), .int .i64 ((ixP C u : Nat) + 1 : Int)] w fun e w' => ∃ cv', e = .returned cv' ∧ w'.heap[P]? = some (selfV val rv cv) ∧ VAt P val rv cv' R (C.filter (fun x => x != u)) (w'.setCell ⟨P, 3, none⟩ cv') ∧ FO (fpV P rv cv R) (fpV P rv cv' R) w (w'.setCell ⟨P, 3, none⟩ cv') := by
  have hm := ixP_mem hk.com (hitP_mem hh)
  have hl := hk.len
  have := delete_any cv C (ixP C u) w h.com hm.1 (by omega)
  rw [show ((ixP C u + 1 : Nat) : Int) = (ixP C u : Int) + 1 by omega] at this
  refine this.mono ?_
  rintro e w' ⟨v', rfl, ho, hg, hb⟩
  rw [filt_hit hk.com (hitP_mem hh)] at ho
  obtain ⟨q1, q2, q3⟩ := h.newC hg ho (fun b e => .inl (hb ▸ e))
  exact ⟨v', rfl, q1, q2, q3⟩
set_option maxRecDepth 100000 in
set_option maxHeartbeats 600000 in
theorem leave_any (h : VAt P val rv cv R C w) (hk : VOK R C N) (hN : N ≤ 1000000) (v : Value) (us : List Int) (hv : Nms w v us) (hn : 0 < us.length → ∀ b, v.ownBlock = some b → b ∉ fpV P rv cv R) (hU : us.length ≤ 1000000) :
    Calls Tryz.prog 71 #[.pointer (some ⟨P, 0, none⟩), v] w fun e w' => e = .returned (.tuple #[]) ∧ VO P val (lvR R us) (lvC C us) (fpV P rv cv R) w w' := by
  obtain ⟨av, kv, hve, hvs⟩ := hv
  subst hve
  have HV := Lib.hid hvs
  have HN := Lib.hid hn
  have HK := Lib.hid hk
  have H0 := Lib.hid (VO.refl h)
  clear h hvs hn hk
  go_enter Tryz.func71, Tryz.ntmps71
  go_wp2
  go_loopw [12] (fun i wr => ∃ k : Nat, k ≤ us.length ∧ i = .int .i64 k ∧ VO P val (lvR R (us.take k)) (lvC C (us.take k)) (fpV P rv cv R) w wr) (fun i _ => us.length - (intOf i).toNat)
  case atStart => exact ⟨0, Nat.zero_le _, rfl, H0.out⟩
  case round =>
    obtain ⟨k, hk, rfl, hO⟩ := hrel
    by_cases hlt : k < us.length
    · have hlti : (k : Int) < (us.length : Int) := by omega
      obtain ⟨g, off, rfl, hg, hcc⟩ := HV.out (by omega)
      obtain ⟨rv1, cv1, h1, f1⟩ := hO
      have ck := hcc k hlt
      rw [← World.cell?_of_block (a := ⟨g, off + k, none⟩) (f1.keep hg (HN.out (by omega) g rfl))] at ck
      have hst : us.take (k + 1) = us.take k ++ [us.getD k 0] := take_snocI us k hlt
      have HSR : Hid (lvR R (us.take (k + 1)) = (lvR R (us.take k)).map (atU (us.getD k 0) goE)) := Lib.hid (by rw [hst, lvR_snoc])
      have HSC : Hid (lvC C (us.take (k + 1)) = (lvC C (us.take k)).filter (fun x => x != us.getD k 0)) := Lib.hid (by rw [hst, lvC_snoc])
      have hk1 := HK.out.leave (us.take k)
      clear hst hcc
      generalize us.getD k 0 = u at *
      generalize lvR R (us.take k) = R1 at *
      generalize lvC C (us.take k) = C1 at *
      have hl1 := hk1.len
      have hjx := ixP_le C1 u
      have hjl : ixP C1 u ≤ 1000000 := by omega
      have HP := Lib.hid (place_any h1 hk1 hN u)
      have HB : Hid (∀ rv2 R2 W, VAt P val rv2 cv1 R2 C1 W → uidR R2 = uidR R1 → R2.length = R1.length → FO (fpV P rv cv R) (fpV P rv2 cv1 R2) w W → W.cell? ⟨P, 3, none⟩ = some cv1 ∧ Calls Tryz.prog 82 #[cv1, .int .i64 u] W (fun e w' => e = .returned (.tuple #[.int .i64 (ixP C1 u : Nat), .bool (hitP C1 u)]) ∧ w' = W) ∧ (hitP C1 u = true → Calls Tryz.prog 83 #[cv1, .int .i64 (ixP C1 u : Nat), .int .i64 ((ixP C1 u : Nat) + 1 : Int)] W (fun e w' => ∃ a4 n4 k4, e = .returned (.slice a4 n4 k4) ∧ w'.cell? ⟨P, 3, none⟩ = some cv1 ∧ w'.frozen? ⟨P, 3, none⟩ = false ∧ VO P val R2 (C1.filter (fun x => x != u)) (fpV P rv cv R) w (w'.setCell ⟨P, 3, none⟩ (.slice a4 n4 k4)))) ∧ (hitP C1 u = false → VO P val R2 (C1.filter (fun x => x != u)) (fpV P rv cv R) w W)) := Lib.hid (fun rv2 R2 W hW hu hrl hF => by
        have hk2 : VOK R2 C1 N := ⟨by rw [hu]; exact hk1.rise, by rw [hu]; exact hk1.top, by omega⟩
        refine ⟨hW.cells.c3, isearch_any cv1 C1 _ u W (nms_of hW.com) (by omega) hk1.com, fun hh => ?_, fun hh => ?_⟩
        · refine (dropC hW hk2 hN u hh).mono ?_
          rintro e w' ⟨cv', rfl, q1, q2, q3⟩
          obtain ⟨a4, k4, rfl⟩ := ownsRow_shape q2.com
          exact ⟨_, _, _, rfl, (selfV_cells q1).c3, (selfV_cells q1).f3, _, _, q2, hF.trans q3⟩
        · rw [filt_miss hk1.com hh]
          exact ⟨_, _, hW, hF⟩)
      generalize hpp : ixP C1 u = jx at *
      clear hpp
      cases hh : hitP (uidR R1) u with
      | false =>
        rw [hh] at HP
        have HM : Hid (R1.map (atU u goE) = R1) := Lib.hid (map_miss hk1.rows hh)
        have H2 : Hid (∀ W, Below wr.heap.size wr W → VAt P val rv1 cv1 R1 C1 W ∧ FO (fpV P rv cv R) (fpV P rv1 cv1 R1) w W) := Lib.hid (fun W hb => ⟨h1.on hb, f1.trans (FO.below hb)⟩)
        cases hc : hitP C1 u with
        | false =>
          rw [hc] at HB
          clear hh h1 f1 hk1 hc
          go_wp2_with (first | (go_at_call 68; refine HP.out.mono ?_; rintro e W ⟨rfl, hb⟩; obtain ⟨q1, q2⟩ := H2.out _ hb; obtain ⟨c3, hs, _, hm⟩ := HB.out _ _ _ q1 rfl rfl q2; have HS := Lib.hid hs; have HO := Lib.hid (hm rfl); clear hs hm q1 q2 hb) | (go_at_call 82; refine HS.out.mono ?_; rintro e w' ⟨rfl, hw⟩; subst w'))
          go_roundw
          case rel => exact ⟨k + 1, by omega, by go_num, by rw [HSR.out, HSC.out, HM.out]; exact HO.out⟩
          case measure => simp [intOf]; omega
        | true =>
          rw [hc] at HB
          clear hh h1 f1 hk1 hc
          go_wp2_with (first | (go_at_call 68; refine HP.out.mono ?_; rintro e W ⟨rfl, hb⟩; obtain ⟨q1, q2⟩ := H2.out _ hb; obtain ⟨c3, hs, hd, _⟩ := HB.out _ _ _ q1 rfl rfl q2; have HS := Lib.hid hs; have HD := Lib.hid (hd rfl); clear hs hd q1 q2 hb) | (go_at_call 82; refine HS.out.mono ?_; rintro e w' ⟨rfl, hw⟩; subst w') | (go_at_call 83; refine HD.out.mono ?_; rintro e w4 ⟨a4, n4, k4, rfl, c4, z4, ho4⟩; have HO := Lib.hid ho4; clear ho4))
          go_roundw
          case rel => exact ⟨k + 1, by omega, by go_num, by rw [HSR.out, HSC.out, HM.out]; exact HO.out⟩
          case measure => simp [intOf]; omega
      | true =>
        rw [hh] at HP
        have hix := ixP_mem hk1.rows (hitP_mem hh)
        rw [uidR_length] at hix
        have hixl := hix.1
        have HM : Hid (R1.set (ixP (uidR R1) u) (goE (R1.getD (ixP (uidR R1) u) RE0)) = R1.map (atU u goE)) := Lib.hid (map_hit hk1.rows (hitP_mem hh))
        obtain ⟨g2, cap2, rfl, _⟩ := h1.row_at hix.1
        have hiu := hk1.rows
        have H2 : Hid (∀ W, Below wr.heap.size wr W → W.cell? ⟨P, 2, none⟩ = some (.slice (some ⟨g2, 0, none⟩) R1.length cap2) ∧ (W.cell? ⟨g2, ixP (uidR R1) u * 4 + 1, none⟩).isSome = true ∧ (W.cell? ⟨g2, ixP (uidR R1) u * 4 + 3, none⟩).isSome = true ∧ (∀ j, W.frozen? ⟨g2, j, none⟩ = false) ∧ VAt P val (.slice (some ⟨g2, 0, none⟩) R1.length cap2) cv1 (R1.map (atU u goE)) C1 ((W.setCell ⟨g2, ixP (uidR R1) u * 4 + 1, none⟩ (.bool true)).setCell ⟨g2, ixP (uidR R1) u * 4 + 3, none⟩ (.pointer none)).drew ∧ FO (fpV P rv cv R) (fpV P (.slice (some ⟨g2, 0, none⟩) R1.length cap2) cv1 (R1.map (atU u goE))) w ((W.setCell ⟨g2, ixP (uidR R1) u * 4 + 1, none⟩ (.bool true)).setCell ⟨g2, ixP (uidR R1) u * 4 + 3, none⟩ (.pointer none)).drew) := Lib.hid (fun W hb => by
          have hW := h1.on hb
          obtain ⟨g3, cap3, e3, _, x1, _, x3, x4⟩ := hW.row_at hix.1
          cases e3
          obtain ⟨y1, y2⟩ := hW.goR hix.1
          rw [HM.out] at y1 y2
          exact ⟨hW.cells.c2, by rw [x1]; rfl, by rw [x3]; rfl, x4, y1.on (Below.refl _ _).drew, (f1.trans ((FO.below hb).trans y2)).trans (FO.below (Below.refl _ _).drew)⟩)
        have hpg : P ≠ g2 := fun e => h1.pr (e ▸ rfl)
        have hul : uidR (R1.map (atU u goE)) = uidR R1 := uidR_map (f := atU u goE) (atU_uid (f := goE) (fun _ => rfl)) R1
        have hll : (R1.map (atU u goE)).length = R1.length := by simp
        have HUL := Lib.hid hul
        have HLL := Lib.hid hll
        have hR1 : R1.length ≤ 1000000 := by omega
        clear hix hul hll
        cases hc : hitP C1 u with
        | false =>
          rw [hc] at HB
          clear hh h1 f1 hk1 hc hiu
          generalize ixP (uidR R1) u = ix at *
          have hixi : (ix : Int) < (R1.length : Int) := by omega
          go_wp2_with (first | (go_at_call 68; refine HP.out.mono ?_; rintro e W ⟨rfl, hb⟩; obtain ⟨c2, x1, x3, x4, y1, y2⟩ := H2.out _ hb; have f1 := x4 (ix * 4 + 1); have f3 := x4 (ix * 4 + 3); obtain ⟨z1, hz1⟩ := Option.isSome_iff_exists.1 x1; obtain ⟨z3, hz3⟩ := Option.isSome_iff_exists.1 x3; obtain ⟨c3, hs, _, hm⟩ := HB.out _ _ _ y1 HUL.out HLL.out y2; have HS := Lib.hid hs; have HO := Lib.hid (hm rfl); have C3 := Lib.hid c3; clear hs hm y1 y2 hb c3 x1 x3 x4))
          go_region
          generalize ((W.setCell ⟨g2, ix * 4 + 1, none⟩ (.bool true)).setCell ⟨g2, ix * 4 + 3, none⟩ (.pointer none)).drew = Y at *
          have c3 := C3.out
          go_wp2_with (go_at_call 82; refine HS.out.mono ?_; rintro e w' ⟨rfl, hw⟩; subst w')
          go_roundw
          case rel => exact ⟨k + 1, by omega, by go_num, by rw [HSR.out, HSC.out]; exact HO.out⟩
          case measure => simp [intOf]; omega
        | true =>
          rw [hc] at HB
          clear hh h1 f1 hk1 hc hiu
          generalize ixP (uidR R1) u = ix at *
          have hixi : (ix : Int) < (R1.length : Int) := by omega
          go_wp2_with (first | (go_at_call 68; refine HP.out.mono ?_; rintro e W ⟨rfl, hb⟩; obtain ⟨c2, x1, x3, x4, y1, y2⟩ := H2.out _ hb; have f1 := x4 (ix * 4 + 1); have f3 := x4 (ix * 4 + 3); obtain ⟨z1, hz1⟩ := Option.isSome_iff_exists.1 x1; obtain ⟨z3, hz3⟩ := Option.isSome_iff_exists.1 x3; obtain ⟨c3, hs, hd, _⟩ := HB.out _ _ _ y1 HUL.out HLL.out y2; have HS := Lib.hid hs; have HD := Lib.hid (hd rfl); have C3 := Lib.hid c3; clear hs hd y1 y2 hb c3 x1 x3 x4))
          go_region
          generalize ((W.setCell ⟨g2, ix * 4 + 1, none⟩ (.bool true)).setCell ⟨g2, ix * 4 + 3, none⟩ (.pointer none)).drew = Y at *
          have c3 := C3.out
          go_wp2_with (first | (go_at_call 82; refine HS.out.mono ?_; rintro e w' ⟨rfl, hw⟩; subst w') | (go_at_call 83; refine HD.out.mono ?_; rintro e w4 ⟨a4, n4, k4, rfl, c4, z4, ho4⟩; have HO := Lib.hid ho4; clear ho4))
          go_roundw
          case rel => exact ⟨k + 1, by omega, by go_num, by rw [HSR.out, HSC.out]; exact HO.out⟩
          case measure => simp [intOf]; omega
    · obtain rfl : k = us.length := by omega
      rw [List.take_of_length_le (Nat.le_refl _)] at hO
      have HO := Lib.hid hO
      clear hO
      go_wp2
      first | refine bodyPost_end (results_none rfl _ _ _) rfl ?_ | refine bodyPost_ret (results_none rfl _ _ _) rfl ?_
      exact ⟨rfl, HO.out⟩
end
end Go.Proofs.YtmedpcldfpfpnaaGreat

/- view: what events do: added, copied, expunged, emptied. -/
namespace Go.Proofs.YtmedpcldfpfpnaaGreat
open Go.RowKit

/-- An event as it is handed in. -/
structure EV where
  n : Int
  k : Int
  bx : Int
  tt : Int
  fi : Int
  nm : ByteArray
  vn : Value
  vb : Value
  vu : Value
  vm : Value
  y : Int
  mo : Int
  d : Int
  h : Int
  mi : Int
  s : Int
  z : Int
  bd : ByteArray
def evA (e : EV) : Array Value := #[.int .i64 e.n, .int .i64 e.k, .int .i64 e.bx, .int .i64 e.tt, .int .i64 e.fi, .string e.nm, e.vn, e.vb, e.vu, e.vm, .int .i64 e.y, .int .i64 e.mo, .int .i64 e.d, .int .i64 e.h, .int .i64 e.mi, .int .i64 e.s, .int .i64 e.z, .string e.bd]
theorem evA_cells {X : World} {b : Nat} {e : EV} (h : X.heap[b]? = some (.cells (evA e) 43 (0, 0))) :
    X.cell? ⟨b, 0, none⟩ = some (.int .i64 e.n) ∧ X.cell? ⟨b, 1, none⟩ = some (.int .i64 e.k) ∧ X.cell? ⟨b, 2, none⟩ = some (.int .i64 e.bx) ∧ X.cell? ⟨b, 3, none⟩ = some (.int .i64 e.tt) ∧ X.cell? ⟨b, 4, none⟩ = some (.int .i64 e.fi) ∧ X.cell? ⟨b, 8, none⟩ = some e.vu ∧ X.cell? ⟨b, 9, none⟩ = some e.vm := by
  unfold evA at h
  exact ⟨cell_of h 0, cell_of h 1, cell_of h 2, cell_of h 3, cell_of h 4, cell_of h 8, cell_of h 9⟩
theorem heap_new (w : World) (o : Obj) : (w.alloc o).heap[w.heap.size]? = some o := heap_alloc_new w o
theorem below_box {B : Nat} {w0 w : World} (h : Below B w0 w) (hB : B ≤ w.heap.size) (o : Obj) : Below B w0 (w.alloc o) := h.alloc hB o
section
variable {P : Nat} {val : Int} {rv cv : Value} {R : List RE} {C : List Int} {w : World} {N : Nat}
theorem VO.from {fp : List Nat} {W w' : World} (hb : Below w.heap.size w W) (h : VO P val R C fp W w') : VO P val R C fp w w' := by
  obtain ⟨rv', cv', k1, k2⟩ := h
  exact ⟨rv', cv', k1, (FO.below hb).trans k2⟩
theorem nms_one (W : World) (u : Int) : Nms (W.alloc (.cells #[.int .i64 u] 3)) (.slice (some ⟨W.heap.size, 0, none⟩) 1 1) [u] :=
  ⟨_, 1, rfl, fun _ => ⟨W.heap.size, 0, rfl, by simp, fun i hi => by
    have : i = 0 := by simpa using hi
    subst this
    have hn : (W.alloc (.cells #[.int .i64 u] 3)).heap[W.heap.size]? = some (.cells #[.int .i64 u] 3 (0, 0)) := heap_alloc_new W _
    rw [cell_of hn]
    rfl⟩⟩
theorem new_out {W : World} (h : VAt P val rv cv R C W) {v : Value} (hv : ∀ b, v.ownBlock = some b → W.heap.size ≤ b) : ∀ b, v.ownBlock = some b → b ∉ fpV P rv cv R := fun b hb hm => by
  have := h.lt hm
  have := hv b hb
  omega
set_option maxHeartbeats 1000000 in
set_option maxRecDepth 20000 in
theorem added_any (h : VAt P val rv cv R C w) (hR : R.length ≤ 1000000) (hC : C.length + 1 ≤ 1000000) (e : EV) (own : Bool) :
    Calls Tryz.prog 50 #[.pointer (some ⟨P, 0, none⟩), .agg (evA e), .bool own] w fun r w' => r = .returned (.tuple #[]) ∧ VO P val R (if e.bx = val then come1 (uidR R) C e.fi else C) (fpV P rv cv R) w w' := by
  obtain ⟨W1, hW1⟩ : ∃ W1, w.alloc (.cells (evA e) 43) = W1 := ⟨_, rfl⟩
  have h1 : W1.heap[w.heap.size]? = some (.cells (evA e) 43 (0, 0)) := by rw [← hW1]; exact heap_new _ _
  have hb1 : Below w.heap.size w W1 := by rw [← hW1]; exact below_box (Below.refl _ _) (Nat.le_refl _) _
  obtain ⟨_, _, c2, _, c4, _, _⟩ := evA_cells h1
  have hV1 := h.on hb1
  have d1 := hV1.cells.c1
  by_cases hx : e.bx = val
  · have hxb : (e.bx == val) = true := by simpa using hx
    rw [if_pos hx]
    have hb2 : Below W1.heap.size W1 (W1.drew.alloc (.cells #[.int .i64 e.fi] 3)) := ((Below.refl _ _).drew).alloc (Nat.le_refl _) _
    have hV2 := hV1.on hb2
    have HCm := Lib.hid (come_any hV2 (.slice (some ⟨W1.heap.size, 0, none⟩) 1 1) [e.fi] (nms_one W1.drew e.fi) (fun _ => new_out hV1 (fun b hb => by simp [Value.ownBlock] at hb; omega)) hR (by simpa using hC))
    have HBB := Lib.hid (hb1.trans (hb2.mono hb1.size))
    clear h h1 hb1 hV1 hb2 hV2 hx
    go_enter Tryz.func50, Tryz.ntmps50
    go_upto_region 1 with fail
    (try rw [hW1])
    clear hW1
    go_region
    all_goals
      go_wp2_with (go_at_call 21; refine HCm.out.mono ?_; rintro r w2 ⟨rfl, ho⟩; have HO := Lib.hid ho; clear ho)
      first | refine bodyPost_end (results_none rfl _ _ _) rfl ?_ | refine bodyPost_ret (results_none rfl _ _ _) rfl ?_
      exact ⟨rfl, VO.from HBB.out HO.out⟩
  · have hxb : (e.bx == val) = false := by simpa using hx
    rw [if_neg hx]
    have HO : Hid (VO P val R C (fpV P rv cv R) w W1.drew) := Lib.hid ⟨rv, cv, hV1.on (Below.refl _ _).drew, (FO.below hb1).trans (FO.below (Below.refl _ _).drew)⟩
    clear h h1 hb1 hV1 hx
    go_enter Tryz.func50, Tryz.ntmps50
    go_upto_region 1 with fail
    (try rw [hW1])
    clear hW1
    go_region
    all_goals
      go_wp2_with fail
      first | refine bodyPost_end (results_none rfl _ _ _) rfl ?_ | refine bodyPost_ret (results_none rfl _ _ _) rfl ?_
      exact ⟨rfl, HO.out⟩
set_option maxHeartbeats 1000000 in
set_option maxRecDepth 20000 in
theorem copied_any (h : VAt P val rv cv R C w) (e : EV) (own : Bool) (us : List Int) (hv : Nms w e.vu us) (hf : -9223372036854775808 ≤ e.fi) (hU : us.length ≤ 1000000) (hR : R.length ≤ 1000000) (hC : C.length + us.length ≤ 1000000) :
    Calls Tryz.prog 53 #[.pointer (some ⟨P, 0, none⟩), .agg (evA e), .bool own] w fun r w' => r = .returned (.tuple #[]) ∧ VO P val R (if e.tt = val then comesC (uidR R) C (fol e.fi us.length) else C) (fpV P rv cv R) w w' := by
  obtain ⟨W1, hW1⟩ : ∃ W1, w.alloc (.cells (evA e) 43) = W1 := ⟨_, rfl⟩
  have h1 : W1.heap[w.heap.size]? = some (.cells (evA e) 43 (0, 0)) := by rw [← hW1]; exact heap_new _ _
  have hb1 : Below w.heap.size w W1 := by rw [← hW1]; exact below_box (Below.refl _ _) (Nat.le_refl _) _
  obtain ⟨_, _, _, c3, c4, c8, _⟩ := evA_cells h1
  have hV1 := h.on hb1
  have d1 := hV1.cells.c1
  by_cases hx : e.tt = val
  · have hxb : (e.tt == val) = true := by simpa using hx
    rw [if_pos hx]
    have HFo := Lib.hid (following_any e.fi us.length W1.drew hf hU)
    obtain ⟨au, ku, hvu, _⟩ := hv
    rw [hvu] at c8
    have HCm : Hid (∀ v W, OwnI W1.drew.heap.size v (fol e.fi us.length) W1.drew W → Calls Tryz.prog 21 #[.pointer (some ⟨P, 0, none⟩), v] W fun r w' => r = .returned (.tuple #[]) ∧ VO P val R (comesC (uidR R) C (fol e.fi us.length)) (fpV P rv cv R) w w') := Lib.hid (fun v W ho => by
      have hbW : Below W1.heap.size W1 W := ⟨ho.below.os, ho.below.tape, ho.below.output, ho.below.size, ho.below.block⟩
      have hl := fol_length us.length e.fi
      refine (come_any (hV1.on hbW) v _ (nms_of ho.row) (fun _ => new_out hV1 (fun b hb => (ho.row.lt b hb).1)) hR (by omega)).mono ?_
      rintro r w' ⟨q1, q2⟩
      exact ⟨q1, VO.from (hb1.trans (hbW.mono hb1.size)) q2⟩)
    clear h h1 hb1 hV1 hx hvu
    go_enter Tryz.func53, Tryz.ntmps53
    go_upto_region 1 with fail
    (try rw [hW1])
    clear hW1
    go_region
    all_goals
      go_wp2_with (first | (go_at_call 72; refine HFo.out.mono ?_; rintro r w3 ⟨v3, rfl, ho3⟩; have HO3 := Lib.hid ho3; clear ho3) | (go_at_call 21; refine (HCm.out _ _ HO3.out).mono ?_; rintro r w2 ⟨rfl, ho⟩; have HO := Lib.hid ho; clear ho))
      first | refine bodyPost_end (results_none rfl _ _ _) rfl ?_ | refine bodyPost_ret (results_none rfl _ _ _) rfl ?_
      exact ⟨rfl, HO.out⟩
  · have hxb : (e.tt == val) = false := by simpa using hx
    rw [if_neg hx]
    have HO : Hid (VO P val R C (fpV P rv cv R) w W1.drew) := Lib.hid ⟨rv, cv, hV1.on (Below.refl _ _).drew, (FO.below hb1).trans (FO.below (Below.refl _ _).drew)⟩
    clear h h1 hb1 hV1 hx
    go_enter Tryz.func53, Tryz.ntmps53
    go_upto_region 1 with fail
    (try rw [hW1])
    clear hW1
    go_region
    all_goals
      go_wp2_with fail
      first | refine bodyPost_end (results_none rfl _ _ _) rfl ?_ | refine bodyPost_ret (results_none rfl _ _ _) rfl ?_
      exact ⟨rfl, HO.out⟩
set_option maxHeartbeats 1000000 in
set_option maxRecDepth 20000 in
theorem expunged_any (h : VAt P val rv cv R C w) (hk : VOK R C N) (hN : N ≤ 1000000) (e : EV) (own : Bool) (us : List Int) (hv : Nms w e.vu us) (hn : 0 < us.length → ∀ b, e.vu.ownBlock = some b → b ∉ fpV P rv cv R) (hU : us.length ≤ 1000000) :
    Calls Tryz.prog 52 #[.pointer (some ⟨P, 0, none⟩), .agg (evA e), .bool own] w fun r w' => r = .returned (.tuple #[]) ∧ VO P val (if e.bx = val then lvR R us else R) (if e.bx = val then lvC C us else C) (fpV P rv cv R) w w' := by
  obtain ⟨W1, hW1⟩ : ∃ W1, w.alloc (.cells (evA e) 43) = W1 := ⟨_, rfl⟩
  have h1 : W1.heap[w.heap.size]? = some (.cells (evA e) 43 (0, 0)) := by rw [← hW1]; exact heap_new _ _
  have hb1 : Below w.heap.size w W1 := by rw [← hW1]; exact below_box (Below.refl _ _) (Nat.le_refl _) _
  obtain ⟨_, _, c2, _, _, c8, _⟩ := evA_cells h1
  have hV1 := h.on hb1
  have d1 := hV1.cells.c1
  by_cases hx : e.bx = val
  · have hxb : (e.bx == val) = true := by simpa using hx
    rw [if_pos hx, if_pos hx]
    have hbd : Below w.heap.size w W1.drew := hb1.drew
    have HLv := Lib.hid ((leave_any (hV1.on (Below.refl _ _).drew) hk hN e.vu us (hv.on hbd) hn hU).mono (fun r w' ⟨q1, q2⟩ => (⟨q1, VO.from hbd q2⟩ : _ ∧ VO P val (lvR R us) (lvC C us) (fpV P rv cv R) w w')))
    clear h h1 hb1 hV1 hx hv hn hbd hk
    go_enter Tryz.func52, Tryz.ntmps52
    go_upto_region 1 with fail
    (try rw [hW1])
    clear hW1
    go_region
    all_goals
      go_wp2_with (go_at_call 71; refine HLv.out.mono ?_; rintro r w2 ⟨rfl, ho⟩; have HO := Lib.hid ho; clear ho)
      first | refine bodyPost_end (results_none rfl _ _ _) rfl ?_ | refine bodyPost_ret (results_none rfl _ _ _) rfl ?_
      exact ⟨rfl, HO.out⟩
  · have hxb : (e.bx == val) = false := by simpa using hx
    rw [if_neg hx, if_neg hx]
    have HO : Hid (VO P val R C (fpV P rv cv R) w W1.drew) := Lib.hid ⟨rv, cv, hV1.on (Below.refl _ _).drew, (FO.below hb1).trans (FO.below (Below.refl _ _).drew)⟩
    clear h h1 hb1 hV1 hx
    go_enter Tryz.func52, Tryz.ntmps52
    go_upto_region 1 with fail
    (try rw [hW1])
    clear hW1
    go_region
    all_goals
      go_wp2_with fail
      first | refine bodyPost_end (results_none rfl _ _ _) rfl ?_ | refine bodyPost_ret (results_none rfl _ _ _) rfl ?_
      exact ⟨rfl, HO.out⟩
set_option maxHeartbeats 1000000 in
set_option maxRecDepth 20000 in
theorem emptied_any (h : VAt P val rv cv R C w) (hk : VOK R C N) (hN : N ≤ 1000000) (e : EV) (own : Bool)  :
    Calls Tryz.prog 49 #[.pointer (some ⟨P, 0, none⟩), .agg (evA e), .bool own] w fun r w' => r = .returned (.tuple #[]) ∧ VO P val (if e.bx = val then lvR R (uidR R) else R) (if e.bx = val then [] else C) (fpV P rv cv R) w w' := by
  obtain ⟨W1, hW1⟩ : ∃ W1, w.alloc (.cells (evA e) 43) = W1 := ⟨_, rfl⟩
  have h1 : W1.heap[w.heap.size]? = some (.cells (evA e) 43 (0, 0)) := by rw [← hW1]; exact heap_new _ _
  have hb1 : Below w.heap.size w W1 := by rw [← hW1]; exact below_box (Below.refl _ _) (Nat.le_refl _) _
  obtain ⟨_, _, c2, _, _, _, _⟩ := evA_cells h1
  have hV1 := h.on hb1
  have d1 := hV1.cells.c1
  by_cases hx : e.bx = val
  · have hxb : (e.bx == val) = true := by simpa using hx
    rw [if_pos hx, if_pos hx]
    have hbd : Below w.heap.size w W1.drew := hb1.drew
    have hlen := hk.len
    have HUi := Lib.hid (Uids_any (hV1.on (Below.refl _ _).drew) (by omega))
    have HLv : Hid (∀ v W, OwnI W1.drew.heap.size v (uidR R) W1.drew W → Calls Tryz.prog 71 #[.pointer (some ⟨P, 0, none⟩), v] W fun r w' => r = .returned (.tuple #[]) ∧ w'.cell? ⟨P, 3, none⟩ ≠ none ∧ w'.frozen? ⟨P, 3, none⟩ = false ∧ VO P val (lvR R (uidR R)) [] (fpV P rv cv R) w (w'.setCell ⟨P, 3, none⟩ (.slice none 0 0))) := Lib.hid (fun v W ho => by
      have hbW : Below W1.heap.size W1 W := ⟨ho.below.os, ho.below.tape, ho.below.output, ho.below.size, ho.below.block⟩
      refine (leave_any (hV1.on hbW) hk hN v _ (nms_of ho.row) (fun _ => new_out hV1 (fun b hb => (ho.row.lt b hb).1)) (by rw [uidR_length]; omega)).mono ?_
      rintro r w' ⟨q1, rv', cv', q2, q3⟩
      obtain ⟨y1, y2⟩ := q2.noC
      exact ⟨q1, by rw [q2.cells.c3]; simp, q2.cells.f3, _, _, y1, ((FO.below (hb1.trans (hbW.mono hb1.size))).trans q3).trans y2⟩)
    clear h h1 hb1 hV1 hx hbd hk
    go_enter Tryz.func49, Tryz.ntmps49
    go_upto_region 1 with fail
    (try rw [hW1])
    clear hW1
    go_region
    all_goals
      go_wp2_with (first | (go_at_call 15; refine HUi.out.mono ?_; rintro r w3 ⟨v3, rfl, ho3⟩; have HO3 := Lib.hid ho3; clear ho3) | (go_at_call 71; refine (HLv.out _ _ HO3.out).mono ?_; rintro r w2 ⟨rfl, hc, hf, ho⟩; obtain ⟨cx, hcx⟩ := Option.ne_none_iff_exists'.1 hc; have HO := Lib.hid ho; clear ho hc))
      first | refine bodyPost_end (results_none rfl _ _ _) rfl ?_ | refine bodyPost_ret (results_none rfl _ _ _) rfl ?_
      exact ⟨rfl, HO.out⟩
  · have hxb : (e.bx == val) = false := by simpa using hx
    rw [if_neg hx, if_neg hx]
    have HO : Hid (VO P val R C (fpV P rv cv R) w W1.drew) := Lib.hid ⟨rv, cv, hV1.on (Below.refl _ _).drew, (FO.below hb1).trans (FO.below (Below.refl _ _).drew)⟩
    clear h h1 hb1 hV1 hx
    go_enter Tryz.func49, Tryz.ntmps49
    go_upto_region 1 with fail
    (try rw [hW1])
    clear hW1
    go_region
    all_goals
      go_wp2_with fail
      first | refine bodyPost_end (results_none rfl _ _ _) rfl ?_ | refine bodyPost_ret (results_none rfl _ _ _) rfl ?_
      exact ⟨rfl, HO.out⟩
end
end Go.Proofs.YtmedpcldfpfpnaaGreat

/- view: moved. -/
namespace Go.Proofs.YtmedpcldfpfpnaaGreat
open Go.RowKit

theorem Tryz.sizeEvA (e : EV) : (Tryz.prog.info? 43).map (·.size) = some (evA e).size := by kernel_rfl
theorem VOK.come1 {R : List RE} {C : List Int} {N : Nat} (h : VOK R C N) (u : Int) : VOK R (come1 (uidR R) C u) (N + 1) := by
  unfold Go.Proofs.YtmedpcldfpfpnaaGreat.come1
  split
  · rename_i hu
    refine ⟨?_, ?_, ?_⟩
    · rw [← List.append_assoc, riseF_append]
      refine ⟨h.rise, ?_, trivial⟩
      rw [lastD_append]
      exact hu.1
    · intro x hx
      rw [← List.append_assoc, List.mem_append] at hx
      rcases hx with hx | hx
      · exact h.top x hx
      · simp at hx; omega
    · have := h.len
      simp only [List.length_append, List.length_cons, List.length_nil]; omega
  · exact ⟨h.rise, h.top, by have := h.len; omega⟩
theorem VOK.comes {R : List RE} : ∀ {us C : List Int} {N : Nat}, VOK R C N → VOK R (comesC (uidR R) C us) (N + us.length)
  | [], _, _, h => h
  | u :: us, _, _, h => by
    have := VOK.comes (us := us) (h.come1 u)
    refine ⟨this.rise, this.top, ?_⟩
    have := this.len
    simp only [List.length_cons]
    show R.length + (comesC (uidR R) (Go.Proofs.YtmedpcldfpfpnaaGreat.come1 (uidR R) _ u) us).length ≤ _
    omega
section
variable {P : Nat} {val : Int} {rv cv : Value} {R : List RE} {C : List Int} {w : World} {N : Nat}
set_option maxHeartbeats 1000000 in
set_option maxRecDepth 20000 in
theorem moved_any (h : VAt P val rv cv R C w) (hk : VOK R C N) (e : EV) (own : Bool) (us : List Int) (hv : Nms w e.vu us) (hvl : 0 < us.length → ∀ b, e.vu.ownBlock = some b → b < w.heap.size ∧ b ∉ fpV P rv cv R) (hf : -9223372036854775808 ≤ e.fi) (hU : us.length ≤ 1000000) (hN : N + us.length ≤ 1000000) :
    Calls Tryz.prog 54 #[.pointer (some ⟨P, 0, none⟩), .agg (evA e), .bool own] w fun r w' => r = .returned (.tuple #[]) ∧ VO P val (if e.bx = val then lvR R us else R) (if e.bx = val then lvC (if e.tt = val then comesC (uidR R) C (fol e.fi us.length) else C) us else (if e.tt = val then comesC (uidR R) C (fol e.fi us.length) else C)) (fpV P rv cv R) w w' := by
  obtain ⟨W1, hW1⟩ : ∃ W1, w.alloc (.cells (evA e) 43) = W1 := ⟨_, rfl⟩
  have h1 : W1.heap[w.heap.size]? = some (.cells (evA e) 43 (0, 0)) := by rw [← hW1]; exact heap_new _ _
  have hb1 : Below w.heap.size w W1 := by rw [← hW1]; exact below_box (Below.refl _ _) (Nat.le_refl _) _
  have hV1 := h.on hb1
  have hlen := hk.len
  have hfl := fol_length us.length e.fi
  have HCo := Lib.hid (copied_any hV1 e own us (hv.on hb1) hf hU (by omega) (by omega))
  have hk2 : VOK R (if e.tt = val then comesC (uidR R) C (fol e.fi us.length) else C) (N + us.length) := by
    split
    · have := hk.comes (us := fol e.fi us.length)
      exact ⟨this.rise, this.top, by have := this.len; omega⟩
    · exact ⟨hk.rise, hk.top, by omega⟩
  generalize (if e.tt = val then comesC (uidR R) C (fol e.fi us.length) else C) = C2 at *
  have HEx : Hid (∀ W, VO P val R C2 (fpV P rv cv R) W1 W → W.heap[w.heap.size]? = some (.cells (evA e) 43 (0, 0)) ∧ Calls Tryz.prog 52 #[.pointer (some ⟨P, 0, none⟩), .agg (evA e), .bool own] W fun r w' => r = .returned (.tuple #[]) ∧ VO P val (if e.bx = val then lvR R us else R) (if e.bx = val then lvC C2 us else C2) (fpV P rv cv R) w w') := Lib.hid (fun W ⟨rv2, cv2, q1, q2⟩ => by
    have hz : w.heap.size < W1.heap.size := lt_of_heap h1
    refine ⟨by rw [q2.keep hz (fun hm => by have := h.lt hm; omega)]; exact h1, ?_⟩
    refine (expunged_any q1 hk2 hN e own us ((hv.on hb1).past q2 (fun h0 b hb => (hvl h0 b hb).2)) (fun h0 b hb => q2.out (by have := (hvl h0 b hb).1; have := hb1.size; omega) (hvl h0 b hb).2) hU).mono ?_
    rintro r w' ⟨y1, y2⟩
    refine ⟨y1, ?_⟩
    obtain ⟨rv3, cv3, z1, z2⟩ := y2
    exact ⟨rv3, cv3, z1, ((FO.below hb1).trans q2).trans z2⟩)
  have H1 := Lib.hid h1
  clear h h1 hb1 hV1 hk hk2 hv hvl hlen hfl
  generalize (if e.bx = val then lvR R us else R) = R3 at *
  generalize (if e.bx = val then lvC C2 us else C2) = C3 at *
  go_enter Tryz.func54, Tryz.ntmps54
  go_upto_region 1 with fail
  (try rw [hW1])
  clear hW1
  go_wp2_with (first | (go_at_call 53; refine HCo.out.mono ?_; rintro r w2 ⟨rfl, ho⟩; obtain ⟨y1, y2⟩ := HEx.out _ ho; have Y1 := Lib.hid y1; have Y2 := Lib.hid y2; clear y1 y2 ho HCo) | (go_at_call 52; refine Y2.out.mono ?_; rintro r w3 ⟨rfl, ho⟩; have HO := Lib.hid ho; clear ho) | (have hq := Y1; clear hq; refine wpList_load_row rfl 43 _ rfl w.heap.size rfl 43 _ (0, 0) _ Y1.out Tryz.underlying43 rfl (Tryz.sizeEvA e) ?_) | (refine wpList_load_row rfl 43 _ rfl w.heap.size rfl 43 _ (0, 0) _ H1.out Tryz.underlying43 rfl (Tryz.sizeEvA e) ?_))
  first | refine bodyPost_end (results_none rfl _ _ _) rfl ?_ | refine bodyPost_ret (results_none rfl _ _ _) rfl ?_
  exact ⟨rfl, HO.out⟩
end
end Go.Proofs.YtmedpcldfpfpnaaGreat

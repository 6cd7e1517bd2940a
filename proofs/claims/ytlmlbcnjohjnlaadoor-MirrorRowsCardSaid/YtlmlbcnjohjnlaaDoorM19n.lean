/- mirror: a command is asked. -/
import Derived.Test.YtlmlbcnjohjnlaaDoorM19h
namespace Go.Proofs.YtlmlbcnjohjnlaaDoor
open Go.RowKit

/-- A command's cells, of which few are not zero. -/
def cmC (tag : ByteArray) (verb : Int) (uid : Bool) (set items : Value) : Array Value := #[.string tag, .int .i64 verb, .bool uid, .string ⟨#[]⟩, .string ⟨#[]⟩, .string ⟨#[]⟩, .string ⟨#[]⟩, .string ⟨#[]⟩, .string ⟨#[]⟩, set, items, .int .i64 0, .bool false, .slice none 0 0, .bool false, .string ⟨#[]⟩, .bool false, .string ⟨#[]⟩, .bool false, .int .i64 0, .string ⟨#[]⟩, .string ⟨#[]⟩, .slice none 0 0, .int .i64 0, .int .i64 0, .int .i64 0, .int .i64 0, .int .i64 0, .int .i64 0, .int .i64 0, .int .i64 0, .slice none 0 0, .bool false, .string ⟨#[]⟩, .slice none 0 0, .int .i64 0, .slice none 0 0, .bool false, .bool false, .int .i64 0, .int .i64 0, .int .i64 0, .int .i64 0, .int .i64 0, .int .i64 0, .int .i64 0, .string ⟨#[]⟩, .slice none 0 0, .slice none 0 0]
theorem Tryd.sizeCm : (Tryd.prog.info? 38).map (·.size) = some 49 := by kernel_rfl
theorem step_append_run {ops : Array Oper} {o : Oper} {a : Act} {K : Act → World → Prop} {Q : Exit → Act → World → Prop} {E : Prop} {w : World} (hgd : o.guard = none) (s x : Operand) (ts : Array TypeId)
    (ho : o.op = .call { callee := .builtin .append, args := #[s, x], argTypes := ts }) (ty : TypeId) (hty : o.type = ty) (u v : Value) (hs : a.eval s = u) (hx : a.eval x = v) (v' : Value) (w' : World)
    (hr : (Builtin.append_ ts ty #[u, v]).run Tryd.prog w = .ok v' w') (h : K (a.put o.dst v') w') : if Region.wanted o (yielded ops a.tmps) = true then Oper.wp Tryd.prog o a w K Q else E := by
  have hw : Region.wanted o (yielded ops a.tmps) = true := by simp [Region.wanted, hgd]
  rw [if_pos hw]
  subst hty
  unfold Oper.wp execOp
  simp only [ho, resolve, invoke, builtin, Sem.run_bind, Sem.run_pure, Result.andThen_ok, List.map_toArray, List.map_cons, List.map_nil, hs, hx, hr]
  exact h
theorem Tryd.infoAk : (Tryd.prog.info? 78).map (fun i => (i.zero, i.size, i.bytes)) = some (some (.agg #[.string ⟨#[]⟩, .int .i64 0, .bool false, .bool false, .slice none 0 0]), 5, 56) := by kernel_rfl
set_option maxRecDepth 20000 in
set_option maxHeartbeats 2000000 in
theorem asking_plain (tag : ByteArray) (verb : Int) (uid : Bool) (hv : ¬ verb = 22) (w : World) :
    Calls Tryd.prog 19 #[.agg (cmC tag verb uid (.slice none 0 0) (.slice none 0 0))] w fun e w' => e = .returned (.agg (akC ⟨tag, verb, uid, false, .slice none 0 0⟩)) ∧ Below w.heap.size w w' := by
  have e22 : (verb == 22) = false := by simp [hv]
  obtain ⟨Y0, hY0⟩ : ∃ Y, w.alloc (.cells (cmC tag verb uid (.slice none 0 0) (.slice none 0 0)) 38) = Y := ⟨_, rfl⟩
  obtain ⟨Y, hY⟩ : ∃ Y, Y0.alloc akZ = Y := ⟨_, rfl⟩
  have z0 : Y0.heap.size = w.heap.size + 1 := by rw [← hY0]; simp
  have b0 : Below w.heap.size w Y0 := by rw [← hY0]; exact (Below.refl _ _).alloc (Nat.le_refl _) _
  have b1 : Below Y0.heap.size Y0 Y := by rw [← hY]; exact (Below.refl _ _).alloc (Nat.le_refl _) _
  have r0 : Y0.heap[w.heap.size]? = some (.cells (cmC tag verb uid (.slice none 0 0) (.slice none 0 0)) 38 (0, 0)) := by rw [← hY0]; exact heap_new _ _
  have rC := bel_at b1 (by omega) r0
  unfold cmC at rC
  have c0 : Y.cell? ⟨w.heap.size, 0, none⟩ = some (.string tag) := cell_of rC 0
  have c1 : Y.cell? ⟨w.heap.size, 1, none⟩ = some (.int .i64 verb) := cell_of rC 1
  have c2 : Y.cell? ⟨w.heap.size, 2, none⟩ = some (.bool uid) := cell_of rC 2
  have rZ : Y.heap[Y0.heap.size]? = some akZ := by rw [← hY]; exact heap_new _ _
  obtain ⟨Y2, hY2⟩ : ∃ Y2, Y.alloc (.cells #[.string tag, .int .i64 verb, .bool uid, .bool false, .slice none 0 0] 78) = Y2 := ⟨_, rfl⟩
  have b2 : Below Y.heap.size Y Y2 := by rw [← hY2]; exact (Below.refl _ _).alloc (Nat.le_refl _) _
  have zy : Y.heap.size = Y0.heap.size + 1 := by rw [← hY]; simp
  have d1 : Y2.cell? ⟨w.heap.size, 1, none⟩ = some (.int .i64 verb) := by rw [b2.cell (p := ⟨w.heap.size, 1, none⟩) (by show w.heap.size < _; omega)]; exact c1
  have r2 : Y2.heap[Y.heap.size]? = some (.cells #[.string tag, .int .i64 verb, .bool uid, .bool false, .slice none 0 0] 78 (0, 0)) := by rw [← hY2]; exact heap_new _ _
  have k0 : Y2.cell? ⟨Y.heap.size, 0, none⟩ = some (.string tag) := cell_of r2 0
  have k1 : Y2.cell? ⟨Y.heap.size, 1, none⟩ = some (.int .i64 verb) := cell_of r2 1
  have k2 : Y2.cell? ⟨Y.heap.size, 2, none⟩ = some (.bool uid) := cell_of r2 2
  have k3 : Y2.cell? ⟨Y.heap.size, 3, none⟩ = some (.bool false) := cell_of r2 3
  have k4 : Y2.cell? ⟨Y.heap.size, 4, none⟩ = some (.slice none 0 0) := cell_of r2 4
  have RZ2 := Lib.hid (bel_at b2 (by omega) rZ)
  have bb : Below w.heap.size w Y2 := (b0.trans (b1.mono b0.size)).trans (b2.mono (Nat.le_trans b0.size b1.size))
  have BB := Lib.hid bb
  have Zo := Lib.hid (And.intro z0 zy)
  have H1 : Hid ((#[.string tag, .int .i64 verb, .bool uid, .bool false, .slice none 0 0] : Array Value).all (·.oneCell') = true) := Lib.hid (by simp [Value.oneCell'])
  have HY0 := Lib.hid hY0
  have HY := Lib.hid hY
  have HY2 := Lib.hid hY2
  clear hY0 hY hY2 b0 b1 b2 bb r0 rC rZ r2 z0 zy
  unfold akZ at HY
  go_enter Tryd.func19, Tryd.ntmps19
  go_upto_region 1 with fail
  rw [HY0.out, HY.out]
  go_upto_region 2 with fail
  (try rw [HY2.out])
  clear HY0 HY HY2 c0 c1 c2
  have RZ3 : Hid (Y2.heap[w.heap.size + 1]? = some (.cells #[.string ⟨#[]⟩, .int .i64 0, .bool false, .bool false, .slice none 0 0] 78 (0, 0))) := Lib.hid (by have := RZ2.out; rw [Zo.out.1] at this; exact this)
  clear RZ2
  go_wp2_with (first | (refine wpList_store_row rfl 78 _ _ rfl (w.heap.size + 1) #[.string tag, .int .i64 verb, .bool uid, .bool false, .slice none 0 0] rfl rfl 78 _ RZ3.out Tryd.sizeAk rfl H1.out ?_))
  refine bodyPost_ret (v := .agg (akC ⟨tag, verb, uid, false, .slice none 0 0⟩)) (results_cell_row Tryd.results19 _ _ (w.heap.size + 1) 78 (akC ⟨tag, verb, uid, false, .slice none 0 0⟩) (0, 0) _ rfl (setRow_heap _ _ _ _ _ _ RZ3.out) Tryd.underlying78 rfl Tryd.sizeAk) rfl ⟨rfl, ?_⟩
  have this := BB.out
  exact ⟨this.os, this.tape, this.output, by simpa [World.setRow] using this.size, fun b hb => by rw [setRow_other _ _ _ _ (by omega)]; exact this.block b hb⟩
/-- One that waits, more. -/
def PutOut (P : Nat) (sel : Bool) (v n h : Int) (rows was : Value) (bg : Bool) (m : Nat) (xs : List Value) (fp : List Nat) (w w' : World) : Prop := ∃ a c, w'.heap[P]? = some (mirO (.slice a m c) sel v n h rows was bg) ∧ w'.ownsRow 0 78 5 (.slice a m c) m xs ∧ Stays fp w w' ∧ ∀ b, (Value.slice a m c).ownBlock = some b → b ∈ fp ∨ w.heap.size ≤ b
set_option maxRecDepth 20000 in
set_option maxHeartbeats 2000000 in
theorem put_any (P : Nat) (qa : Option Addr) (n qc : Nat) (sel : Bool) (v nx h : Int) (rows was : Value) (bg : Bool) (xs : List Value) (k : AK) (hk : ∃ sa sn sc, k.set = .slice sa sn sc) (w : World) (hM : w.heap[P]? = some (mirO (.slice qa n qc) sel v nx h rows was bg)) (hQ : w.ownsRow 0 78 5 (.slice qa n qc) n xs) (hn : n + 1 ≤ 4294967296) :
    Calls Tryd.prog 18 #[.pointer (some ⟨P, 0, none⟩), .agg (akC k)] w fun e w' => e = .returned (.tuple #[]) ∧ PutOut P sel v nx h rows was bg (n + 1) (xs ++ (akC k).toList) (P :: (Value.slice qa n qc).ownBlock.toList) w w' := by
  obtain ⟨kt, kv, ku, ks, kst⟩ := k
  obtain ⟨sa, sn, sc, hs⟩ := hk
  simp only at hs
  subst hs
  have hPl := lt_of_heap hM
  obtain ⟨Y, hY⟩ : ∃ Y, w.alloc (.cells #[.string kt, .int .i64 kv, .bool ku, .bool ks, .slice sa sn sc] 78) = Y := ⟨_, rfl⟩
  have b0 : Below w.heap.size w Y := by rw [← hY]; exact (Below.refl _ _).alloc (Nat.le_refl _) _
  have yM := bel_at b0 hPl hM
  have yQ : Y.ownsRow 0 78 5 (.slice qa n qc) n xs := ownsRow_same hQ (fun b e => b0.block b (hQ.lt b e).2)
  have yB : Y.heap[w.heap.size]? = some (.cells #[.string kt, .int .i64 kv, .bool ku, .bool ks, .slice sa sn sc] 78 (0, 0)) := by rw [← hY]; exact heap_new _ _
  have hpq : (Value.slice qa n qc).ownBlock ≠ some P := fun e => by
    obtain ⟨cs, hc⟩ := row_kind hQ e
    exact kind_ne hc (by unfold mirO at hM; exact hM) (by decide) rfl
  obtain ⟨a, c, W3, hrun, hrow, hg, hown⟩ := row_app (P := Tryd.prog) (w := Y.drew) 67 78 (.agg #[.string ⟨#[]⟩, .int .i64 0, .bool false, .bool false, .slice none 0 0]) 5 56 Tryd.underlying67 Tryd.infoAk rfl (by decide) (v := .slice qa n qc) (n := n) (xs := xs) yQ #[.string kt, .int .i64 kv, .bool ku, .bool ks, .slice sa sn sc] rfl (by intro x hx; simp at hx; rcases hx with rfl | rfl | rfl | rfl | rfl <;> rfl) hn (by omega)
  have hyl : P < Y.heap.size := lt_of_heap yM
  have m3 : W3.heap[P]? = some (mirO (.slice qa n qc) sel v nx h rows was bg) := by rw [hg.block P hyl (fun e => hpq e.symm)]; exact yM
  have q0 := (mir_cells yM).c0
  have q0a : (Y.alloc (.cells #[.string kt, .int .i64 kv, .bool ku, .bool ks, .slice sa sn sc] 78)).cell? ⟨P, 0, none⟩ = some (.slice qa n qc) := by rw [((Below.refl Y.heap.size Y).alloc (Nat.le_refl _) _).cell (p := ⟨P, 0, none⟩) hyl]; exact q0
  have q3 := (mir_cells m3).c0
  have f3 := mir_fz m3 0
  have k0 : Y.cell? ⟨w.heap.size, 0, none⟩ = some (.string kt) := cell_of yB 0
  have k1 : Y.cell? ⟨w.heap.size, 1, none⟩ = some (.int .i64 kv) := cell_of yB 1
  have k2 : Y.cell? ⟨w.heap.size, 2, none⟩ = some (.bool ku) := cell_of yB 2
  have k3 : Y.cell? ⟨w.heap.size, 3, none⟩ = some (.bool ks) := cell_of yB 3
  have k4 : Y.cell? ⟨w.heap.size, 4, none⟩ = some (.slice sa sn sc) := cell_of yB 4
  have yB2 := bel_at ((Below.refl Y.heap.size Y).alloc (Nat.le_refl _) (.cells #[.string kt, .int .i64 kv, .bool ku, .bool ks, .slice sa sn sc] 78)) (lt_of_heap yB) yB
  have yB3 : W3.heap[w.heap.size]? = some (.cells #[.string kt, .int .i64 kv, .bool ku, .bool ks, .slice sa sn sc] 78 (0, 0)) := by
    rw [hg.block w.heap.size (lt_of_heap yB) (fun e => by have := (hQ.lt _ e.symm).2; omega)]
    exact yB
  have k5 := And.intro (show _ = some (Value.string kt) from cell_of yB2 0) (And.intro (show _ = some (Value.int .i64 kv) from cell_of yB2 1) (And.intro (show _ = some (Value.bool ku) from cell_of yB2 2) (And.intro (show _ = some (Value.bool ks) from cell_of yB2 3) (show _ = some (Value.slice sa sn sc) from cell_of yB2 4))))
  have k6 := And.intro (show _ = some (Value.string kt) from cell_of yB3 0) (And.intro (show _ = some (Value.int .i64 kv) from cell_of yB3 1) (And.intro (show _ = some (Value.bool ku) from cell_of yB3 2) (And.intro (show _ = some (Value.bool ks) from cell_of yB3 3) (show _ = some (Value.slice sa sn sc) from cell_of yB3 4))))
  obtain ⟨k50, k51, k52, k53, k54⟩ := k5
  obtain ⟨k60, k61, k62, k63, k64⟩ := k6
  clear yB2 yB3
  have fin : PutOut P sel v nx h rows was bg (n + 1) (xs ++ (akC ⟨kt, kv, ku, ks, .slice sa sn sc⟩).toList) (P :: (Value.slice qa n qc).ownBlock.toList) w (W3.setCell ⟨P, 0, none⟩ (.slice a (n + 1) c)) := by
    refine ⟨a, c, mir_set0 m3 _, ownsRow_same hrow (fun b e => Below.heap_setCell _ _ _ _ (fun e' => ?_)), ?_, fun b e => ?_⟩
    · have e2 : b = P := e'
      subst e2
      rcases hown _ e with e3 | e3
      · exact hpq e3
      · have e4 : Y.heap.size ≤ b := e3
        omega
    · refine Stays.setCell ?_ (.inl (by simp)) _
      have s1 : Stays (P :: (Value.slice qa n qc).ownBlock.toList) w Y := Stays.ofBelow b0
      have s2 : Stays (P :: (Value.slice qa n qc).ownBlock.toList) Y W3 := by
        have := Stays.ofGrown (fp := P :: (Value.slice qa n qc).ownBlock.toList) hg (fun b e => by simp [e])
        exact ⟨this.os, this.tape, this.output, this.size, this.block⟩
      exact s1.trans s2 (fun b hb => .inl hb)
    · rcases hown _ e with e3 | e3
      · exact .inl (by simp [e3])
      · have e4 : Y.heap.size ≤ b := e3
        have := b0.size
        exact .inr (by omega)
  have FIN := Lib.hid fin
  have HRun := Lib.hid hrun
  have HY := Lib.hid hY
  clear hM hQ hPl hY b0 yM yQ yB hpq hrun hrow hg hown hyl m3 fin hn
  unfold akC
  go_enter Tryd.func18, Tryd.ntmps18
  go_upto_region 1 with fail
  rw [HY.out]
  clear HY
  refine wp_region_N 10 (fun X => X = Y.drew ∨ X = Y.drew.alloc (.cells #[.string kt, .int .i64 kv, .bool ku, .bool ks, .slice sa sn sc] 78) ∨ X = W3) (by kernel_rfl) ?_
  refine wpAnyN_take (i := 0) (oi := { dst := some 4, op := Go.Op.move (Go.Operand.tmp 0), type := 86, pos := "queue.go:8", after := #[], guard := none }) (oL := { dst := none, op := Go.Op.store 67 (Go.Operand.tmp 13) (Go.Operand.tmp 11), type := 0, pos := "queue.go:8", after := #[{ on := 9, ground := Go.Ground.data }, { on := 7, ground := Go.Ground.data }, { on := 7, ground := Go.Ground.chain }, { on := 0, ground := Go.Ground.phase }, { on := 1, ground := Go.Ground.phase }, { on := 2, ground := Go.Ground.phase }, { on := 3, ground := Go.Ground.phase }, { on := 4, ground := Go.Ground.phase }, { on := 5, ground := Go.Ground.phase }, { on := 6, ground := Go.Ground.phase }, { on := 7, ground := Go.Ground.phase }], guard := none }) (v := .pointer (some ⟨P, 0, none⟩)) rfl rfl (by kernel_rfl) (by kernel_rfl) (by kernel_rfl) (by kernel_rfl) (fun _ _ _ h => h) (Or.inl ⟨by kernel_rfl, ?_⟩) (.inl rfl) ?_
  · (intro X hX; rcases hX with rfl | rfl | rfl <;> (go_simp; try (with_reducible rfl)))
  (try simp only [Act.put, List.setIfInBounds_toArray, List.set_cons_zero, List.set_cons_succ])
  refine wpAnyN_take (i := 1) (oi := { dst := some 5, op := Go.Op.move (Go.Operand.tmp 0), type := 86, pos := "queue.go:8", after := #[], guard := none }) (oL := { dst := none, op := Go.Op.store 67 (Go.Operand.tmp 13) (Go.Operand.tmp 11), type := 0, pos := "queue.go:8", after := #[{ on := 9, ground := Go.Ground.data }, { on := 7, ground := Go.Ground.data }, { on := 7, ground := Go.Ground.chain }, { on := 0, ground := Go.Ground.phase }, { on := 1, ground := Go.Ground.phase }, { on := 2, ground := Go.Ground.phase }, { on := 3, ground := Go.Ground.phase }, { on := 4, ground := Go.Ground.phase }, { on := 5, ground := Go.Ground.phase }, { on := 6, ground := Go.Ground.phase }, { on := 7, ground := Go.Ground.phase }], guard := none }) (v := .pointer (some ⟨P, 0, none⟩)) rfl rfl (by kernel_rfl) (by kernel_rfl) (by kernel_rfl) (by kernel_rfl) (fun _ _ _ h => h) (Or.inl ⟨by kernel_rfl, ?_⟩) (.inl rfl) ?_
  · (intro X hX; rcases hX with rfl | rfl | rfl <;> (go_simp; try (with_reducible rfl)))
  (try simp only [Act.put, List.setIfInBounds_toArray, List.set_cons_zero, List.set_cons_succ])
  refine wpAnyN_take (i := 2) (oi := { dst := some 6, op := Go.Op.nilCheck (Go.Operand.tmp 5), type := 0, pos := "queue.go:8", after := #[{ on := 1, ground := Go.Ground.data }], guard := none }) (oL := { dst := none, op := Go.Op.store 67 (Go.Operand.tmp 13) (Go.Operand.tmp 11), type := 0, pos := "queue.go:8", after := #[{ on := 9, ground := Go.Ground.data }, { on := 7, ground := Go.Ground.data }, { on := 7, ground := Go.Ground.chain }, { on := 0, ground := Go.Ground.phase }, { on := 1, ground := Go.Ground.phase }, { on := 2, ground := Go.Ground.phase }, { on := 3, ground := Go.Ground.phase }, { on := 4, ground := Go.Ground.phase }, { on := 5, ground := Go.Ground.phase }, { on := 6, ground := Go.Ground.phase }, { on := 7, ground := Go.Ground.phase }], guard := none }) (v := .pointer (some ⟨P, 0, none⟩)) rfl rfl (by kernel_rfl) (by kernel_rfl) (by kernel_rfl) (by kernel_rfl) (fun _ _ _ h => h) (Or.inl ⟨by kernel_rfl, ?_⟩) (.inl rfl) ?_
  · (intro X hX; rcases hX with rfl | rfl | rfl <;> (go_simp; try (with_reducible rfl)))
  (try simp only [Act.put, List.setIfInBounds_toArray, List.set_cons_zero, List.set_cons_succ])
  refine wpAnyN_take (i := 3) (oi := { dst := some 7, op := Go.Op.fieldAddr 69 (Go.Operand.tmp 6) 0, type := 0, pos := "queue.go:8", after := #[{ on := 2, ground := Go.Ground.data }], guard := none }) (oL := { dst := none, op := Go.Op.store 67 (Go.Operand.tmp 13) (Go.Operand.tmp 11), type := 0, pos := "queue.go:8", after := #[{ on := 9, ground := Go.Ground.data }, { on := 7, ground := Go.Ground.data }, { on := 7, ground := Go.Ground.chain }, { on := 0, ground := Go.Ground.phase }, { on := 1, ground := Go.Ground.phase }, { on := 2, ground := Go.Ground.phase }, { on := 3, ground := Go.Ground.phase }, { on := 4, ground := Go.Ground.phase }, { on := 5, ground := Go.Ground.phase }, { on := 6, ground := Go.Ground.phase }, { on := 7, ground := Go.Ground.phase }], guard := none }) (v := .pointer (some ⟨P, 0, none⟩)) rfl rfl (by kernel_rfl) (by kernel_rfl) (by kernel_rfl) (by kernel_rfl) (fun _ _ _ h => h) (Or.inl ⟨by kernel_rfl, ?_⟩) (.inl rfl) ?_
  · (intro X hX; rcases hX with rfl | rfl | rfl <;> (go_simp; try (with_reducible rfl)))
  (try simp only [Act.put, List.setIfInBounds_toArray, List.set_cons_zero, List.set_cons_succ])
  refine wpAnyN_take (i := 4) (oi := { dst := some 8, op := Go.Op.load 67 (Go.Operand.tmp 7), type := 67, pos := "queue.go:8", after := #[{ on := 3, ground := Go.Ground.data }], guard := none }) (oL := { dst := none, op := Go.Op.store 67 (Go.Operand.tmp 13) (Go.Operand.tmp 11), type := 0, pos := "queue.go:8", after := #[{ on := 9, ground := Go.Ground.data }, { on := 7, ground := Go.Ground.data }, { on := 7, ground := Go.Ground.chain }, { on := 0, ground := Go.Ground.phase }, { on := 1, ground := Go.Ground.phase }, { on := 2, ground := Go.Ground.phase }, { on := 3, ground := Go.Ground.phase }, { on := 4, ground := Go.Ground.phase }, { on := 5, ground := Go.Ground.phase }, { on := 6, ground := Go.Ground.phase }, { on := 7, ground := Go.Ground.phase }], guard := none }) (v := .slice qa n qc) rfl rfl (by kernel_rfl) (by kernel_rfl) (by kernel_rfl) (by kernel_rfl) (fun _ _ _ h => h) (Or.inl ⟨by kernel_rfl, ?_⟩) (.inl rfl) ?_
  · (intro X hX; rcases hX with rfl | rfl | rfl <;> (go_simp; try (with_reducible rfl)))
  (try simp only [Act.put, List.setIfInBounds_toArray, List.set_cons_zero, List.set_cons_succ])
  refine wpAnyN_take (i := 5) (oi := { dst := some 9, op := Go.Op.load 78 (Go.Operand.tmp 3), type := 78, pos := "queue.go:8", after := #[], guard := none }) (oL := { dst := none, op := Go.Op.store 67 (Go.Operand.tmp 13) (Go.Operand.tmp 11), type := 0, pos := "queue.go:8", after := #[{ on := 9, ground := Go.Ground.data }, { on := 7, ground := Go.Ground.data }, { on := 7, ground := Go.Ground.chain }, { on := 0, ground := Go.Ground.phase }, { on := 1, ground := Go.Ground.phase }, { on := 2, ground := Go.Ground.phase }, { on := 3, ground := Go.Ground.phase }, { on := 4, ground := Go.Ground.phase }, { on := 5, ground := Go.Ground.phase }, { on := 6, ground := Go.Ground.phase }, { on := 7, ground := Go.Ground.phase }], guard := none }) (v := .agg #[.string kt, .int .i64 kv, .bool ku, .bool ks, .slice sa sn sc]) rfl rfl (by kernel_rfl) (by kernel_rfl) (by kernel_rfl) (by kernel_rfl) (fun _ _ _ h => h) (Or.inl ⟨by kernel_rfl, ?_⟩) (.inl rfl) ?_
  · (intro X hX; rcases hX with rfl | rfl | rfl <;> (go_simp; try (with_reducible rfl)))
  (try simp only [Act.put, List.setIfInBounds_toArray, List.set_cons_zero, List.set_cons_succ])
  refine wpAnyN_one (i := 6) (o := { dst := some 10, op := Go.Op.buildSlice 67 1 #[(0, Go.Operand.tmp 9)], type := 67, pos := "queue.go:8", after := #[{ on := 5, ground := Go.Ground.data }], guard := none }) (by kernel_rfl) rfl (fun K hK => ?_)
  go_simp
  refine hK.out _ _ (fun _ => (.inr (.inl rfl))) ?_
  clear hK K
  (try simp only [Act.put, List.setIfInBounds_toArray, List.set_cons_zero, List.set_cons_succ])
  refine wpAnyN_one (i := 7) (o := { dst := some 11, op := Go.Op.call { callee := Go.Callee.builtin Go.Builtin.append, args := #[Go.Operand.tmp 8, Go.Operand.tmp 10], argTypes := #[67, 67] }, type := 67, pos := "queue.go:8", after := #[{ on := 4, ground := Go.Ground.data }, { on := 6, ground := Go.Ground.data }], guard := none }) (by kernel_rfl) rfl (fun K hK => ?_)
  refine step_append_run rfl _ _ _ rfl _ rfl _ _ rfl rfl _ _ HRun.out ?_
  refine hK.out _ _ (fun _ => (.inr (.inr rfl))) ?_
  clear hK K
  (try simp only [Act.put, List.setIfInBounds_toArray, List.set_cons_zero, List.set_cons_succ])
  refine wpAnyN_take (i := 8) (oi := { dst := some 12, op := Go.Op.nilCheck (Go.Operand.tmp 4), type := 0, pos := "queue.go:8", after := #[{ on := 0, ground := Go.Ground.data }, { on := 0, ground := Go.Ground.phase }, { on := 1, ground := Go.Ground.phase }, { on := 2, ground := Go.Ground.phase }, { on := 3, ground := Go.Ground.phase }, { on := 4, ground := Go.Ground.phase }, { on := 5, ground := Go.Ground.phase }, { on := 6, ground := Go.Ground.phase }, { on := 7, ground := Go.Ground.phase }], guard := none }) (oL := { dst := none, op := Go.Op.store 67 (Go.Operand.tmp 13) (Go.Operand.tmp 11), type := 0, pos := "queue.go:8", after := #[{ on := 9, ground := Go.Ground.data }, { on := 7, ground := Go.Ground.data }, { on := 7, ground := Go.Ground.chain }, { on := 0, ground := Go.Ground.phase }, { on := 1, ground := Go.Ground.phase }, { on := 2, ground := Go.Ground.phase }, { on := 3, ground := Go.Ground.phase }, { on := 4, ground := Go.Ground.phase }, { on := 5, ground := Go.Ground.phase }, { on := 6, ground := Go.Ground.phase }, { on := 7, ground := Go.Ground.phase }], guard := none }) (v := .pointer (some ⟨P, 0, none⟩)) rfl rfl (by kernel_rfl) (by kernel_rfl) (by kernel_rfl) (by kernel_rfl) (fun _ _ _ h => h) (Or.inl ⟨by kernel_rfl, ?_⟩) (.inr (.inr rfl)) ?_
  · (intro X hX; rcases hX with rfl | rfl | rfl <;> (go_simp; try (with_reducible rfl)))
  (try simp only [Act.put, List.setIfInBounds_toArray, List.set_cons_zero, List.set_cons_succ])
  refine wpAnyN_take (i := 9) (oi := { dst := some 13, op := Go.Op.fieldAddr 69 (Go.Operand.tmp 12) 0, type := 0, pos := "queue.go:8", after := #[{ on := 8, ground := Go.Ground.data }, { on := 0, ground := Go.Ground.phase }, { on := 1, ground := Go.Ground.phase }, { on := 2, ground := Go.Ground.phase }, { on := 3, ground := Go.Ground.phase }, { on := 4, ground := Go.Ground.phase }, { on := 5, ground := Go.Ground.phase }, { on := 6, ground := Go.Ground.phase }, { on := 7, ground := Go.Ground.phase }], guard := none }) (oL := { dst := none, op := Go.Op.store 67 (Go.Operand.tmp 13) (Go.Operand.tmp 11), type := 0, pos := "queue.go:8", after := #[{ on := 9, ground := Go.Ground.data }, { on := 7, ground := Go.Ground.data }, { on := 7, ground := Go.Ground.chain }, { on := 0, ground := Go.Ground.phase }, { on := 1, ground := Go.Ground.phase }, { on := 2, ground := Go.Ground.phase }, { on := 3, ground := Go.Ground.phase }, { on := 4, ground := Go.Ground.phase }, { on := 5, ground := Go.Ground.phase }, { on := 6, ground := Go.Ground.phase }, { on := 7, ground := Go.Ground.phase }], guard := none }) (v := .pointer (some ⟨P, 0, none⟩)) rfl rfl (by kernel_rfl) (by kernel_rfl) (by kernel_rfl) (by kernel_rfl) (fun _ _ _ h => h) (Or.inl ⟨by kernel_rfl, ?_⟩) (.inr (.inr rfl)) ?_
  · (intro X hX; rcases hX with rfl | rfl | rfl <;> (go_simp; try (with_reducible rfl)))
  (try simp only [Act.put, List.setIfInBounds_toArray, List.set_cons_zero, List.set_cons_succ])
  refine wpAnyN_one (i := 10) (o := { dst := none, op := Go.Op.store 67 (Go.Operand.tmp 13) (Go.Operand.tmp 11), type := 0, pos := "queue.go:8", after := #[{ on := 9, ground := Go.Ground.data }, { on := 7, ground := Go.Ground.data }, { on := 7, ground := Go.Ground.chain }, { on := 0, ground := Go.Ground.phase }, { on := 1, ground := Go.Ground.phase }, { on := 2, ground := Go.Ground.phase }, { on := 3, ground := Go.Ground.phase }, { on := 4, ground := Go.Ground.phase }, { on := 5, ground := Go.Ground.phase }, { on := 6, ground := Go.Ground.phase }, { on := 7, ground := Go.Ground.phase }], guard := none }) (by kernel_rfl) rfl (fun K hK => ?_)
  go_simp
  refine hK.out _ _ (fun e => absurd (e.symm.trans (by kernel_rfl) : false = true) Bool.false_ne_true) ?_
  clear hK K
  (try simp only [Act.put, List.setIfInBounds_toArray, List.set_cons_zero, List.set_cons_succ])
  refine wpAnyN_of_H (S' := fun _ => True) _ _ _ _ (by kernel_rfl) ?_
  refine wpAnyH_done (by kernel_rfl) ?_ _
  go_wp2_with fail
  first | refine bodyPost_end (results_none rfl _ _ _) rfl ?_ | refine bodyPost_ret (results_none rfl _ _ _) rfl ?_
  exact ⟨rfl, FIN.out⟩
end Go.Proofs.YtlmlbcnjohjnlaaDoor

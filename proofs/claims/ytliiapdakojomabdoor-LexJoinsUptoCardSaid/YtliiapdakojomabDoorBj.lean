/- lex: the joiner's words: atoms. -/
import Derived.Test.YtliiapdakojomabDoorBi
namespace Go.Proofs.YtliiapdakojomabDoor
open Go.RowKit

theorem step_append_text {ops : Array Oper} {o : Oper} {a : Act} {K : Act → World → Prop} {Q : Exit → Act → World → Prop} {E : Prop} (hgd : o.guard = none) (s x : Operand)
    (ho : o.op = .call { callee := .builtin .append, args := #[s, x], argTypes := #[31, 9] })
    {B : Nat} {v : Value} {l : List UInt8} {w : World} (hrow : w.ownsRow B 5 1 v l.length (bc l)) (hB : B ≤ w.heap.size) (hs : a.eval s = v) (t : ByteArray) (hx : a.eval x = .string t) (hl : l.length + t.size ≤ 140737488355328)
    (h : ∀ v' w', OwnG B v v' (l ++ L t) w w' → K (a.put o.dst v') w') : if Region.wanted o (yielded ops a.tmps) = true then Oper.wp Tryd.prog o a w K Q else E := by
  have hw : Region.wanted o (yielded ops a.tmps) = true := by simp [Region.wanted, hgd]
  rw [if_pos hw]
  obtain ⟨v', w', hr, hg⟩ := OwnG.text o.type hrow hB t hl
  unfold Oper.wp execOp
  simp only [ho, resolve, invoke, builtin, Sem.run_bind, Sem.run_pure, Result.andThen_ok, List.map_toArray, List.map_cons, List.map_nil, hs, hx, hr]
  exact h v' w' hg
set_option maxRecDepth 100000 in
set_option maxHeartbeats 4000000 in
theorem writeWord_1 {B P : Nat} {vl vt : Value} {j : Jn} {W0 w : World} (h : SmJ B P vl vt j W0 w) (t : ByteArray) (ht : t.size ≤ 16384) (gl : Bool) (a : Option Addr) (n c : Nat) (hl : j.line.length ≤ 50000000) :
    Calls Tryd.prog 62 #[.pointer (some ⟨P, 0, none⟩), .agg #[.int .i64 1, .string t, .slice a n c, .bool gl]] w fun e w' => e = .returned (.tuple #[]) ∧ ∃ vl2 vt2, SmJ B P vl2 vt2 (j.put (L t)) W0 w' := by
  obtain ⟨la, ln, lc, rfl⟩ := row_form h.line
  have hb : Below w.heap.size w (w.alloc (.cells #[.int .i64 1, .string t, .slice a n c, .bool gl] 33)) := (Below.refl _ _).alloc (Nat.le_refl _) _
  have hx : (w.alloc (.cells #[.int .i64 1, .string t, .slice a n c, .bool gl] 33)).heap[w.heap.size]? = some (.cells #[.int .i64 1, .string t, .slice a n c, .bool gl] 33 (0, 0)) := heap_alloc_new _ _
  have hP := h.plt
  have hBw : B ≤ w.heap.size := by have := h.bP; omega
  have h1 := (h.on hb).on ((Below.refl _ _).drew)
  have HP : Hid ((Value.slice la ln lc).ownBlock ≠ some w.heap.size) := Lib.hid (fun e => by have := (row_lt h.line e).2; omega)
  have hx1 : (w.alloc (.cells #[.int .i64 1, .string t, .slice a n c, .bool gl] 33)).drew.cell? ⟨w.heap.size, 1, none⟩ = some (.string t) := cellB (cell_of_row _ _ 1 _ _ _ hx) ((Below.refl _ _).drew)
  have hS0 : wqS P w.heap.size (.slice la ln lc) t (w.alloc (.cells #[.int .i64 1, .string t, .slice a n c, .bool gl] 33)).drew := ⟨h1.cells.1, hx1⟩
  have H := Lib.hid h1
  have HX := Lib.hid hx1
  clear h hb hx h1 hx1
  go_enter Tryd.func62, Tryd.ntmps62
  go_upto_region 3 with fail
  refine wp_region_N 10 (wqS P w.heap.size (.slice la ln lc) t) (by kernel_rfl) ?_
  refine wpAnyN_take (i := 0) (oi := { dst := some 8, op := Go.Op.move (Go.Operand.tmp 0), type := 93, pos := "join.go:53", after := #[], guard := none }) (oL := { dst := none, op := Go.Op.store 31 (Go.Operand.tmp 17) (Go.Operand.tmp 15), type := 0, pos := "join.go:53", after := #[{ on := 9, ground := Go.Ground.data }, { on := 7, ground := Go.Ground.data }, { on := 7, ground := Go.Ground.chain }, { on := 0, ground := Go.Ground.phase }, { on := 1, ground := Go.Ground.phase }, { on := 2, ground := Go.Ground.phase }, { on := 3, ground := Go.Ground.phase }, { on := 4, ground := Go.Ground.phase }, { on := 5, ground := Go.Ground.phase }, { on := 6, ground := Go.Ground.phase }, { on := 7, ground := Go.Ground.phase }], guard := none }) (v := ?_) rfl rfl (by kernel_rfl) (by kernel_rfl) (by kernel_rfl) (by kernel_rfl) (fun _ _ _ h => h) (Or.inl ⟨by kernel_rfl, ?_⟩) hS0 ?_
  rotate_left
  · (intro X hX; (try dsimp only at hX); go_simp; try (with_reducible rfl))
  (try simp only [Act.put, List.setIfInBounds_toArray, List.set_cons_zero, List.set_cons_succ])
  refine wpAnyN_take (i := 1) (oi := { dst := some 9, op := Go.Op.move (Go.Operand.tmp 0), type := 93, pos := "join.go:53", after := #[], guard := none }) (oL := { dst := none, op := Go.Op.store 31 (Go.Operand.tmp 17) (Go.Operand.tmp 15), type := 0, pos := "join.go:53", after := #[{ on := 9, ground := Go.Ground.data }, { on := 7, ground := Go.Ground.data }, { on := 7, ground := Go.Ground.chain }, { on := 0, ground := Go.Ground.phase }, { on := 1, ground := Go.Ground.phase }, { on := 2, ground := Go.Ground.phase }, { on := 3, ground := Go.Ground.phase }, { on := 4, ground := Go.Ground.phase }, { on := 5, ground := Go.Ground.phase }, { on := 6, ground := Go.Ground.phase }, { on := 7, ground := Go.Ground.phase }], guard := none }) (v := ?_) rfl rfl (by kernel_rfl) (by kernel_rfl) (by kernel_rfl) (by kernel_rfl) (fun _ _ _ h => h) (Or.inl ⟨by kernel_rfl, ?_⟩) hS0 ?_
  rotate_left
  · (intro X hX; (try dsimp only at hX); go_simp; try (with_reducible rfl))
  (try simp only [Act.put, List.setIfInBounds_toArray, List.set_cons_zero, List.set_cons_succ])
  refine wpAnyN_take (i := 2) (oi := { dst := some 10, op := Go.Op.nilCheck (Go.Operand.tmp 9), type := 0, pos := "join.go:53", after := #[{ on := 1, ground := Go.Ground.data }], guard := none }) (oL := { dst := none, op := Go.Op.store 31 (Go.Operand.tmp 17) (Go.Operand.tmp 15), type := 0, pos := "join.go:53", after := #[{ on := 9, ground := Go.Ground.data }, { on := 7, ground := Go.Ground.data }, { on := 7, ground := Go.Ground.chain }, { on := 0, ground := Go.Ground.phase }, { on := 1, ground := Go.Ground.phase }, { on := 2, ground := Go.Ground.phase }, { on := 3, ground := Go.Ground.phase }, { on := 4, ground := Go.Ground.phase }, { on := 5, ground := Go.Ground.phase }, { on := 6, ground := Go.Ground.phase }, { on := 7, ground := Go.Ground.phase }], guard := none }) (v := ?_) rfl rfl (by kernel_rfl) (by kernel_rfl) (by kernel_rfl) (by kernel_rfl) (fun _ _ _ h => h) (Or.inl ⟨by kernel_rfl, ?_⟩) hS0 ?_
  rotate_left
  · (intro X hX; (try dsimp only at hX); go_simp; try (with_reducible rfl))
  (try simp only [Act.put, List.setIfInBounds_toArray, List.set_cons_zero, List.set_cons_succ])
  refine wpAnyN_take (i := 3) (oi := { dst := some 11, op := Go.Op.fieldAddr 70 (Go.Operand.tmp 10) 0, type := 0, pos := "join.go:53", after := #[{ on := 2, ground := Go.Ground.data }], guard := none }) (oL := { dst := none, op := Go.Op.store 31 (Go.Operand.tmp 17) (Go.Operand.tmp 15), type := 0, pos := "join.go:53", after := #[{ on := 9, ground := Go.Ground.data }, { on := 7, ground := Go.Ground.data }, { on := 7, ground := Go.Ground.chain }, { on := 0, ground := Go.Ground.phase }, { on := 1, ground := Go.Ground.phase }, { on := 2, ground := Go.Ground.phase }, { on := 3, ground := Go.Ground.phase }, { on := 4, ground := Go.Ground.phase }, { on := 5, ground := Go.Ground.phase }, { on := 6, ground := Go.Ground.phase }, { on := 7, ground := Go.Ground.phase }], guard := none }) (v := ?_) rfl rfl (by kernel_rfl) (by kernel_rfl) (by kernel_rfl) (by kernel_rfl) (fun _ _ _ h => h) (Or.inl ⟨by kernel_rfl, ?_⟩) hS0 ?_
  rotate_left
  · (intro X hX; (try dsimp only at hX); go_simp; try (with_reducible rfl))
  (try simp only [Act.put, List.setIfInBounds_toArray, List.set_cons_zero, List.set_cons_succ])
  refine wpAnyN_take (i := 4) (oi := { dst := some 12, op := Go.Op.load 31 (Go.Operand.tmp 11), type := 31, pos := "join.go:53", after := #[{ on := 3, ground := Go.Ground.data }], guard := none }) (oL := { dst := none, op := Go.Op.store 31 (Go.Operand.tmp 17) (Go.Operand.tmp 15), type := 0, pos := "join.go:53", after := #[{ on := 9, ground := Go.Ground.data }, { on := 7, ground := Go.Ground.data }, { on := 7, ground := Go.Ground.chain }, { on := 0, ground := Go.Ground.phase }, { on := 1, ground := Go.Ground.phase }, { on := 2, ground := Go.Ground.phase }, { on := 3, ground := Go.Ground.phase }, { on := 4, ground := Go.Ground.phase }, { on := 5, ground := Go.Ground.phase }, { on := 6, ground := Go.Ground.phase }, { on := 7, ground := Go.Ground.phase }], guard := none }) (v := ?_) rfl rfl (by kernel_rfl) (by kernel_rfl) (by kernel_rfl) (by kernel_rfl) (fun _ _ _ h => h) (Or.inl ⟨by kernel_rfl, ?_⟩) hS0 ?_
  rotate_left
  · (intro X hX; (try dsimp only at hX); go_simp; try (with_reducible rfl))
  (try simp only [Act.put, List.setIfInBounds_toArray, List.set_cons_zero, List.set_cons_succ])
  refine wpAnyN_take (i := 5) (oi := { dst := some 13, op := Go.Op.fieldAddr 33 (Go.Operand.tmp 3) 1, type := 0, pos := "join.go:53", after := #[], guard := none }) (oL := { dst := none, op := Go.Op.store 31 (Go.Operand.tmp 17) (Go.Operand.tmp 15), type := 0, pos := "join.go:53", after := #[{ on := 9, ground := Go.Ground.data }, { on := 7, ground := Go.Ground.data }, { on := 7, ground := Go.Ground.chain }, { on := 0, ground := Go.Ground.phase }, { on := 1, ground := Go.Ground.phase }, { on := 2, ground := Go.Ground.phase }, { on := 3, ground := Go.Ground.phase }, { on := 4, ground := Go.Ground.phase }, { on := 5, ground := Go.Ground.phase }, { on := 6, ground := Go.Ground.phase }, { on := 7, ground := Go.Ground.phase }], guard := none }) (v := ?_) rfl rfl (by kernel_rfl) (by kernel_rfl) (by kernel_rfl) (by kernel_rfl) (fun _ _ _ h => h) (Or.inl ⟨by kernel_rfl, ?_⟩) hS0 ?_
  rotate_left
  · (intro X hX; (try dsimp only at hX); go_simp; try (with_reducible rfl))
  (try simp only [Act.put, List.setIfInBounds_toArray, List.set_cons_zero, List.set_cons_succ])
  refine wpAnyN_take (i := 6) (oi := { dst := some 14, op := Go.Op.load 9 (Go.Operand.tmp 13), type := 9, pos := "join.go:53", after := #[{ on := 5, ground := Go.Ground.data }], guard := none }) (oL := { dst := none, op := Go.Op.store 31 (Go.Operand.tmp 17) (Go.Operand.tmp 15), type := 0, pos := "join.go:53", after := #[{ on := 9, ground := Go.Ground.data }, { on := 7, ground := Go.Ground.data }, { on := 7, ground := Go.Ground.chain }, { on := 0, ground := Go.Ground.phase }, { on := 1, ground := Go.Ground.phase }, { on := 2, ground := Go.Ground.phase }, { on := 3, ground := Go.Ground.phase }, { on := 4, ground := Go.Ground.phase }, { on := 5, ground := Go.Ground.phase }, { on := 6, ground := Go.Ground.phase }, { on := 7, ground := Go.Ground.phase }], guard := none }) (v := ?_) rfl rfl (by kernel_rfl) (by kernel_rfl) (by kernel_rfl) (by kernel_rfl) (fun _ _ _ h => h) (Or.inl ⟨by kernel_rfl, ?_⟩) hS0 ?_
  rotate_left
  · (intro X hX; (try dsimp only at hX); go_simp; try (with_reducible rfl))
  (try simp only [Act.put, List.setIfInBounds_toArray, List.set_cons_zero, List.set_cons_succ])
  refine wpAnyN_one (i := 7) (o := { dst := some 15, op := Go.Op.call { callee := Go.Callee.builtin Go.Builtin.append, args := #[Go.Operand.tmp 12, Go.Operand.tmp 14], argTypes := #[31, 9] }, type := 31, pos := "join.go:53", after := #[{ on := 4, ground := Go.Ground.data }, { on := 6, ground := Go.Ground.data }], guard := none }) (by kernel_rfl) rfl (fun K hK => ?_)
  refine step_append_text rfl (.tmp 12) (.tmp 14) rfl H.out.line (by simp; omega) rfl t rfl (by omega) ?_
  intro v3 w3 hg3
  obtain ⟨va, vn, vc, rfl⟩ := row_form hg3.row
  obtain ⟨p0, p1, HJ⟩ := H.out.grew _ hg3
  have HJ := Lib.hid HJ
  have st3 : wqS P w.heap.size (.slice la ln lc) t w3 := ⟨p0, by rw [hg3.grown.cell_far _ (block_lt_of_cell HX.out) (fun e => HP.out e.symm)]; exact HX.out⟩
  clear hg3
  refine hK.out _ _ (fun _ => st3) ?_
  clear hK K
  (try simp only [Act.put, List.setIfInBounds_toArray, List.set_cons_zero, List.set_cons_succ])
  refine wpAnyN_take (i := 8) (oi := { dst := some 16, op := Go.Op.nilCheck (Go.Operand.tmp 8), type := 0, pos := "join.go:53", after := #[{ on := 0, ground := Go.Ground.data }, { on := 0, ground := Go.Ground.phase }, { on := 1, ground := Go.Ground.phase }, { on := 2, ground := Go.Ground.phase }, { on := 3, ground := Go.Ground.phase }, { on := 4, ground := Go.Ground.phase }, { on := 5, ground := Go.Ground.phase }, { on := 6, ground := Go.Ground.phase }, { on := 7, ground := Go.Ground.phase }], guard := none }) (oL := { dst := none, op := Go.Op.store 31 (Go.Operand.tmp 17) (Go.Operand.tmp 15), type := 0, pos := "join.go:53", after := #[{ on := 9, ground := Go.Ground.data }, { on := 7, ground := Go.Ground.data }, { on := 7, ground := Go.Ground.chain }, { on := 0, ground := Go.Ground.phase }, { on := 1, ground := Go.Ground.phase }, { on := 2, ground := Go.Ground.phase }, { on := 3, ground := Go.Ground.phase }, { on := 4, ground := Go.Ground.phase }, { on := 5, ground := Go.Ground.phase }, { on := 6, ground := Go.Ground.phase }, { on := 7, ground := Go.Ground.phase }], guard := none }) (v := ?_) rfl rfl (by kernel_rfl) (by kernel_rfl) (by kernel_rfl) (by kernel_rfl) (fun _ _ _ h => h) (Or.inl ⟨by kernel_rfl, ?_⟩) st3 ?_
  rotate_left
  · (intro X hX; (try dsimp only at hX); go_simp; try (with_reducible rfl))
  (try simp only [Act.put, List.setIfInBounds_toArray, List.set_cons_zero, List.set_cons_succ])
  refine wpAnyN_take (i := 9) (oi := { dst := some 17, op := Go.Op.fieldAddr 70 (Go.Operand.tmp 16) 0, type := 0, pos := "join.go:53", after := #[{ on := 8, ground := Go.Ground.data }, { on := 0, ground := Go.Ground.phase }, { on := 1, ground := Go.Ground.phase }, { on := 2, ground := Go.Ground.phase }, { on := 3, ground := Go.Ground.phase }, { on := 4, ground := Go.Ground.phase }, { on := 5, ground := Go.Ground.phase }, { on := 6, ground := Go.Ground.phase }, { on := 7, ground := Go.Ground.phase }], guard := none }) (oL := { dst := none, op := Go.Op.store 31 (Go.Operand.tmp 17) (Go.Operand.tmp 15), type := 0, pos := "join.go:53", after := #[{ on := 9, ground := Go.Ground.data }, { on := 7, ground := Go.Ground.data }, { on := 7, ground := Go.Ground.chain }, { on := 0, ground := Go.Ground.phase }, { on := 1, ground := Go.Ground.phase }, { on := 2, ground := Go.Ground.phase }, { on := 3, ground := Go.Ground.phase }, { on := 4, ground := Go.Ground.phase }, { on := 5, ground := Go.Ground.phase }, { on := 6, ground := Go.Ground.phase }, { on := 7, ground := Go.Ground.phase }], guard := none }) (v := ?_) rfl rfl (by kernel_rfl) (by kernel_rfl) (by kernel_rfl) (by kernel_rfl) (fun _ _ _ h => h) (Or.inl ⟨by kernel_rfl, ?_⟩) st3 ?_
  rotate_left
  · (intro X hX; (try dsimp only at hX); go_simp; try (with_reducible rfl))
  (try simp only [Act.put, List.setIfInBounds_toArray, List.set_cons_zero, List.set_cons_succ])
  refine wpAnyN_one (i := 10) (o := { dst := none, op := Go.Op.store 31 (Go.Operand.tmp 17) (Go.Operand.tmp 15), type := 0, pos := "join.go:53", after := #[{ on := 9, ground := Go.Ground.data }, { on := 7, ground := Go.Ground.data }, { on := 7, ground := Go.Ground.chain }, { on := 0, ground := Go.Ground.phase }, { on := 1, ground := Go.Ground.phase }, { on := 2, ground := Go.Ground.phase }, { on := 3, ground := Go.Ground.phase }, { on := 4, ground := Go.Ground.phase }, { on := 5, ground := Go.Ground.phase }, { on := 6, ground := Go.Ground.phase }, { on := 7, ground := Go.Ground.phase }], guard := none }) (by kernel_rfl) rfl (fun K hK => ?_)
  go_simp
  refine hK.out _ _ (fun e => absurd (e.symm.trans (by kernel_rfl) : false = true) Bool.false_ne_true) ?_
  clear hK K
  (try simp only [Act.put, List.setIfInBounds_toArray, List.set_cons_zero, List.set_cons_succ])
  refine wpAnyN_of_H (S' := fun _ => True) _ _ _ _ (by kernel_rfl) ?_
  refine wpAnyH_done (by kernel_rfl) ?_ _
  go_wp2_with fail
  go_end0
  exact ⟨rfl, _, _, HJ.out⟩
end Go.Proofs.YtliiapdakojomabDoor

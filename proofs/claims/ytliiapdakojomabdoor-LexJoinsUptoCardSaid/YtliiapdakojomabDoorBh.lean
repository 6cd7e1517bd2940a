/- lex: the joiner's words: quoted ones. -/
import Derived.Test.YtliiapdakojomabDoorBa
namespace Go.Proofs.YtliiapdakojomabDoor
open Go.RowKit

theorem row_form {t s n B : Nat} {v : Value} {l : List Value} {w : World} (h : w.ownsRow B t s v n l) : ∃ a n c, v = .slice a n c := by
  rcases h.2 with ⟨rfl, _⟩ | ⟨g', cap, cur, rfl, _⟩
  · exact ⟨_, _, _, rfl⟩
  · exact ⟨_, _, _, rfl⟩
abbrev wqS (P x : Nat) (vl : Value) (t : ByteArray) : World → Prop := fun X => X.cell? ⟨P, 0, none⟩ = some vl ∧ X.cell? ⟨x, 1, none⟩ = some (.string t)
set_option maxRecDepth 100000 in
set_option maxHeartbeats 4000000 in
theorem writeWord_2 {B P : Nat} {vl vt : Value} {j : Jn} {W0 w : World} (h : SmJ B P vl vt j W0 w) (t : ByteArray) (ht : t.size ≤ 16384) (gl : Bool) (a : Option Addr) (n c : Nat) (hl : j.line.length ≤ 50000000) :
    Calls Tryd.prog 62 #[.pointer (some ⟨P, 0, none⟩), .agg #[.int .i64 2, .string t, .slice a n c, .bool gl]] w fun e w' => e = .returned (.tuple #[]) ∧ ∃ vl2 vt2, SmJ B P vl2 vt2 (j.put (quoteL (L t))) W0 w' := by
  obtain ⟨la, ln, lc, rfl⟩ := row_form h.line
  have hb : Below w.heap.size w (w.alloc (.cells #[.int .i64 2, .string t, .slice a n c, .bool gl] 33)) := (Below.refl _ _).alloc (Nat.le_refl _) _
  have hx : (w.alloc (.cells #[.int .i64 2, .string t, .slice a n c, .bool gl] 33)).heap[w.heap.size]? = some (.cells #[.int .i64 2, .string t, .slice a n c, .bool gl] 33 (0, 0)) := heap_alloc_new _ _
  have hP := h.plt
  have hBw : B ≤ w.heap.size := by have := h.bP; omega
  have h1 := (h.on hb).on ((Below.refl _ _).drew)
  have HP : Hid ((Value.slice la ln lc).ownBlock ≠ some w.heap.size) := Lib.hid (fun e => by have := (row_lt h.line e).2; omega)
  have hx1 : (w.alloc (.cells #[.int .i64 2, .string t, .slice a n c, .bool gl] 33)).drew.cell? ⟨w.heap.size, 1, none⟩ = some (.string t) := cellB (cell_of_row _ _ 1 _ _ _ hx) ((Below.refl _ _).drew)
  have hS0 : wqS P w.heap.size (.slice la ln lc) t (w.alloc (.cells #[.int .i64 2, .string t, .slice a n c, .bool gl] 33)).drew := ⟨h1.cells.1, hx1⟩
  have HQ := Lib.hid (appendQuoted_lies t B (.slice la ln lc) (.slice la ln lc) j.line _ _ (OwnG.start h1.line (by simp; omega)) (by omega) (by omega))
  have H := Lib.hid h1
  have HX := Lib.hid hx1
  clear h hb hx h1 hx1
  go_enter Tryd.func62, Tryd.ntmps62
  go_upto_region 5 with fail
  refine wp_region_N 10 (wqS P w.heap.size (.slice la ln lc) t) (by kernel_rfl) ?_
  refine wpAnyN_take (i := 0) (oi := { dst := some 20, op := Go.Op.move (Go.Operand.tmp 0), type := 93, pos := "join.go:55", after := #[], guard := none }) (oL := { dst := none, op := Go.Op.store 31 (Go.Operand.tmp 29) (Go.Operand.tmp 27), type := 0, pos := "join.go:55", after := #[{ on := 9, ground := Go.Ground.data }, { on := 7, ground := Go.Ground.data }, { on := 7, ground := Go.Ground.chain }, { on := 0, ground := Go.Ground.phase }, { on := 1, ground := Go.Ground.phase }, { on := 2, ground := Go.Ground.phase }, { on := 3, ground := Go.Ground.phase }, { on := 4, ground := Go.Ground.phase }, { on := 5, ground := Go.Ground.phase }, { on := 6, ground := Go.Ground.phase }, { on := 7, ground := Go.Ground.phase }], guard := none }) (v := ?_) rfl rfl (by kernel_rfl) (by kernel_rfl) (by kernel_rfl) (by kernel_rfl) (fun _ _ _ h => h) (Or.inl ⟨by kernel_rfl, ?_⟩) hS0 ?_
  rotate_left
  · (intro X hX; (try dsimp only at hX); go_simp; try (with_reducible rfl))
  (try simp only [Act.put, List.setIfInBounds_toArray, List.set_cons_zero, List.set_cons_succ])
  refine wpAnyN_take (i := 1) (oi := { dst := some 21, op := Go.Op.move (Go.Operand.tmp 0), type := 93, pos := "join.go:55", after := #[], guard := none }) (oL := { dst := none, op := Go.Op.store 31 (Go.Operand.tmp 29) (Go.Operand.tmp 27), type := 0, pos := "join.go:55", after := #[{ on := 9, ground := Go.Ground.data }, { on := 7, ground := Go.Ground.data }, { on := 7, ground := Go.Ground.chain }, { on := 0, ground := Go.Ground.phase }, { on := 1, ground := Go.Ground.phase }, { on := 2, ground := Go.Ground.phase }, { on := 3, ground := Go.Ground.phase }, { on := 4, ground := Go.Ground.phase }, { on := 5, ground := Go.Ground.phase }, { on := 6, ground := Go.Ground.phase }, { on := 7, ground := Go.Ground.phase }], guard := none }) (v := ?_) rfl rfl (by kernel_rfl) (by kernel_rfl) (by kernel_rfl) (by kernel_rfl) (fun _ _ _ h => h) (Or.inl ⟨by kernel_rfl, ?_⟩) hS0 ?_
  rotate_left
  · (intro X hX; (try dsimp only at hX); go_simp; try (with_reducible rfl))
  (try simp only [Act.put, List.setIfInBounds_toArray, List.set_cons_zero, List.set_cons_succ])
  refine wpAnyN_take (i := 2) (oi := { dst := some 22, op := Go.Op.nilCheck (Go.Operand.tmp 21), type := 0, pos := "join.go:55", after := #[{ on := 1, ground := Go.Ground.data }], guard := none }) (oL := { dst := none, op := Go.Op.store 31 (Go.Operand.tmp 29) (Go.Operand.tmp 27), type := 0, pos := "join.go:55", after := #[{ on := 9, ground := Go.Ground.data }, { on := 7, ground := Go.Ground.data }, { on := 7, ground := Go.Ground.chain }, { on := 0, ground := Go.Ground.phase }, { on := 1, ground := Go.Ground.phase }, { on := 2, ground := Go.Ground.phase }, { on := 3, ground := Go.Ground.phase }, { on := 4, ground := Go.Ground.phase }, { on := 5, ground := Go.Ground.phase }, { on := 6, ground := Go.Ground.phase }, { on := 7, ground := Go.Ground.phase }], guard := none }) (v := ?_) rfl rfl (by kernel_rfl) (by kernel_rfl) (by kernel_rfl) (by kernel_rfl) (fun _ _ _ h => h) (Or.inl ⟨by kernel_rfl, ?_⟩) hS0 ?_
  rotate_left
  · (intro X hX; (try dsimp only at hX); go_simp; try (with_reducible rfl))
  (try simp only [Act.put, List.setIfInBounds_toArray, List.set_cons_zero, List.set_cons_succ])
  refine wpAnyN_take (i := 3) (oi := { dst := some 23, op := Go.Op.fieldAddr 70 (Go.Operand.tmp 22) 0, type := 0, pos := "join.go:55", after := #[{ on := 2, ground := Go.Ground.data }], guard := none }) (oL := { dst := none, op := Go.Op.store 31 (Go.Operand.tmp 29) (Go.Operand.tmp 27), type := 0, pos := "join.go:55", after := #[{ on := 9, ground := Go.Ground.data }, { on := 7, ground := Go.Ground.data }, { on := 7, ground := Go.Ground.chain }, { on := 0, ground := Go.Ground.phase }, { on := 1, ground := Go.Ground.phase }, { on := 2, ground := Go.Ground.phase }, { on := 3, ground := Go.Ground.phase }, { on := 4, ground := Go.Ground.phase }, { on := 5, ground := Go.Ground.phase }, { on := 6, ground := Go.Ground.phase }, { on := 7, ground := Go.Ground.phase }], guard := none }) (v := ?_) rfl rfl (by kernel_rfl) (by kernel_rfl) (by kernel_rfl) (by kernel_rfl) (fun _ _ _ h => h) (Or.inl ⟨by kernel_rfl, ?_⟩) hS0 ?_
  rotate_left
  · (intro X hX; (try dsimp only at hX); go_simp; try (with_reducible rfl))
  (try simp only [Act.put, List.setIfInBounds_toArray, List.set_cons_zero, List.set_cons_succ])
  refine wpAnyN_take (i := 4) (oi := { dst := some 24, op := Go.Op.load 31 (Go.Operand.tmp 23), type := 31, pos := "join.go:55", after := #[{ on := 3, ground := Go.Ground.data }], guard := none }) (oL := { dst := none, op := Go.Op.store 31 (Go.Operand.tmp 29) (Go.Operand.tmp 27), type := 0, pos := "join.go:55", after := #[{ on := 9, ground := Go.Ground.data }, { on := 7, ground := Go.Ground.data }, { on := 7, ground := Go.Ground.chain }, { on := 0, ground := Go.Ground.phase }, { on := 1, ground := Go.Ground.phase }, { on := 2, ground := Go.Ground.phase }, { on := 3, ground := Go.Ground.phase }, { on := 4, ground := Go.Ground.phase }, { on := 5, ground := Go.Ground.phase }, { on := 6, ground := Go.Ground.phase }, { on := 7, ground := Go.Ground.phase }], guard := none }) (v := ?_) rfl rfl (by kernel_rfl) (by kernel_rfl) (by kernel_rfl) (by kernel_rfl) (fun _ _ _ h => h) (Or.inl ⟨by kernel_rfl, ?_⟩) hS0 ?_
  rotate_left
  · (intro X hX; (try dsimp only at hX); go_simp; try (with_reducible rfl))
  (try simp only [Act.put, List.setIfInBounds_toArray, List.set_cons_zero, List.set_cons_succ])
  refine wpAnyN_take (i := 5) (oi := { dst := some 25, op := Go.Op.fieldAddr 33 (Go.Operand.tmp 3) 1, type := 0, pos := "join.go:55", after := #[], guard := none }) (oL := { dst := none, op := Go.Op.store 31 (Go.Operand.tmp 29) (Go.Operand.tmp 27), type := 0, pos := "join.go:55", after := #[{ on := 9, ground := Go.Ground.data }, { on := 7, ground := Go.Ground.data }, { on := 7, ground := Go.Ground.chain }, { on := 0, ground := Go.Ground.phase }, { on := 1, ground := Go.Ground.phase }, { on := 2, ground := Go.Ground.phase }, { on := 3, ground := Go.Ground.phase }, { on := 4, ground := Go.Ground.phase }, { on := 5, ground := Go.Ground.phase }, { on := 6, ground := Go.Ground.phase }, { on := 7, ground := Go.Ground.phase }], guard := none }) (v := ?_) rfl rfl (by kernel_rfl) (by kernel_rfl) (by kernel_rfl) (by kernel_rfl) (fun _ _ _ h => h) (Or.inl ⟨by kernel_rfl, ?_⟩) hS0 ?_
  rotate_left
  · (intro X hX; (try dsimp only at hX); go_simp; try (with_reducible rfl))
  (try simp only [Act.put, List.setIfInBounds_toArray, List.set_cons_zero, List.set_cons_succ])
  refine wpAnyN_take (i := 6) (oi := { dst := some 26, op := Go.Op.load 9 (Go.Operand.tmp 25), type := 9, pos := "join.go:55", after := #[{ on := 5, ground := Go.Ground.data }], guard := none }) (oL := { dst := none, op := Go.Op.store 31 (Go.Operand.tmp 29) (Go.Operand.tmp 27), type := 0, pos := "join.go:55", after := #[{ on := 9, ground := Go.Ground.data }, { on := 7, ground := Go.Ground.data }, { on := 7, ground := Go.Ground.chain }, { on := 0, ground := Go.Ground.phase }, { on := 1, ground := Go.Ground.phase }, { on := 2, ground := Go.Ground.phase }, { on := 3, ground := Go.Ground.phase }, { on := 4, ground := Go.Ground.phase }, { on := 5, ground := Go.Ground.phase }, { on := 6, ground := Go.Ground.phase }, { on := 7, ground := Go.Ground.phase }], guard := none }) (v := ?_) rfl rfl (by kernel_rfl) (by kernel_rfl) (by kernel_rfl) (by kernel_rfl) (fun _ _ _ h => h) (Or.inl ⟨by kernel_rfl, ?_⟩) hS0 ?_
  rotate_left
  · (intro X hX; (try dsimp only at hX); go_simp; try (with_reducible rfl))
  (try simp only [Act.put, List.setIfInBounds_toArray, List.set_cons_zero, List.set_cons_succ])
  refine wpAnyN_one (i := 7) (o := { dst := some 27, op := Go.Op.call { callee := Go.Callee.value (Go.Operand.func 44), args := #[Go.Operand.tmp 24, Go.Operand.tmp 26], argTypes := #[31, 9] }, type := 31, pos := "join.go:55", after := #[{ on := 4, ground := Go.Ground.data }, { on := 6, ground := Go.Ground.data }], guard := none }) (by kernel_rfl) rfl (fun K hK => ?_)
  go_simp
  refine HQ.out.mono ?_
  rintro e w3 ⟨v3, rfl, hg3⟩
  obtain ⟨va, vn, vc, rfl⟩ := row_form hg3.row
  obtain ⟨p0, p1, HJ⟩ := H.out.grew _ hg3
  have HJ := Lib.hid HJ
  have st3 : wqS P w.heap.size (.slice la ln lc) t w3 := ⟨p0, by rw [hg3.grown.cell_far _ (block_lt_of_cell HX.out) (fun e => HP.out e.symm)]; exact HX.out⟩
  clear hg3
  dsimp only
  refine hK.out _ _ (fun _ => st3) ?_
  clear hK K
  (try simp only [Act.put, List.setIfInBounds_toArray, List.set_cons_zero, List.set_cons_succ])
  refine wpAnyN_take (i := 8) (oi := { dst := some 28, op := Go.Op.nilCheck (Go.Operand.tmp 20), type := 0, pos := "join.go:55", after := #[{ on := 0, ground := Go.Ground.data }, { on := 0, ground := Go.Ground.phase }, { on := 1, ground := Go.Ground.phase }, { on := 2, ground := Go.Ground.phase }, { on := 3, ground := Go.Ground.phase }, { on := 4, ground := Go.Ground.phase }, { on := 5, ground := Go.Ground.phase }, { on := 6, ground := Go.Ground.phase }, { on := 7, ground := Go.Ground.phase }], guard := none }) (oL := { dst := none, op := Go.Op.store 31 (Go.Operand.tmp 29) (Go.Operand.tmp 27), type := 0, pos := "join.go:55", after := #[{ on := 9, ground := Go.Ground.data }, { on := 7, ground := Go.Ground.data }, { on := 7, ground := Go.Ground.chain }, { on := 0, ground := Go.Ground.phase }, { on := 1, ground := Go.Ground.phase }, { on := 2, ground := Go.Ground.phase }, { on := 3, ground := Go.Ground.phase }, { on := 4, ground := Go.Ground.phase }, { on := 5, ground := Go.Ground.phase }, { on := 6, ground := Go.Ground.phase }, { on := 7, ground := Go.Ground.phase }], guard := none }) (v := ?_) rfl rfl (by kernel_rfl) (by kernel_rfl) (by kernel_rfl) (by kernel_rfl) (fun _ _ _ h => h) (Or.inl ⟨by kernel_rfl, ?_⟩) st3 ?_
  rotate_left
  · (intro X hX; (try dsimp only at hX); go_simp; try (with_reducible rfl))
  (try simp only [Act.put, List.setIfInBounds_toArray, List.set_cons_zero, List.set_cons_succ])
  refine wpAnyN_take (i := 9) (oi := { dst := some 29, op := Go.Op.fieldAddr 70 (Go.Operand.tmp 28) 0, type := 0, pos := "join.go:55", after := #[{ on := 8, ground := Go.Ground.data }, { on := 0, ground := Go.Ground.phase }, { on := 1, ground := Go.Ground.phase }, { on := 2, ground := Go.Ground.phase }, { on := 3, ground := Go.Ground.phase }, { on := 4, ground := Go.Ground.phase }, { on := 5, ground := Go.Ground.phase }, { on := 6, ground := Go.Ground.phase }, { on := 7, ground := Go.Ground.phase }], guard := none }) (oL := { dst := none, op := Go.Op.store 31 (Go.Operand.tmp 29) (Go.Operand.tmp 27), type := 0, pos := "join.go:55", after := #[{ on := 9, ground := Go.Ground.data }, { on := 7, ground := Go.Ground.data }, { on := 7, ground := Go.Ground.chain }, { on := 0, ground := Go.Ground.phase }, { on := 1, ground := Go.Ground.phase }, { on := 2, ground := Go.Ground.phase }, { on := 3, ground := Go.Ground.phase }, { on := 4, ground := Go.Ground.phase }, { on := 5, ground := Go.Ground.phase }, { on := 6, ground := Go.Ground.phase }, { on := 7, ground := Go.Ground.phase }], guard := none }) (v := ?_) rfl rfl (by kernel_rfl) (by kernel_rfl) (by kernel_rfl) (by kernel_rfl) (fun _ _ _ h => h) (Or.inl ⟨by kernel_rfl, ?_⟩) st3 ?_
  rotate_left
  · (intro X hX; (try dsimp only at hX); go_simp; try (with_reducible rfl))
  (try simp only [Act.put, List.setIfInBounds_toArray, List.set_cons_zero, List.set_cons_succ])
  refine wpAnyN_one (i := 10) (o := { dst := none, op := Go.Op.store 31 (Go.Operand.tmp 29) (Go.Operand.tmp 27), type := 0, pos := "join.go:55", after := #[{ on := 9, ground := Go.Ground.data }, { on := 7, ground := Go.Ground.data }, { on := 7, ground := Go.Ground.chain }, { on := 0, ground := Go.Ground.phase }, { on := 1, ground := Go.Ground.phase }, { on := 2, ground := Go.Ground.phase }, { on := 3, ground := Go.Ground.phase }, { on := 4, ground := Go.Ground.phase }, { on := 5, ground := Go.Ground.phase }, { on := 6, ground := Go.Ground.phase }, { on := 7, ground := Go.Ground.phase }], guard := none }) (by kernel_rfl) rfl (fun K hK => ?_)
  go_simp
  refine hK.out _ _ (fun e => absurd (e.symm.trans (by kernel_rfl) : false = true) Bool.false_ne_true) ?_
  clear hK K
  (try simp only [Act.put, List.setIfInBounds_toArray, List.set_cons_zero, List.set_cons_succ])
  refine wpAnyN_of_H (S' := fun _ => True) _ _ _ _ (by kernel_rfl) ?_
  refine wpAnyH_done (by kernel_rfl) ?_ _
  go_wp2_with fail
  go_end0
  exact ⟨rfl, _, _, HJ.out⟩
end Go.Proofs.YtliiapdakojomabDoor

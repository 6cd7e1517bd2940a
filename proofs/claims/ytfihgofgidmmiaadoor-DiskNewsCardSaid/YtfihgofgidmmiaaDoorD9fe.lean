/- postbaglaw9: same, of an empty disk. -/
import Derived.Test.YtfihgofgidmmiaaDoorD9fd
namespace Go.Proofs.YtfihgofgidmmiaaDoor
open Go.RowKit Go.Lib Go.Sort

set_option maxHeartbeats 4000000 in
theorem same_none {A : Whys} {w0 w : World} {d qn : Nat} (h : Dk A w0 d ⟨qn, 0, true, []⟩ [] [] w) (q : Int) (hq : q = (qn : Int)) (h1q : 1 ≤ q) :
    Calls Tryd.prog 29 #[.pointer (some ⟨d, 0, none⟩), refD q] w fun e w' => e = .returned (.bool true) ∧ Below w.heap.size w w' := by
  obtain ⟨W1, hW1⟩ : ∃ W1, w.alloc (.cells #[.slice none 0 0, .int .i64 q, .int .i64 0, .slice none 0 0, .int .i64 0, .bool false] 52) = W1 := ⟨_, rfl⟩
  have hb1 : Below w.heap.size w W1 := by rw [← hW1]; exact (Below.refl _ _).alloc (Nat.le_refl _) _
  have ho1 : W1.heap[w.heap.size]? = some (refO q) := by rw [← hW1]; exact heap_alloc_new _ _
  have h1 := h.up hb1
  have HNm : Hid (Calls Tryd.prog 23 #[.pointer (some ⟨d, 0, none⟩)] W1 fun e w' => ∃ la lc, e = .returned (.slice la 0 lc) ∧ Below W1.heap.size W1 w') := Lib.hid (by
    refine (NamesD h1 (by simp)).mono ?_
    rintro e w' ⟨v, Ts, rfl, hp, _, hrow, hb⟩
    have ht : Ts = [] := List.Perm.eq_nil hp
    subst ht
    obtain ⟨a, c, rfl⟩ := ownsRow_shape hrow
    exact ⟨a, c, rfl, hb⟩)
  have HRN : Hid (∀ W, Below W1.heap.size W1 W → Calls Tryd.prog 58 #[refD q] W fun e w' => e = .returned (.slice none 0 0) ∧ Below W1.heap.size W1 w') := Lib.hid (fun W hW => (rNames q W).mono (fun e w' ⟨h1, h2⟩ => ⟨h1, hW.trans (h2.mono hW.size)⟩))
  have HRU : Hid (∀ W, Below W1.heap.size W1 W → Calls Tryd.prog 59 #[refD q] W fun e w' => e = .returned (.int .i64 0) ∧ Below W1.heap.size W1 w') := Lib.hid (fun W hW => (rUsed q W).mono (fun e w' ⟨h1, h2⟩ => ⟨h1, hW.trans (h2.mono hW.size)⟩))
  have HRD : Hid (∀ W, Below W1.heap.size W1 W → Calls Tryd.prog 60 #[refD q] W fun e w' => e = .returned (.bool false) ∧ Below W1.heap.size W1 w') := Lib.hid (fun W hW => (rIsDown q h1q W).mono (fun e w' ⟨h1, h2⟩ => ⟨h1, hW.trans (h2.mono hW.size)⟩))
  have HU : Hid (∀ W, Below W1.heap.size W1 W → Calls Tryd.prog 24 #[.pointer (some ⟨d, 0, none⟩)] W fun e w' => e = .returned (.int .i64 0) ∧ w' = W) := Lib.hid (fun W hW => UsedD (h1.up hW))
  have HQ : Hid (∀ W, Below W1.heap.size W1 W → Calls Tryd.prog 20 #[.pointer (some ⟨d, 0, none⟩)] W fun e w' => e = .returned (.int .i64 q) ∧ w' = W) := Lib.hid (fun W hW => by rw [hq]; exact QuotaD (h1.up hW))
  have HSt : Hid (∀ W, Below W1.heap.size W1 W → Calls Tryd.prog 22 #[.pointer (some ⟨d, 0, none⟩)] W fun e w' => e = .returned (.int .i64 0) ∧ w' = W) := Lib.hid (fun W hW => StepsD (h1.up hW))
  have HDw : Hid (∀ W, Below W1.heap.size W1 W → Calls Tryd.prog 16 #[.pointer (some ⟨d, 0, none⟩)] W fun e w' => e = .returned (.bool false) ∧ w' = W) := Lib.hid (fun W hW => DownD (h1.up hW))
  have HPk : Hid (∀ W n, Below W1.heap.size W1 W → Calls Tryd.prog 61 #[.pointer (some ⟨d, 0, none⟩), refD q, .string n] W fun e w' => e = .returned (.bool true) ∧ Below W1.heap.size W1 w') := Lib.hid (fun W n hW => (peeked_none (h1.up hW) q n).mono (fun e w' ⟨h1, h2⟩ => ⟨h1, hW.trans (h2.mono hW.size)⟩))
  have HB := Lib.hid (Below.refl W1.heap.size W1)
  have HX := Lib.hid (box_ref ho1)
  have HE : Hid (∀ W, Below W1.heap.size W1 W → Below w.heap.size w W) := Lib.hid (fun W hW => hb1.trans (hW.mono hb1.size))
  have HW := Lib.hid hW1
  clear h h1 hW1 hb1 ho1 hq h1q
  unfold refD at *
  go_enter Tryd.func29, Tryd.ntmps29
  go_upto_region 1 with fail
  rw [HW.out]
  go_upto_region 2 with (go_at_call 23; refine HNm.out.mono ?_; rintro e w2 ⟨la, lc, rfl, hb2⟩; have HB2 := Lib.hid hb2; clear hb2)
  obtain ⟨x0, x1, x2, x3, x4, x5⟩ := HX.out w2 HB2.out
  go_upto_region 3 with (go_at_call 58; refine (HRN.out _ HB2.out).mono ?_; rintro e w3 ⟨rfl, hb3⟩; have HB3 := Lib.hid hb3; clear hb3)
  clear x0 x1 x2 x3 x4 x5
  --R same--
  refine wp_region_N 31 (fun X => Below W1.heap.size W1 X) (by kernel_rfl) ?_
  refine wpAnyN_take (i := 0) (oi := { dst := some 13, op := Go.Op.move (Go.Operand.tmp 5), type := 45, pos := "law.go:73", after := #[], guard := none }) (oL := { dst := some 44, op := Go.Op.pick (Go.Operand.tmp 38) (Go.Operand.const (Go.Value.bool true)) (Go.Operand.tmp 43), type := 4, pos := "law.go:73", after := #[{ on := 25, ground := Go.Ground.data }, { on := 30, ground := Go.Ground.data }], guard := none }) (v := .slice la 0 lc) rfl rfl (by kernel_rfl) (by kernel_rfl) (by kernel_rfl) (by kernel_rfl) (fun _ _ _ h => h) (Or.inl ⟨by kernel_rfl, ?_⟩) HB3.out.drew ?_
  · (intro X hX; obtain ⟨z0, z1, z2, z3, z4, z5⟩ := HX.out X hX <;> (go_simp; try (with_reducible rfl)))
  (try simp only [Act.put, List.setIfInBounds_toArray, List.set_cons_zero, List.set_cons_succ])
  refine wpAnyN_take (i := 1) (oi := { dst := some 14, op := Go.Op.move (Go.Operand.tmp 6), type := 45, pos := "law.go:73", after := #[], guard := none }) (oL := { dst := some 44, op := Go.Op.pick (Go.Operand.tmp 38) (Go.Operand.const (Go.Value.bool true)) (Go.Operand.tmp 43), type := 4, pos := "law.go:73", after := #[{ on := 25, ground := Go.Ground.data }, { on := 30, ground := Go.Ground.data }], guard := none }) (v := .slice none 0 0) rfl rfl (by kernel_rfl) (by kernel_rfl) (by kernel_rfl) (by kernel_rfl) (fun _ _ _ h => h) (Or.inl ⟨by kernel_rfl, ?_⟩) HB3.out.drew ?_
  · (intro X hX; obtain ⟨z0, z1, z2, z3, z4, z5⟩ := HX.out X hX <;> (go_simp; try (with_reducible rfl)))
  (try simp only [Act.put, List.setIfInBounds_toArray, List.set_cons_zero, List.set_cons_succ])
  refine wpAnyN_one (i := 2) (o := { dst := some 15, op := Go.Op.call { callee := Go.Callee.value (Go.Operand.func 26), args := #[Go.Operand.tmp 13, Go.Operand.tmp 14], argTypes := #[45, 45] }, type := 4, pos := "law.go:73", after := #[{ on := 0, ground := Go.Ground.data }, { on := 1, ground := Go.Ground.data }], guard := none }) (by kernel_rfl) rfl (fun K hK => ?_)
  go_simp
  refine (texts_none _ _ _ _ _).mono ?_
  rintro e w5 ⟨rfl, hw5⟩
  subst w5
  refine hK.out _ _ (fun _ => HB3.out.drew) ?_
  clear hK K
  (try simp only [Act.put, List.setIfInBounds_toArray, List.set_cons_zero, List.set_cons_succ])
  refine wpAnyN_take (i := 3) (oi := { dst := some 16, op := Go.Op.unOp Go.UnOp.not 4 (Go.Operand.tmp 15), type := 4, pos := "law.go:73", after := #[{ on := 2, ground := Go.Ground.data }], guard := none }) (oL := { dst := some 44, op := Go.Op.pick (Go.Operand.tmp 38) (Go.Operand.const (Go.Value.bool true)) (Go.Operand.tmp 43), type := 4, pos := "law.go:73", after := #[{ on := 25, ground := Go.Ground.data }, { on := 30, ground := Go.Ground.data }], guard := none }) (v := .bool false) rfl rfl (by kernel_rfl) (by kernel_rfl) (by kernel_rfl) (by kernel_rfl) (fun _ _ _ h => h) (Or.inl ⟨by kernel_rfl, ?_⟩) HB3.out.drew ?_
  · (intro X hX; obtain ⟨z0, z1, z2, z3, z4, z5⟩ := HX.out X hX <;> (go_simp; try (with_reducible rfl)))
  (try simp only [Act.put, List.setIfInBounds_toArray, List.set_cons_zero, List.set_cons_succ])
  refine wpAnyN_take (i := 4) (oi := { dst := some 17, op := Go.Op.move (Go.Operand.tmp 16), type := 4, pos := "law.go:73", after := #[{ on := 3, ground := Go.Ground.data }, { on := 2, ground := Go.Ground.chain }], guard := none }) (oL := { dst := some 44, op := Go.Op.pick (Go.Operand.tmp 38) (Go.Operand.const (Go.Value.bool true)) (Go.Operand.tmp 43), type := 4, pos := "law.go:73", after := #[{ on := 25, ground := Go.Ground.data }, { on := 30, ground := Go.Ground.data }], guard := none }) (v := .bool false) rfl rfl (by kernel_rfl) (by kernel_rfl) (by kernel_rfl) (by kernel_rfl) (fun _ _ _ h => h) (Or.inl ⟨by kernel_rfl, ?_⟩) HB3.out.drew ?_
  · (intro X hX; obtain ⟨z0, z1, z2, z3, z4, z5⟩ := HX.out X hX <;> (go_simp; try (with_reducible rfl)))
  (try simp only [Act.put, List.setIfInBounds_toArray, List.set_cons_zero, List.set_cons_succ])
  refine wpAnyN_take (i := 5) (oi := { dst := some 18, op := Go.Op.move (Go.Operand.tmp 0), type := 23, pos := "law.go:73", after := #[{ on := 4, ground := Go.Ground.guard }], guard := some (4, false) }) (oL := { dst := some 44, op := Go.Op.pick (Go.Operand.tmp 38) (Go.Operand.const (Go.Value.bool true)) (Go.Operand.tmp 43), type := 4, pos := "law.go:73", after := #[{ on := 25, ground := Go.Ground.data }, { on := 30, ground := Go.Ground.data }], guard := none }) (v := .pointer (some ⟨d, 0, none⟩)) rfl rfl (by kernel_rfl) (by kernel_rfl) (by kernel_rfl) (by kernel_rfl) (fun _ _ _ h => h) (Or.inl ⟨by kernel_rfl, ?_⟩) HB3.out.drew ?_
  · (intro X hX; obtain ⟨z0, z1, z2, z3, z4, z5⟩ := HX.out X hX <;> (go_simp; try (with_reducible rfl)))
  (try simp only [Act.put, List.setIfInBounds_toArray, List.set_cons_zero, List.set_cons_succ])
  refine wpAnyN_take (i := 7) (oi := { dst := some 20, op := Go.Op.load 52 (Go.Operand.tmp 3), type := 52, pos := "law.go:73", after := #[{ on := 4, ground := Go.Ground.guard }], guard := some (4, false) }) (oL := { dst := some 44, op := Go.Op.pick (Go.Operand.tmp 38) (Go.Operand.const (Go.Value.bool true)) (Go.Operand.tmp 43), type := 4, pos := "law.go:73", after := #[{ on := 25, ground := Go.Ground.data }, { on := 30, ground := Go.Ground.data }], guard := none }) (v := .agg #[.slice none 0 0, .int .i64 q, .int .i64 0, .slice none 0 0, .int .i64 0, .bool false]) rfl rfl (by kernel_rfl) (by kernel_rfl) (by kernel_rfl) (by kernel_rfl) (fun _ _ _ h => h) (Or.inl ⟨by kernel_rfl, ?_⟩) HB3.out.drew ?_
  · (intro X hX; obtain ⟨z0, z1, z2, z3, z4, z5⟩ := HX.out X hX <;> (go_simp; try (with_reducible rfl)))
  (try simp only [Act.put, List.setIfInBounds_toArray, List.set_cons_zero, List.set_cons_succ])
  refine wpAnyN_one (i := 6) (o := { dst := some 19, op := Go.Op.call { callee := Go.Callee.value (Go.Operand.func 24), args := #[Go.Operand.tmp 18], argTypes := #[23] }, type := 3, pos := "law.go:73", after := #[{ on := 5, ground := Go.Ground.data }, { on := 4, ground := Go.Ground.chain }, { on := 4, ground := Go.Ground.guard }], guard := some (4, false) }) (by kernel_rfl) rfl (fun K hK => ?_)
  go_simp
  refine (HU.out _ HB3.out.drew).mono ?_
  rintro e w5 ⟨rfl, hw5⟩
  subst w5
  refine hK.out _ _ (fun _ => HB3.out.drew) ?_
  clear hK K
  (try simp only [Act.put, List.setIfInBounds_toArray, List.set_cons_zero, List.set_cons_succ])
  refine wpAnyN_one (i := 8) (o := { dst := some 21, op := Go.Op.call { callee := Go.Callee.value (Go.Operand.func 59), args := #[Go.Operand.tmp 20], argTypes := #[52] }, type := 3, pos := "law.go:73", after := #[{ on := 7, ground := Go.Ground.data }, { on := 6, ground := Go.Ground.chain }, { on := 4, ground := Go.Ground.guard }], guard := some (4, false) }) (by kernel_rfl) rfl (fun K hK => ?_)
  go_simp
  refine (HRU.out _ HB3.out.drew).mono ?_
  rintro e w6 ⟨rfl, hw6⟩
  have Hw6 := Lib.hid hw6
  clear hw6
  refine hK.out _ _ (fun _ => Hw6.out) ?_
  clear hK K
  (try simp only [Act.put, List.setIfInBounds_toArray, List.set_cons_zero, List.set_cons_succ])
  refine wpAnyN_take (i := 9) (oi := { dst := some 22, op := Go.Op.binOp Go.BinOp.neq 3 (Go.Operand.tmp 19) (Go.Operand.tmp 21) 3, type := 4, pos := "law.go:73", after := #[{ on := 6, ground := Go.Ground.data }, { on := 8, ground := Go.Ground.data }, { on := 4, ground := Go.Ground.guard }], guard := some (4, false) }) (oL := { dst := some 44, op := Go.Op.pick (Go.Operand.tmp 38) (Go.Operand.const (Go.Value.bool true)) (Go.Operand.tmp 43), type := 4, pos := "law.go:73", after := #[{ on := 25, ground := Go.Ground.data }, { on := 30, ground := Go.Ground.data }], guard := none }) (v := .bool false) rfl rfl (by kernel_rfl) (by kernel_rfl) (by kernel_rfl) (by kernel_rfl) (fun _ _ _ h => h) (Or.inl ⟨by kernel_rfl, ?_⟩) Hw6.out ?_
  · (intro X hX; obtain ⟨z0, z1, z2, z3, z4, z5⟩ := HX.out X hX <;> (go_simp; try (with_reducible rfl)))
  (try simp only [Act.put, List.setIfInBounds_toArray, List.set_cons_zero, List.set_cons_succ])
  refine wpAnyN_take (i := 10) (oi := { dst := some 23, op := Go.Op.pick (Go.Operand.tmp 17) (Go.Operand.const (Go.Value.bool true)) (Go.Operand.tmp 22), type := 4, pos := "law.go:73", after := #[{ on := 4, ground := Go.Ground.data }, { on := 9, ground := Go.Ground.data }], guard := none }) (oL := { dst := some 44, op := Go.Op.pick (Go.Operand.tmp 38) (Go.Operand.const (Go.Value.bool true)) (Go.Operand.tmp 43), type := 4, pos := "law.go:73", after := #[{ on := 25, ground := Go.Ground.data }, { on := 30, ground := Go.Ground.data }], guard := none }) (v := .bool false) rfl rfl (by kernel_rfl) (by kernel_rfl) (by kernel_rfl) (by kernel_rfl) (fun _ _ _ h => h) (Or.inl ⟨by kernel_rfl, ?_⟩) Hw6.out ?_
  · (intro X hX; obtain ⟨z0, z1, z2, z3, z4, z5⟩ := HX.out X hX <;> (go_simp; try (with_reducible rfl)))
  (try simp only [Act.put, List.setIfInBounds_toArray, List.set_cons_zero, List.set_cons_succ])
  refine wpAnyN_take (i := 11) (oi := { dst := some 24, op := Go.Op.move (Go.Operand.tmp 23), type := 4, pos := "law.go:73", after := #[{ on := 10, ground := Go.Ground.data }, { on := 8, ground := Go.Ground.chain }], guard := none }) (oL := { dst := some 44, op := Go.Op.pick (Go.Operand.tmp 38) (Go.Operand.const (Go.Value.bool true)) (Go.Operand.tmp 43), type := 4, pos := "law.go:73", after := #[{ on := 25, ground := Go.Ground.data }, { on := 30, ground := Go.Ground.data }], guard := none }) (v := .bool false) rfl rfl (by kernel_rfl) (by kernel_rfl) (by kernel_rfl) (by kernel_rfl) (fun _ _ _ h => h) (Or.inl ⟨by kernel_rfl, ?_⟩) Hw6.out ?_
  · (intro X hX; obtain ⟨z0, z1, z2, z3, z4, z5⟩ := HX.out X hX <;> (go_simp; try (with_reducible rfl)))
  (try simp only [Act.put, List.setIfInBounds_toArray, List.set_cons_zero, List.set_cons_succ])
  refine wpAnyN_take (i := 12) (oi := { dst := some 25, op := Go.Op.move (Go.Operand.tmp 0), type := 23, pos := "law.go:73", after := #[{ on := 11, ground := Go.Ground.guard }], guard := some (11, false) }) (oL := { dst := some 44, op := Go.Op.pick (Go.Operand.tmp 38) (Go.Operand.const (Go.Value.bool true)) (Go.Operand.tmp 43), type := 4, pos := "law.go:73", after := #[{ on := 25, ground := Go.Ground.data }, { on := 30, ground := Go.Ground.data }], guard := none }) (v := .pointer (some ⟨d, 0, none⟩)) rfl rfl (by kernel_rfl) (by kernel_rfl) (by kernel_rfl) (by kernel_rfl) (fun _ _ _ h => h) (Or.inl ⟨by kernel_rfl, ?_⟩) Hw6.out ?_
  · (intro X hX; obtain ⟨z0, z1, z2, z3, z4, z5⟩ := HX.out X hX <;> (go_simp; try (with_reducible rfl)))
  (try simp only [Act.put, List.setIfInBounds_toArray, List.set_cons_zero, List.set_cons_succ])
  refine wpAnyN_take (i := 14) (oi := { dst := some 27, op := Go.Op.fieldAddr 52 (Go.Operand.tmp 3) 1, type := 0, pos := "law.go:73", after := #[{ on := 11, ground := Go.Ground.guard }], guard := some (11, false) }) (oL := { dst := some 44, op := Go.Op.pick (Go.Operand.tmp 38) (Go.Operand.const (Go.Value.bool true)) (Go.Operand.tmp 43), type := 4, pos := "law.go:73", after := #[{ on := 25, ground := Go.Ground.data }, { on := 30, ground := Go.Ground.data }], guard := none }) (v := .pointer (some ⟨w.heap.size, 1, none⟩)) rfl rfl (by kernel_rfl) (by kernel_rfl) (by kernel_rfl) (by kernel_rfl) (fun _ _ _ h => h) (Or.inl ⟨by kernel_rfl, ?_⟩) Hw6.out ?_
  · (intro X hX; obtain ⟨z0, z1, z2, z3, z4, z5⟩ := HX.out X hX <;> (go_simp; try (with_reducible rfl)))
  (try simp only [Act.put, List.setIfInBounds_toArray, List.set_cons_zero, List.set_cons_succ])
  refine wpAnyN_take (i := 15) (oi := { dst := some 28, op := Go.Op.load 3 (Go.Operand.tmp 27), type := 3, pos := "law.go:73", after := #[{ on := 14, ground := Go.Ground.data }, { on := 11, ground := Go.Ground.guard }], guard := some (11, false) }) (oL := { dst := some 44, op := Go.Op.pick (Go.Operand.tmp 38) (Go.Operand.const (Go.Value.bool true)) (Go.Operand.tmp 43), type := 4, pos := "law.go:73", after := #[{ on := 25, ground := Go.Ground.data }, { on := 30, ground := Go.Ground.data }], guard := none }) (v := .int .i64 q) rfl rfl (by kernel_rfl) (by kernel_rfl) (by kernel_rfl) (by kernel_rfl) (fun _ _ _ h => h) (Or.inl ⟨by kernel_rfl, ?_⟩) Hw6.out ?_
  · (intro X hX; obtain ⟨z0, z1, z2, z3, z4, z5⟩ := HX.out X hX <;> (go_simp; try (with_reducible rfl)))
  (try simp only [Act.put, List.setIfInBounds_toArray, List.set_cons_zero, List.set_cons_succ])
  refine wpAnyN_one (i := 13) (o := { dst := some 26, op := Go.Op.call { callee := Go.Callee.value (Go.Operand.func 20), args := #[Go.Operand.tmp 25], argTypes := #[23] }, type := 3, pos := "law.go:73", after := #[{ on := 12, ground := Go.Ground.data }, { on := 11, ground := Go.Ground.chain }, { on := 11, ground := Go.Ground.guard }], guard := some (11, false) }) (by kernel_rfl) rfl (fun K hK => ?_)
  go_simp
  refine (HQ.out _ Hw6.out).mono ?_
  rintro e w5 ⟨rfl, hw5⟩
  subst w5
  refine hK.out _ _ (fun _ => Hw6.out) ?_
  clear hK K
  (try simp only [Act.put, List.setIfInBounds_toArray, List.set_cons_zero, List.set_cons_succ])
  refine wpAnyN_take (i := 16) (oi := { dst := some 29, op := Go.Op.binOp Go.BinOp.neq 3 (Go.Operand.tmp 26) (Go.Operand.tmp 28) 3, type := 4, pos := "law.go:73", after := #[{ on := 13, ground := Go.Ground.data }, { on := 15, ground := Go.Ground.data }, { on := 11, ground := Go.Ground.guard }], guard := some (11, false) }) (oL := { dst := some 44, op := Go.Op.pick (Go.Operand.tmp 38) (Go.Operand.const (Go.Value.bool true)) (Go.Operand.tmp 43), type := 4, pos := "law.go:73", after := #[{ on := 25, ground := Go.Ground.data }, { on := 30, ground := Go.Ground.data }], guard := none }) (v := .bool false) rfl rfl (by kernel_rfl) (by kernel_rfl) (by kernel_rfl) (by kernel_rfl) (fun _ _ _ h => h) (Or.inl ⟨by kernel_rfl, ?_⟩) Hw6.out ?_
  · (intro X hX; obtain ⟨z0, z1, z2, z3, z4, z5⟩ := HX.out X hX <;> (go_simp; try (with_reducible rfl)))
  (try simp only [Act.put, List.setIfInBounds_toArray, List.set_cons_zero, List.set_cons_succ])
  refine wpAnyN_take (i := 17) (oi := { dst := some 30, op := Go.Op.pick (Go.Operand.tmp 24) (Go.Operand.const (Go.Value.bool true)) (Go.Operand.tmp 29), type := 4, pos := "law.go:73", after := #[{ on := 11, ground := Go.Ground.data }, { on := 16, ground := Go.Ground.data }], guard := none }) (oL := { dst := some 44, op := Go.Op.pick (Go.Operand.tmp 38) (Go.Operand.const (Go.Value.bool true)) (Go.Operand.tmp 43), type := 4, pos := "law.go:73", after := #[{ on := 25, ground := Go.Ground.data }, { on := 30, ground := Go.Ground.data }], guard := none }) (v := .bool false) rfl rfl (by kernel_rfl) (by kernel_rfl) (by kernel_rfl) (by kernel_rfl) (fun _ _ _ h => h) (Or.inl ⟨by kernel_rfl, ?_⟩) Hw6.out ?_
  · (intro X hX; obtain ⟨z0, z1, z2, z3, z4, z5⟩ := HX.out X hX <;> (go_simp; try (with_reducible rfl)))
  (try simp only [Act.put, List.setIfInBounds_toArray, List.set_cons_zero, List.set_cons_succ])
  refine wpAnyN_take (i := 18) (oi := { dst := some 31, op := Go.Op.move (Go.Operand.tmp 30), type := 4, pos := "law.go:73", after := #[{ on := 17, ground := Go.Ground.data }, { on := 13, ground := Go.Ground.chain }], guard := none }) (oL := { dst := some 44, op := Go.Op.pick (Go.Operand.tmp 38) (Go.Operand.const (Go.Value.bool true)) (Go.Operand.tmp 43), type := 4, pos := "law.go:73", after := #[{ on := 25, ground := Go.Ground.data }, { on := 30, ground := Go.Ground.data }], guard := none }) (v := .bool false) rfl rfl (by kernel_rfl) (by kernel_rfl) (by kernel_rfl) (by kernel_rfl) (fun _ _ _ h => h) (Or.inl ⟨by kernel_rfl, ?_⟩) Hw6.out ?_
  · (intro X hX; obtain ⟨z0, z1, z2, z3, z4, z5⟩ := HX.out X hX <;> (go_simp; try (with_reducible rfl)))
  (try simp only [Act.put, List.setIfInBounds_toArray, List.set_cons_zero, List.set_cons_succ])
  refine wpAnyN_take (i := 19) (oi := { dst := some 32, op := Go.Op.move (Go.Operand.tmp 0), type := 23, pos := "law.go:73", after := #[{ on := 18, ground := Go.Ground.guard }], guard := some (18, false) }) (oL := { dst := some 44, op := Go.Op.pick (Go.Operand.tmp 38) (Go.Operand.const (Go.Value.bool true)) (Go.Operand.tmp 43), type := 4, pos := "law.go:73", after := #[{ on := 25, ground := Go.Ground.data }, { on := 30, ground := Go.Ground.data }], guard := none }) (v := .pointer (some ⟨d, 0, none⟩)) rfl rfl (by kernel_rfl) (by kernel_rfl) (by kernel_rfl) (by kernel_rfl) (fun _ _ _ h => h) (Or.inl ⟨by kernel_rfl, ?_⟩) Hw6.out ?_
  · (intro X hX; obtain ⟨z0, z1, z2, z3, z4, z5⟩ := HX.out X hX <;> (go_simp; try (with_reducible rfl)))
  (try simp only [Act.put, List.setIfInBounds_toArray, List.set_cons_zero, List.set_cons_succ])
  refine wpAnyN_take (i := 21) (oi := { dst := some 34, op := Go.Op.fieldAddr 52 (Go.Operand.tmp 3) 2, type := 0, pos := "law.go:73", after := #[{ on := 18, ground := Go.Ground.guard }], guard := some (18, false) }) (oL := { dst := some 44, op := Go.Op.pick (Go.Operand.tmp 38) (Go.Operand.const (Go.Value.bool true)) (Go.Operand.tmp 43), type := 4, pos := "law.go:73", after := #[{ on := 25, ground := Go.Ground.data }, { on := 30, ground := Go.Ground.data }], guard := none }) (v := .pointer (some ⟨w.heap.size, 2, none⟩)) rfl rfl (by kernel_rfl) (by kernel_rfl) (by kernel_rfl) (by kernel_rfl) (fun _ _ _ h => h) (Or.inl ⟨by kernel_rfl, ?_⟩) Hw6.out ?_
  · (intro X hX; obtain ⟨z0, z1, z2, z3, z4, z5⟩ := HX.out X hX <;> (go_simp; try (with_reducible rfl)))
  (try simp only [Act.put, List.setIfInBounds_toArray, List.set_cons_zero, List.set_cons_succ])
  refine wpAnyN_take (i := 22) (oi := { dst := some 35, op := Go.Op.load 3 (Go.Operand.tmp 34), type := 3, pos := "law.go:73", after := #[{ on := 21, ground := Go.Ground.data }, { on := 18, ground := Go.Ground.guard }], guard := some (18, false) }) (oL := { dst := some 44, op := Go.Op.pick (Go.Operand.tmp 38) (Go.Operand.const (Go.Value.bool true)) (Go.Operand.tmp 43), type := 4, pos := "law.go:73", after := #[{ on := 25, ground := Go.Ground.data }, { on := 30, ground := Go.Ground.data }], guard := none }) (v := .int .i64 0) rfl rfl (by kernel_rfl) (by kernel_rfl) (by kernel_rfl) (by kernel_rfl) (fun _ _ _ h => h) (Or.inl ⟨by kernel_rfl, ?_⟩) Hw6.out ?_
  · (intro X hX; obtain ⟨z0, z1, z2, z3, z4, z5⟩ := HX.out X hX <;> (go_simp; try (with_reducible rfl)))
  (try simp only [Act.put, List.setIfInBounds_toArray, List.set_cons_zero, List.set_cons_succ])
  refine wpAnyN_one (i := 20) (o := { dst := some 33, op := Go.Op.call { callee := Go.Callee.value (Go.Operand.func 22), args := #[Go.Operand.tmp 32], argTypes := #[23] }, type := 3, pos := "law.go:73", after := #[{ on := 19, ground := Go.Ground.data }, { on := 18, ground := Go.Ground.chain }, { on := 18, ground := Go.Ground.guard }], guard := some (18, false) }) (by kernel_rfl) rfl (fun K hK => ?_)
  go_simp
  refine (HSt.out _ Hw6.out).mono ?_
  rintro e w5 ⟨rfl, hw5⟩
  subst w5
  refine hK.out _ _ (fun _ => Hw6.out) ?_
  clear hK K
  (try simp only [Act.put, List.setIfInBounds_toArray, List.set_cons_zero, List.set_cons_succ])
  refine wpAnyN_take (i := 23) (oi := { dst := some 36, op := Go.Op.binOp Go.BinOp.neq 3 (Go.Operand.tmp 33) (Go.Operand.tmp 35) 3, type := 4, pos := "law.go:73", after := #[{ on := 20, ground := Go.Ground.data }, { on := 22, ground := Go.Ground.data }, { on := 18, ground := Go.Ground.guard }], guard := some (18, false) }) (oL := { dst := some 44, op := Go.Op.pick (Go.Operand.tmp 38) (Go.Operand.const (Go.Value.bool true)) (Go.Operand.tmp 43), type := 4, pos := "law.go:73", after := #[{ on := 25, ground := Go.Ground.data }, { on := 30, ground := Go.Ground.data }], guard := none }) (v := .bool false) rfl rfl (by kernel_rfl) (by kernel_rfl) (by kernel_rfl) (by kernel_rfl) (fun _ _ _ h => h) (Or.inl ⟨by kernel_rfl, ?_⟩) Hw6.out ?_
  · (intro X hX; obtain ⟨z0, z1, z2, z3, z4, z5⟩ := HX.out X hX <;> (go_simp; try (with_reducible rfl)))
  (try simp only [Act.put, List.setIfInBounds_toArray, List.set_cons_zero, List.set_cons_succ])
  refine wpAnyN_take (i := 24) (oi := { dst := some 37, op := Go.Op.pick (Go.Operand.tmp 31) (Go.Operand.const (Go.Value.bool true)) (Go.Operand.tmp 36), type := 4, pos := "law.go:73", after := #[{ on := 18, ground := Go.Ground.data }, { on := 23, ground := Go.Ground.data }], guard := none }) (oL := { dst := some 44, op := Go.Op.pick (Go.Operand.tmp 38) (Go.Operand.const (Go.Value.bool true)) (Go.Operand.tmp 43), type := 4, pos := "law.go:73", after := #[{ on := 25, ground := Go.Ground.data }, { on := 30, ground := Go.Ground.data }], guard := none }) (v := .bool false) rfl rfl (by kernel_rfl) (by kernel_rfl) (by kernel_rfl) (by kernel_rfl) (fun _ _ _ h => h) (Or.inl ⟨by kernel_rfl, ?_⟩) Hw6.out ?_
  · (intro X hX; obtain ⟨z0, z1, z2, z3, z4, z5⟩ := HX.out X hX <;> (go_simp; try (with_reducible rfl)))
  (try simp only [Act.put, List.setIfInBounds_toArray, List.set_cons_zero, List.set_cons_succ])
  refine wpAnyN_take (i := 25) (oi := { dst := some 38, op := Go.Op.move (Go.Operand.tmp 37), type := 4, pos := "law.go:73", after := #[{ on := 24, ground := Go.Ground.data }, { on := 20, ground := Go.Ground.chain }], guard := none }) (oL := { dst := some 44, op := Go.Op.pick (Go.Operand.tmp 38) (Go.Operand.const (Go.Value.bool true)) (Go.Operand.tmp 43), type := 4, pos := "law.go:73", after := #[{ on := 25, ground := Go.Ground.data }, { on := 30, ground := Go.Ground.data }], guard := none }) (v := .bool false) rfl rfl (by kernel_rfl) (by kernel_rfl) (by kernel_rfl) (by kernel_rfl) (fun _ _ _ h => h) (Or.inl ⟨by kernel_rfl, ?_⟩) Hw6.out ?_
  · (intro X hX; obtain ⟨z0, z1, z2, z3, z4, z5⟩ := HX.out X hX <;> (go_simp; try (with_reducible rfl)))
  (try simp only [Act.put, List.setIfInBounds_toArray, List.set_cons_zero, List.set_cons_succ])
  refine wpAnyN_take (i := 26) (oi := { dst := some 39, op := Go.Op.move (Go.Operand.tmp 0), type := 23, pos := "law.go:73", after := #[{ on := 25, ground := Go.Ground.guard }], guard := some (25, false) }) (oL := { dst := some 44, op := Go.Op.pick (Go.Operand.tmp 38) (Go.Operand.const (Go.Value.bool true)) (Go.Operand.tmp 43), type := 4, pos := "law.go:73", after := #[{ on := 25, ground := Go.Ground.data }, { on := 30, ground := Go.Ground.data }], guard := none }) (v := .pointer (some ⟨d, 0, none⟩)) rfl rfl (by kernel_rfl) (by kernel_rfl) (by kernel_rfl) (by kernel_rfl) (fun _ _ _ h => h) (Or.inl ⟨by kernel_rfl, ?_⟩) Hw6.out ?_
  · (intro X hX; obtain ⟨z0, z1, z2, z3, z4, z5⟩ := HX.out X hX <;> (go_simp; try (with_reducible rfl)))
  (try simp only [Act.put, List.setIfInBounds_toArray, List.set_cons_zero, List.set_cons_succ])
  refine wpAnyN_take (i := 28) (oi := { dst := some 41, op := Go.Op.load 52 (Go.Operand.tmp 3), type := 52, pos := "law.go:73", after := #[{ on := 25, ground := Go.Ground.guard }], guard := some (25, false) }) (oL := { dst := some 44, op := Go.Op.pick (Go.Operand.tmp 38) (Go.Operand.const (Go.Value.bool true)) (Go.Operand.tmp 43), type := 4, pos := "law.go:73", after := #[{ on := 25, ground := Go.Ground.data }, { on := 30, ground := Go.Ground.data }], guard := none }) (v := .agg #[.slice none 0 0, .int .i64 q, .int .i64 0, .slice none 0 0, .int .i64 0, .bool false]) rfl rfl (by kernel_rfl) (by kernel_rfl) (by kernel_rfl) (by kernel_rfl) (fun _ _ _ h => h) (Or.inl ⟨by kernel_rfl, ?_⟩) Hw6.out ?_
  · (intro X hX; obtain ⟨z0, z1, z2, z3, z4, z5⟩ := HX.out X hX <;> (go_simp; try (with_reducible rfl)))
  (try simp only [Act.put, List.setIfInBounds_toArray, List.set_cons_zero, List.set_cons_succ])
  refine wpAnyN_one (i := 27) (o := { dst := some 40, op := Go.Op.call { callee := Go.Callee.value (Go.Operand.func 16), args := #[Go.Operand.tmp 39], argTypes := #[23] }, type := 4, pos := "law.go:73", after := #[{ on := 26, ground := Go.Ground.data }, { on := 25, ground := Go.Ground.chain }, { on := 25, ground := Go.Ground.guard }], guard := some (25, false) }) (by kernel_rfl) rfl (fun K hK => ?_)
  go_simp
  refine (HDw.out _ Hw6.out).mono ?_
  rintro e w5 ⟨rfl, hw5⟩
  subst w5
  refine hK.out _ _ (fun _ => Hw6.out) ?_
  clear hK K
  (try simp only [Act.put, List.setIfInBounds_toArray, List.set_cons_zero, List.set_cons_succ])
  refine wpAnyN_one (i := 29) (o := { dst := some 42, op := Go.Op.call { callee := Go.Callee.value (Go.Operand.func 60), args := #[Go.Operand.tmp 41], argTypes := #[52] }, type := 4, pos := "law.go:73", after := #[{ on := 28, ground := Go.Ground.data }, { on := 27, ground := Go.Ground.chain }, { on := 25, ground := Go.Ground.guard }], guard := some (25, false) }) (by kernel_rfl) rfl (fun K hK => ?_)
  go_simp
  refine (HRD.out _ Hw6.out).mono ?_
  rintro e w7 ⟨rfl, hw7⟩
  have Hw7 := Lib.hid hw7
  clear hw7
  refine hK.out _ _ (fun _ => Hw7.out) ?_
  clear hK K
  (try simp only [Act.put, List.setIfInBounds_toArray, List.set_cons_zero, List.set_cons_succ])
  refine wpAnyN_take (i := 30) (oi := { dst := some 43, op := Go.Op.binOp Go.BinOp.neq 4 (Go.Operand.tmp 40) (Go.Operand.tmp 42) 4, type := 4, pos := "law.go:73", after := #[{ on := 27, ground := Go.Ground.data }, { on := 29, ground := Go.Ground.data }, { on := 25, ground := Go.Ground.guard }], guard := some (25, false) }) (oL := { dst := some 44, op := Go.Op.pick (Go.Operand.tmp 38) (Go.Operand.const (Go.Value.bool true)) (Go.Operand.tmp 43), type := 4, pos := "law.go:73", after := #[{ on := 25, ground := Go.Ground.data }, { on := 30, ground := Go.Ground.data }], guard := none }) (v := .bool false) rfl rfl (by kernel_rfl) (by kernel_rfl) (by kernel_rfl) (by kernel_rfl) (fun _ _ _ h => h) (Or.inl ⟨by kernel_rfl, ?_⟩) Hw7.out ?_
  · (intro X hX; obtain ⟨z0, z1, z2, z3, z4, z5⟩ := HX.out X hX <;> (go_simp; try (with_reducible rfl)))
  (try simp only [Act.put, List.setIfInBounds_toArray, List.set_cons_zero, List.set_cons_succ])
  refine wpAnyN_one (i := 31) (o := { dst := some 44, op := Go.Op.pick (Go.Operand.tmp 38) (Go.Operand.const (Go.Value.bool true)) (Go.Operand.tmp 43), type := 4, pos := "law.go:73", after := #[{ on := 25, ground := Go.Ground.data }, { on := 30, ground := Go.Ground.data }], guard := none }) (by kernel_rfl) rfl (fun K hK => ?_)
  go_simp
  refine hK.out _ _ (fun e => absurd (e.symm.trans (by kernel_rfl) : false = true) Bool.false_ne_true) ?_
  clear hK K
  (try simp only [Act.put, List.setIfInBounds_toArray, List.set_cons_zero, List.set_cons_succ])
  refine wpAnyN_of_H (S' := fun _ => True) _ _ _ _ (by kernel_rfl) ?_
  refine wpAnyH_done (by kernel_rfl) ?_ _
  --E same--
  go_wp2_with fail
  refine wp_loop_rounds 1 ?_
  rw [rounds_succ]
  obtain ⟨x0, x1, x2, x3, x4, x5⟩ := HX.out w7 Hw7.out
  go_wp2_with (go_at_call 61; first | (refine (HPk.out _ _ H9.out).mono ?_; rintro e w10 ⟨rfl, hb10⟩; have H10 := Lib.hid hb10; clear hb10) | (refine (HPk.out _ _ H8.out).mono ?_; rintro e w9 ⟨rfl, hb9⟩; obtain ⟨v0, v1, v2, v3, v4, v5⟩ := HX.out w9 hb9; have H9 := Lib.hid hb9; clear hb9) | (refine (HPk.out _ _ Hw7.out).mono ?_; rintro e w8 ⟨rfl, hb8⟩; obtain ⟨y0, y1, y2, y3, y4, y5⟩ := HX.out w8 hb8; have H8 := Lib.hid hb8; clear hb8))
  go_ret
  exact ⟨rfl, HE.out _ H10.out⟩
end Go.Proofs.YtfihgofgidmmiaaDoor

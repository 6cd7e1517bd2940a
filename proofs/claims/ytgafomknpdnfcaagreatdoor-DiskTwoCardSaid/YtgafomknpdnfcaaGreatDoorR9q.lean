/- The document's disk: Do, a stop within it. -/
import Derived.Test.YtgafomknpdnfcaaGreatDoorR9p
import Derived.Test.YtgafomknpdnfcaaGreatDoorM9a
namespace Go.Proofs.YtgafomknpdnfcaaGreatDoor
open Go.RowKit

set_option maxRecDepth 20000 in
set_option maxHeartbeats 4000000 in
theorem rDo_stop1 (fa : Option Addr) (fl fc : Nat) (q st : Int) (g o : Nat) (si : Int) (kd : Int) (nm dst dat : ByteArray) (n : Int) (w : World) (hq0 : q ≠ 0) (hst0 : 0 ≤ st) (hst : st ≤ 1000000000) (hsi0 : 0 ≤ si) (hsi : si ≤ 1000000000) (a y z : Int) (ha : (a == si + 1) = true)
    (hca : ∀ X, Below w.heap.size w X → X.cell? ⟨g, o, none⟩ = some (.int .i64 a)) (hcy : ∀ X, Below w.heap.size w X → X.cell? ⟨g, o + 1, none⟩ = some (.int .i64 y)) (hcz : ∀ X, Below w.heap.size w X → X.cell? ⟨g, o + 2, none⟩ = some (.int .i64 z)) (lp l2 : List PF)
    (hpt : ∀ X, Below w.heap.size w X → Calls Tryz.prog 46 #[rdV (.slice fa fl fc) q (st + 1) (.slice (some ⟨g, o, none⟩) 1 1) (si + 1) false, opV kd nm dst dat n, .int .i64 y] X fun e w' => ∃ v, e = .returned v ∧ FsAt w' v lp ∧ Below X.heap.size X w')
    (hsu : ∀ X v, FsAt X v lp → Calls Tryz.prog 45 #[v, .int .i64 z] X fun e w' => ∃ v', e = .returned v' ∧ OwnF X.heap.size v' l2 X w') :
    Calls Tryz.prog 16 #[rdV (.slice fa fl fc) q st (.slice (some ⟨g, o, none⟩) 1 1) si false, opV kd nm dst dat n] w fun e w' => ∃ v, e = .returned (.tuple #[rdV v q (st + 1) (.slice (some ⟨g, o, none⟩) 0 0) (si + 1) true, .string ⟨#[]⟩, .int .i64 93, .int .i64 (st + 1)]) ∧ FsAt w' v l2 ∧ Below w.heap.size w w' ∧ ∀ b, v.ownBlock = some b → w.heap.size ≤ b := by
  have HPt := Lib.hid hpt
  have HSu := Lib.hid hsu
  have HCa := Lib.hid hca
  have HCy := Lib.hid hcy
  have HCz := Lib.hid hcz
  clear hpt hsu hca hcy hcz
  have h3 := doAt_start w (.slice fa fl fc) q st (.slice (some ⟨g, o, none⟩) 1 1) si false kd nm dst dat n
  obtain ⟨W3, hW3⟩ : ∃ W3, ((w.alloc (.cells #[.slice fa fl fc, .int .i64 q, .int .i64 st, .slice (some ⟨g, o, none⟩) 1 1, .int .i64 si, .bool false] 32)).alloc (.cells #[.int .i64 kd, .string nm, .string dst, .string dat, .int .i64 n] 55)).alloc (.cells #[.slice none 0 0, .int .i64 0, .int .i64 0, .slice none 0 0, .int .i64 0, .bool false] 32) = W3 := ⟨_, rfl⟩
  rw [hW3] at h3
  have HW := Lib.hid hW3
  obtain ⟨x0, x1, x2, x3, x4, x5⟩ := h3.ds
  have H3 := Lib.hid h3
  have HDn := Lib.hid (fun W => rIsDown_any (.slice fa fl fc) q st (.slice (some ⟨g, o, none⟩) 1 1) si false W)
  clear h3 hW3
  rw [show (false || q == 0) = false by rw [Bool.false_or]; exact beq_eq_false_iff_ne.2 hq0] at HDn
  clear hq0
  unfold rdV opV at *
  go_enter Tryz.func16, Tryz.ntmps16
  go_upto_region 1 with fail
  rw [HW.out]
  go_upto_region 3 with (go_at_call 31; refine (HDn.out _).mono ?_; rintro e w4 ⟨rfl, hb4⟩; have HQ := Lib.hid (H3.out.on hb4); clear hb4)
  clear x0 x1 x2 x3 x4 x5
  obtain ⟨x0, x1, x2, x3, x4, x5⟩ := HQ.out.ds
  have f2 := HQ.out.df 2
  have f4 := HQ.out.df 4
  have HQ2 := Lib.hid ((HQ.out.set 2 (.int .i64 (st + 1)) _ (st + 1) _ si false rfl).set 4 (.int .i64 (si + 1)) _ _ _ (si + 1) false rfl)
  clear HQ H3 HW HDn
  go_upto_region 5 with fail
  generalize (w4.setCell ⟨w.heap.size, 2, none⟩ (.int .i64 (st + 1))).setCell ⟨w.heap.size, 4, none⟩ (.int .i64 (si + 1)) = Y at HQ2 ⊢
  clear x0 x1 x2 x3 x4 x5 f2 f4
  obtain ⟨x0, x1, x2, x3, x4, x5⟩ := HQ2.out.ds
  refine wp_region_N 13 (fun X => DoAt w (.slice fa fl fc) q (st + 1) (.slice (some ⟨g, o, none⟩) 1 1) (si + 1) false kd nm dst dat n X) (by kernel_rfl) ?_
  refine wpAnyN_take (i := 0) (oi := { dst := some 21, op := Go.Op.fieldAddr 32 (Go.Operand.tmp 2) 3, type := 0, pos := "ref.go:254", after := #[], guard := none }) (oL := { dst := some 34, op := Go.Op.pick (Go.Operand.tmp 25) (Go.Operand.tmp 33) (Go.Operand.const (Go.Value.bool false)), type := 4, pos := "ref.go:254", after := #[{ on := 4, ground := Go.Ground.data }, { on := 12, ground := Go.Ground.data }], guard := none }) (v := .pointer (some ⟨w.heap.size, 3, none⟩)) rfl rfl (by kernel_rfl) (by kernel_rfl) (by kernel_rfl) (by kernel_rfl) (fun _ _ _ h => h) (Or.inl ⟨by kernel_rfl, ?_⟩) HQ2.out.drew ?_
  · (intro X hX; obtain ⟨x0, x1, x2, x3, x4, x5⟩ := hX.ds; have c0 := HCa.out _ hX.below <;> (go_simp; (try (with_reducible rfl)); (try omega)))
  (try simp only [Act.put, List.setIfInBounds_toArray, List.set_cons_zero, List.set_cons_succ])
  refine wpAnyN_take (i := 1) (oi := { dst := some 22, op := Go.Op.load 30 (Go.Operand.tmp 21), type := 30, pos := "ref.go:254", after := #[{ on := 0, ground := Go.Ground.data }], guard := none }) (oL := { dst := some 34, op := Go.Op.pick (Go.Operand.tmp 25) (Go.Operand.tmp 33) (Go.Operand.const (Go.Value.bool false)), type := 4, pos := "ref.go:254", after := #[{ on := 4, ground := Go.Ground.data }, { on := 12, ground := Go.Ground.data }], guard := none }) (v := .slice (some ⟨g, o, none⟩) 1 1) rfl rfl (by kernel_rfl) (by kernel_rfl) (by kernel_rfl) (by kernel_rfl) (fun _ _ _ h => h) (Or.inl ⟨by kernel_rfl, ?_⟩) HQ2.out.drew ?_
  · (intro X hX; obtain ⟨x0, x1, x2, x3, x4, x5⟩ := hX.ds; have c0 := HCa.out _ hX.below <;> (go_simp; (try (with_reducible rfl)); (try omega)))
  (try simp only [Act.put, List.setIfInBounds_toArray, List.set_cons_zero, List.set_cons_succ])
  refine wpAnyN_take (i := 2) (oi := { dst := some 23, op := Go.Op.call { callee := Go.Callee.builtin Go.Builtin.len, args := #[Go.Operand.tmp 22], argTypes := #[30] }, type := 3, pos := "ref.go:254", after := #[{ on := 1, ground := Go.Ground.data }], guard := none }) (oL := { dst := some 34, op := Go.Op.pick (Go.Operand.tmp 25) (Go.Operand.tmp 33) (Go.Operand.const (Go.Value.bool false)), type := 4, pos := "ref.go:254", after := #[{ on := 4, ground := Go.Ground.data }, { on := 12, ground := Go.Ground.data }], guard := none }) (v := .int .i64 1) rfl rfl (by kernel_rfl) (by kernel_rfl) (by kernel_rfl) (by kernel_rfl) (fun _ _ _ h => h) (Or.inl ⟨by kernel_rfl, ?_⟩) HQ2.out.drew ?_
  · (intro X hX; obtain ⟨x0, x1, x2, x3, x4, x5⟩ := hX.ds; have c0 := HCa.out _ hX.below <;> (go_simp; (try (with_reducible rfl)); (try omega)))
  (try simp only [Act.put, List.setIfInBounds_toArray, List.set_cons_zero, List.set_cons_succ])
  refine wpAnyN_take (i := 3) (oi := { dst := some 24, op := Go.Op.binOp Go.BinOp.gtr 3 (Go.Operand.tmp 23) (Go.Operand.const (Go.Value.int Go.IntKind.i64 0)) 3, type := 4, pos := "ref.go:254", after := #[{ on := 2, ground := Go.Ground.data }], guard := none }) (oL := { dst := some 34, op := Go.Op.pick (Go.Operand.tmp 25) (Go.Operand.tmp 33) (Go.Operand.const (Go.Value.bool false)), type := 4, pos := "ref.go:254", after := #[{ on := 4, ground := Go.Ground.data }, { on := 12, ground := Go.Ground.data }], guard := none }) (v := .bool true) rfl rfl (by kernel_rfl) (by kernel_rfl) (by kernel_rfl) (by kernel_rfl) (fun _ _ _ h => h) (Or.inl ⟨by kernel_rfl, ?_⟩) HQ2.out.drew ?_
  · (intro X hX; obtain ⟨x0, x1, x2, x3, x4, x5⟩ := hX.ds; have c0 := HCa.out _ hX.below <;> (go_simp; (try (with_reducible rfl)); (try omega)))
  (try simp only [Act.put, List.setIfInBounds_toArray, List.set_cons_zero, List.set_cons_succ])
  refine wpAnyN_take (i := 4) (oi := { dst := some 25, op := Go.Op.move (Go.Operand.tmp 24), type := 4, pos := "ref.go:254", after := #[{ on := 3, ground := Go.Ground.data }], guard := none }) (oL := { dst := some 34, op := Go.Op.pick (Go.Operand.tmp 25) (Go.Operand.tmp 33) (Go.Operand.const (Go.Value.bool false)), type := 4, pos := "ref.go:254", after := #[{ on := 4, ground := Go.Ground.data }, { on := 12, ground := Go.Ground.data }], guard := none }) (v := .bool true) rfl rfl (by kernel_rfl) (by kernel_rfl) (by kernel_rfl) (by kernel_rfl) (fun _ _ _ h => h) (Or.inl ⟨by kernel_rfl, ?_⟩) HQ2.out.drew ?_
  · (intro X hX; obtain ⟨x0, x1, x2, x3, x4, x5⟩ := hX.ds; have c0 := HCa.out _ hX.below <;> (go_simp; (try (with_reducible rfl)); (try omega)))
  (try simp only [Act.put, List.setIfInBounds_toArray, List.set_cons_zero, List.set_cons_succ])
  refine wpAnyN_take (i := 5) (oi := { dst := some 26, op := Go.Op.fieldAddr 32 (Go.Operand.tmp 2) 3, type := 0, pos := "ref.go:254", after := #[{ on := 4, ground := Go.Ground.guard }], guard := some (4, true) }) (oL := { dst := some 34, op := Go.Op.pick (Go.Operand.tmp 25) (Go.Operand.tmp 33) (Go.Operand.const (Go.Value.bool false)), type := 4, pos := "ref.go:254", after := #[{ on := 4, ground := Go.Ground.data }, { on := 12, ground := Go.Ground.data }], guard := none }) (v := .pointer (some ⟨w.heap.size, 3, none⟩)) rfl rfl (by kernel_rfl) (by kernel_rfl) (by kernel_rfl) (by kernel_rfl) (fun _ _ _ h => h) (Or.inl ⟨by kernel_rfl, ?_⟩) HQ2.out.drew ?_
  · (intro X hX; obtain ⟨x0, x1, x2, x3, x4, x5⟩ := hX.ds; have c0 := HCa.out _ hX.below <;> (go_simp; (try (with_reducible rfl)); (try omega)))
  (try simp only [Act.put, List.setIfInBounds_toArray, List.set_cons_zero, List.set_cons_succ])
  refine wpAnyN_take (i := 6) (oi := { dst := some 27, op := Go.Op.load 30 (Go.Operand.tmp 26), type := 30, pos := "ref.go:254", after := #[{ on := 5, ground := Go.Ground.data }, { on := 4, ground := Go.Ground.guard }], guard := some (4, true) }) (oL := { dst := some 34, op := Go.Op.pick (Go.Operand.tmp 25) (Go.Operand.tmp 33) (Go.Operand.const (Go.Value.bool false)), type := 4, pos := "ref.go:254", after := #[{ on := 4, ground := Go.Ground.data }, { on := 12, ground := Go.Ground.data }], guard := none }) (v := .slice (some ⟨g, o, none⟩) 1 1) rfl rfl (by kernel_rfl) (by kernel_rfl) (by kernel_rfl) (by kernel_rfl) (fun _ _ _ h => h) (Or.inl ⟨by kernel_rfl, ?_⟩) HQ2.out.drew ?_
  · (intro X hX; obtain ⟨x0, x1, x2, x3, x4, x5⟩ := hX.ds; have c0 := HCa.out _ hX.below <;> (go_simp; (try (with_reducible rfl)); (try omega)))
  (try simp only [Act.put, List.setIfInBounds_toArray, List.set_cons_zero, List.set_cons_succ])
  refine wpAnyN_take (i := 7) (oi := { dst := some 28, op := Go.Op.indexAddr 30 (Go.Operand.tmp 27) (Go.Operand.const (Go.Value.int Go.IntKind.i64 0)), type := 0, pos := "ref.go:254", after := #[{ on := 6, ground := Go.Ground.data }, { on := 4, ground := Go.Ground.guard }], guard := some (4, true) }) (oL := { dst := some 34, op := Go.Op.pick (Go.Operand.tmp 25) (Go.Operand.tmp 33) (Go.Operand.const (Go.Value.bool false)), type := 4, pos := "ref.go:254", after := #[{ on := 4, ground := Go.Ground.data }, { on := 12, ground := Go.Ground.data }], guard := none }) (v := .pointer (some ⟨g, o, none⟩)) rfl rfl (by kernel_rfl) (by kernel_rfl) (by kernel_rfl) (by kernel_rfl) (fun _ _ _ h => h) (Or.inl ⟨by kernel_rfl, ?_⟩) HQ2.out.drew ?_
  · (intro X hX; obtain ⟨x0, x1, x2, x3, x4, x5⟩ := hX.ds; have c0 := HCa.out _ hX.below <;> (go_simp; (try (with_reducible rfl)); (try omega)))
  (try simp only [Act.put, List.setIfInBounds_toArray, List.set_cons_zero, List.set_cons_succ])
  refine wpAnyN_take (i := 8) (oi := { dst := some 29, op := Go.Op.fieldAddr 62 (Go.Operand.tmp 28) 0, type := 0, pos := "ref.go:254", after := #[{ on := 7, ground := Go.Ground.data }, { on := 4, ground := Go.Ground.guard }], guard := some (4, true) }) (oL := { dst := some 34, op := Go.Op.pick (Go.Operand.tmp 25) (Go.Operand.tmp 33) (Go.Operand.const (Go.Value.bool false)), type := 4, pos := "ref.go:254", after := #[{ on := 4, ground := Go.Ground.data }, { on := 12, ground := Go.Ground.data }], guard := none }) (v := .pointer (some ⟨g, o, none⟩)) rfl rfl (by kernel_rfl) (by kernel_rfl) (by kernel_rfl) (by kernel_rfl) (fun _ _ _ h => h) (Or.inl ⟨by kernel_rfl, ?_⟩) HQ2.out.drew ?_
  · (intro X hX; obtain ⟨x0, x1, x2, x3, x4, x5⟩ := hX.ds; have c0 := HCa.out _ hX.below <;> (go_simp; (try (with_reducible rfl)); (try omega)))
  (try simp only [Act.put, List.setIfInBounds_toArray, List.set_cons_zero, List.set_cons_succ])
  refine wpAnyN_take (i := 9) (oi := { dst := some 30, op := Go.Op.load 3 (Go.Operand.tmp 29), type := 3, pos := "ref.go:254", after := #[{ on := 8, ground := Go.Ground.data }, { on := 4, ground := Go.Ground.guard }], guard := some (4, true) }) (oL := { dst := some 34, op := Go.Op.pick (Go.Operand.tmp 25) (Go.Operand.tmp 33) (Go.Operand.const (Go.Value.bool false)), type := 4, pos := "ref.go:254", after := #[{ on := 4, ground := Go.Ground.data }, { on := 12, ground := Go.Ground.data }], guard := none }) (v := .int .i64 a) rfl rfl (by kernel_rfl) (by kernel_rfl) (by kernel_rfl) (by kernel_rfl) (fun _ _ _ h => h) (Or.inl ⟨by kernel_rfl, ?_⟩) HQ2.out.drew ?_
  · (intro X hX; obtain ⟨x0, x1, x2, x3, x4, x5⟩ := hX.ds; have c0 := HCa.out _ hX.below <;> (go_simp; (try (with_reducible rfl)); (try omega)))
  (try simp only [Act.put, List.setIfInBounds_toArray, List.set_cons_zero, List.set_cons_succ])
  refine wpAnyN_take (i := 10) (oi := { dst := some 31, op := Go.Op.fieldAddr 32 (Go.Operand.tmp 2) 4, type := 0, pos := "ref.go:254", after := #[{ on := 4, ground := Go.Ground.guard }], guard := some (4, true) }) (oL := { dst := some 34, op := Go.Op.pick (Go.Operand.tmp 25) (Go.Operand.tmp 33) (Go.Operand.const (Go.Value.bool false)), type := 4, pos := "ref.go:254", after := #[{ on := 4, ground := Go.Ground.data }, { on := 12, ground := Go.Ground.data }], guard := none }) (v := .pointer (some ⟨w.heap.size, 4, none⟩)) rfl rfl (by kernel_rfl) (by kernel_rfl) (by kernel_rfl) (by kernel_rfl) (fun _ _ _ h => h) (Or.inl ⟨by kernel_rfl, ?_⟩) HQ2.out.drew ?_
  · (intro X hX; obtain ⟨x0, x1, x2, x3, x4, x5⟩ := hX.ds; have c0 := HCa.out _ hX.below <;> (go_simp; (try (with_reducible rfl)); (try omega)))
  (try simp only [Act.put, List.setIfInBounds_toArray, List.set_cons_zero, List.set_cons_succ])
  refine wpAnyN_take (i := 11) (oi := { dst := some 32, op := Go.Op.load 3 (Go.Operand.tmp 31), type := 3, pos := "ref.go:254", after := #[{ on := 10, ground := Go.Ground.data }, { on := 4, ground := Go.Ground.guard }], guard := some (4, true) }) (oL := { dst := some 34, op := Go.Op.pick (Go.Operand.tmp 25) (Go.Operand.tmp 33) (Go.Operand.const (Go.Value.bool false)), type := 4, pos := "ref.go:254", after := #[{ on := 4, ground := Go.Ground.data }, { on := 12, ground := Go.Ground.data }], guard := none }) (v := .int .i64 (si + 1)) rfl rfl (by kernel_rfl) (by kernel_rfl) (by kernel_rfl) (by kernel_rfl) (fun _ _ _ h => h) (Or.inl ⟨by kernel_rfl, ?_⟩) HQ2.out.drew ?_
  · (intro X hX; obtain ⟨x0, x1, x2, x3, x4, x5⟩ := hX.ds; have c0 := HCa.out _ hX.below <;> (go_simp; (try (with_reducible rfl)); (try omega)))
  (try simp only [Act.put, List.setIfInBounds_toArray, List.set_cons_zero, List.set_cons_succ])
  refine wpAnyN_take (i := 12) (oi := { dst := some 33, op := Go.Op.binOp Go.BinOp.eql 3 (Go.Operand.tmp 30) (Go.Operand.tmp 32) 3, type := 4, pos := "ref.go:254", after := #[{ on := 9, ground := Go.Ground.data }, { on := 11, ground := Go.Ground.data }, { on := 4, ground := Go.Ground.guard }], guard := some (4, true) }) (oL := { dst := some 34, op := Go.Op.pick (Go.Operand.tmp 25) (Go.Operand.tmp 33) (Go.Operand.const (Go.Value.bool false)), type := 4, pos := "ref.go:254", after := #[{ on := 4, ground := Go.Ground.data }, { on := 12, ground := Go.Ground.data }], guard := none }) (v := .bool true) rfl rfl (by kernel_rfl) (by kernel_rfl) (by kernel_rfl) (by kernel_rfl) (fun _ _ _ h => h) (Or.inl ⟨by kernel_rfl, ?_⟩) HQ2.out.drew ?_
  · (intro X hX; obtain ⟨x0, x1, x2, x3, x4, x5⟩ := hX.ds; have c0 := HCa.out _ hX.below <;> (go_simp; (try (with_reducible rfl)); (try omega)))
  (try simp only [Act.put, List.setIfInBounds_toArray, List.set_cons_zero, List.set_cons_succ])
  refine wpAnyN_one (i := 13) (o := { dst := some 34, op := Go.Op.pick (Go.Operand.tmp 25) (Go.Operand.tmp 33) (Go.Operand.const (Go.Value.bool false)), type := 4, pos := "ref.go:254", after := #[{ on := 4, ground := Go.Ground.data }, { on := 12, ground := Go.Ground.data }], guard := none }) (by kernel_rfl) rfl (fun K hK => ?_)
  go_simp
  refine hK.out _ _ (fun e => absurd (e.symm.trans (by kernel_rfl) : false = true) Bool.false_ne_true) ?_
  clear hK K
  (try simp only [Act.put, List.setIfInBounds_toArray, List.set_cons_zero, List.set_cons_succ])
  refine wpAnyN_of_H (S' := fun _ => True) _ _ _ _ (by kernel_rfl) ?_
  refine wpAnyH_done (by kernel_rfl) ?_ _
  have HQ := Lib.hid HQ2.out.drew
  generalize Y.drew = Y2 at HQ ⊢
  clear x0 x1 x2 x3 x4 x5
  clear HQ2
  obtain ⟨x0, x1, x2, x3, x4, x5⟩ := HQ.out.ds
  obtain ⟨o0, o1, o2, o3, o4⟩ := HQ.out.os
  have c0 := HCa.out _ HQ.out.below
  have c1 := HCy.out _ HQ.out.below
  have c2 := HCz.out _ HQ.out.below
  have HQ4 := Lib.hid (HQ.out.on ((Below.refl Y2.heap.size Y2).alloc (Nat.le_refl _) (.cells #[.int .i64 a, .int .i64 y, .int .i64 z] 62)))
  have HS4 := Lib.hid (heap_alloc_new Y2 (.cells #[.int .i64 a, .int .i64 y, .int .i64 z] 62))
  clear HQ HCa HCy HCz
  go_upto_region 7 with fail
  clear x0 x1 x2 x3 x4 x5 o0 o1 o2 o3 o4 c0 c1 c2
  generalize Y2.heap.size = sb at HS4 ⊢
  generalize Y2.alloc (.cells #[.int .i64 a, .int .i64 y, .int .i64 z] 62) = Y3 at HQ4 HS4 ⊢
  have HQ := Lib.hid (And.intro HQ4.out.drew (show Y3.drew.heap[sb]? = _ from HS4.out))
  clear HQ4 HS4
  refine wp_region_N 9 (fun X => DoAt w (.slice fa fl fc) q (st + 1) (.slice (some ⟨g, o, none⟩) 1 1) (si + 1) false kd nm dst dat n X ∧ X.heap[sb]? = some (.cells #[.int .i64 a, .int .i64 y, .int .i64 z] 62 (0, 0))) (by kernel_rfl) ?_
  refine wpAnyN_take (i := 0) (oi := { dst := some 39, op := Go.Op.load 32 (Go.Operand.tmp 2), type := 32, pos := "ref.go:256", after := #[], guard := none }) (oL := { dst := none, op := Go.Op.store 29 (Go.Operand.tmp 47) (Go.Operand.tmp 46), type := 0, pos := "ref.go:256", after := #[{ on := 8, ground := Go.Ground.data }, { on := 7, ground := Go.Ground.data }, { on := 7, ground := Go.Ground.chain }, { on := 0, ground := Go.Ground.phase }, { on := 1, ground := Go.Ground.phase }, { on := 2, ground := Go.Ground.phase }, { on := 3, ground := Go.Ground.phase }, { on := 4, ground := Go.Ground.phase }, { on := 5, ground := Go.Ground.phase }, { on := 6, ground := Go.Ground.phase }, { on := 7, ground := Go.Ground.phase }], guard := none }) (v := .agg #[.slice fa fl fc, .int .i64 q, .int .i64 (st + 1), .slice (some ⟨g, o, none⟩) 1 1, .int .i64 (si + 1), .bool false]) rfl rfl (by kernel_rfl) (by kernel_rfl) (by kernel_rfl) (by kernel_rfl) (fun _ _ _ h => h) (Or.inl ⟨by kernel_rfl, ?_⟩) HQ.out ?_
  · (intro X hX; obtain ⟨x0, x1, x2, x3, x4, x5⟩ := hX.1.ds; obtain ⟨o0, o1, o2, o3, o4⟩ := hX.1.os; have s1 := cell_of hX.2 1; have s2 := cell_of hX.2 2; simp only [List.getElem?_toArray, List.getElem?_cons_zero, List.getElem?_cons_succ] at s1 s2 <;> (go_simp; try (with_reducible rfl)))
  (try simp only [Act.put, List.setIfInBounds_toArray, List.set_cons_zero, List.set_cons_succ])
  refine wpAnyN_take (i := 1) (oi := { dst := some 40, op := Go.Op.load 55 (Go.Operand.tmp 3), type := 55, pos := "ref.go:256", after := #[], guard := none }) (oL := { dst := none, op := Go.Op.store 29 (Go.Operand.tmp 47) (Go.Operand.tmp 46), type := 0, pos := "ref.go:256", after := #[{ on := 8, ground := Go.Ground.data }, { on := 7, ground := Go.Ground.data }, { on := 7, ground := Go.Ground.chain }, { on := 0, ground := Go.Ground.phase }, { on := 1, ground := Go.Ground.phase }, { on := 2, ground := Go.Ground.phase }, { on := 3, ground := Go.Ground.phase }, { on := 4, ground := Go.Ground.phase }, { on := 5, ground := Go.Ground.phase }, { on := 6, ground := Go.Ground.phase }, { on := 7, ground := Go.Ground.phase }], guard := none }) (v := .agg #[.int .i64 kd, .string nm, .string dst, .string dat, .int .i64 n]) rfl rfl (by kernel_rfl) (by kernel_rfl) (by kernel_rfl) (by kernel_rfl) (fun _ _ _ h => h) (Or.inl ⟨by kernel_rfl, ?_⟩) HQ.out ?_
  · (intro X hX; obtain ⟨x0, x1, x2, x3, x4, x5⟩ := hX.1.ds; obtain ⟨o0, o1, o2, o3, o4⟩ := hX.1.os; have s1 := cell_of hX.2 1; have s2 := cell_of hX.2 2; simp only [List.getElem?_toArray, List.getElem?_cons_zero, List.getElem?_cons_succ] at s1 s2 <;> (go_simp; try (with_reducible rfl)))
  (try simp only [Act.put, List.setIfInBounds_toArray, List.set_cons_zero, List.set_cons_succ])
  refine wpAnyN_take (i := 2) (oi := { dst := some 41, op := Go.Op.fieldAddr 62 (Go.Operand.tmp 8) 1, type := 0, pos := "ref.go:256", after := #[], guard := none }) (oL := { dst := none, op := Go.Op.store 29 (Go.Operand.tmp 47) (Go.Operand.tmp 46), type := 0, pos := "ref.go:256", after := #[{ on := 8, ground := Go.Ground.data }, { on := 7, ground := Go.Ground.data }, { on := 7, ground := Go.Ground.chain }, { on := 0, ground := Go.Ground.phase }, { on := 1, ground := Go.Ground.phase }, { on := 2, ground := Go.Ground.phase }, { on := 3, ground := Go.Ground.phase }, { on := 4, ground := Go.Ground.phase }, { on := 5, ground := Go.Ground.phase }, { on := 6, ground := Go.Ground.phase }, { on := 7, ground := Go.Ground.phase }], guard := none }) (v := .pointer (some ⟨sb, 1, none⟩)) rfl rfl (by kernel_rfl) (by kernel_rfl) (by kernel_rfl) (by kernel_rfl) (fun _ _ _ h => h) (Or.inl ⟨by kernel_rfl, ?_⟩) HQ.out ?_
  · (intro X hX; obtain ⟨x0, x1, x2, x3, x4, x5⟩ := hX.1.ds; obtain ⟨o0, o1, o2, o3, o4⟩ := hX.1.os; have s1 := cell_of hX.2 1; have s2 := cell_of hX.2 2; simp only [List.getElem?_toArray, List.getElem?_cons_zero, List.getElem?_cons_succ] at s1 s2 <;> (go_simp; try (with_reducible rfl)))
  (try simp only [Act.put, List.setIfInBounds_toArray, List.set_cons_zero, List.set_cons_succ])
  refine wpAnyN_take (i := 3) (oi := { dst := some 42, op := Go.Op.load 3 (Go.Operand.tmp 41), type := 3, pos := "ref.go:256", after := #[{ on := 2, ground := Go.Ground.data }], guard := none }) (oL := { dst := none, op := Go.Op.store 29 (Go.Operand.tmp 47) (Go.Operand.tmp 46), type := 0, pos := "ref.go:256", after := #[{ on := 8, ground := Go.Ground.data }, { on := 7, ground := Go.Ground.data }, { on := 7, ground := Go.Ground.chain }, { on := 0, ground := Go.Ground.phase }, { on := 1, ground := Go.Ground.phase }, { on := 2, ground := Go.Ground.phase }, { on := 3, ground := Go.Ground.phase }, { on := 4, ground := Go.Ground.phase }, { on := 5, ground := Go.Ground.phase }, { on := 6, ground := Go.Ground.phase }, { on := 7, ground := Go.Ground.phase }], guard := none }) (v := .int .i64 y) rfl rfl (by kernel_rfl) (by kernel_rfl) (by kernel_rfl) (by kernel_rfl) (fun _ _ _ h => h) (Or.inl ⟨by kernel_rfl, ?_⟩) HQ.out ?_
  · (intro X hX; obtain ⟨x0, x1, x2, x3, x4, x5⟩ := hX.1.ds; obtain ⟨o0, o1, o2, o3, o4⟩ := hX.1.os; have s1 := cell_of hX.2 1; have s2 := cell_of hX.2 2; simp only [List.getElem?_toArray, List.getElem?_cons_zero, List.getElem?_cons_succ] at s1 s2 <;> (go_simp; try (with_reducible rfl)))
  (try simp only [Act.put, List.setIfInBounds_toArray, List.set_cons_zero, List.set_cons_succ])
  refine wpAnyN_take (i := 5) (oi := { dst := some 44, op := Go.Op.fieldAddr 62 (Go.Operand.tmp 8) 2, type := 0, pos := "ref.go:256", after := #[], guard := none }) (oL := { dst := none, op := Go.Op.store 29 (Go.Operand.tmp 47) (Go.Operand.tmp 46), type := 0, pos := "ref.go:256", after := #[{ on := 8, ground := Go.Ground.data }, { on := 7, ground := Go.Ground.data }, { on := 7, ground := Go.Ground.chain }, { on := 0, ground := Go.Ground.phase }, { on := 1, ground := Go.Ground.phase }, { on := 2, ground := Go.Ground.phase }, { on := 3, ground := Go.Ground.phase }, { on := 4, ground := Go.Ground.phase }, { on := 5, ground := Go.Ground.phase }, { on := 6, ground := Go.Ground.phase }, { on := 7, ground := Go.Ground.phase }], guard := none }) (v := .pointer (some ⟨sb, 2, none⟩)) rfl rfl (by kernel_rfl) (by kernel_rfl) (by kernel_rfl) (by kernel_rfl) (fun _ _ _ h => h) (Or.inl ⟨by kernel_rfl, ?_⟩) HQ.out ?_
  · (intro X hX; obtain ⟨x0, x1, x2, x3, x4, x5⟩ := hX.1.ds; obtain ⟨o0, o1, o2, o3, o4⟩ := hX.1.os; have s1 := cell_of hX.2 1; have s2 := cell_of hX.2 2; simp only [List.getElem?_toArray, List.getElem?_cons_zero, List.getElem?_cons_succ] at s1 s2 <;> (go_simp; try (with_reducible rfl)))
  (try simp only [Act.put, List.setIfInBounds_toArray, List.set_cons_zero, List.set_cons_succ])
  refine wpAnyN_take (i := 6) (oi := { dst := some 45, op := Go.Op.load 3 (Go.Operand.tmp 44), type := 3, pos := "ref.go:256", after := #[{ on := 5, ground := Go.Ground.data }], guard := none }) (oL := { dst := none, op := Go.Op.store 29 (Go.Operand.tmp 47) (Go.Operand.tmp 46), type := 0, pos := "ref.go:256", after := #[{ on := 8, ground := Go.Ground.data }, { on := 7, ground := Go.Ground.data }, { on := 7, ground := Go.Ground.chain }, { on := 0, ground := Go.Ground.phase }, { on := 1, ground := Go.Ground.phase }, { on := 2, ground := Go.Ground.phase }, { on := 3, ground := Go.Ground.phase }, { on := 4, ground := Go.Ground.phase }, { on := 5, ground := Go.Ground.phase }, { on := 6, ground := Go.Ground.phase }, { on := 7, ground := Go.Ground.phase }], guard := none }) (v := .int .i64 z) rfl rfl (by kernel_rfl) (by kernel_rfl) (by kernel_rfl) (by kernel_rfl) (fun _ _ _ h => h) (Or.inl ⟨by kernel_rfl, ?_⟩) HQ.out ?_
  · (intro X hX; obtain ⟨x0, x1, x2, x3, x4, x5⟩ := hX.1.ds; obtain ⟨o0, o1, o2, o3, o4⟩ := hX.1.os; have s1 := cell_of hX.2 1; have s2 := cell_of hX.2 2; simp only [List.getElem?_toArray, List.getElem?_cons_zero, List.getElem?_cons_succ] at s1 s2 <;> (go_simp; try (with_reducible rfl)))
  (try simp only [Act.put, List.setIfInBounds_toArray, List.set_cons_zero, List.set_cons_succ])
  refine wpAnyN_one (i := 4) (o := { dst := some 43, op := Go.Op.call { callee := Go.Callee.value (Go.Operand.func 46), args := #[Go.Operand.tmp 39, Go.Operand.tmp 40, Go.Operand.tmp 42], argTypes := #[32, 55, 3] }, type := 29, pos := "ref.go:256", after := #[{ on := 0, ground := Go.Ground.data }, { on := 1, ground := Go.Ground.data }, { on := 3, ground := Go.Ground.data }], guard := none }) (by kernel_rfl) rfl (fun K hK => ?_)
  go_simp
  refine (HPt.out _ HQ.out.1.below).mono ?_
  rintro e w7 ⟨v, rfl, hf7, hb7⟩
  obtain ⟨pa, pc, hv, _⟩ := hf7.form
  subst hv
  have HF7 := Lib.hid hf7
  have HQ7 := Lib.hid (And.intro (HQ.out.1.on hb7) ((hb7.block _ (lt_of_heap HQ.out.2)).trans HQ.out.2))
  clear hb7 hf7
  refine hK.out _ _ (fun _ => HQ7.out) ?_
  clear hK K
  (try simp only [Act.put, List.setIfInBounds_toArray, List.set_cons_zero, List.set_cons_succ])
  refine wpAnyN_one (i := 7) (o := { dst := some 46, op := Go.Op.call { callee := Go.Callee.value (Go.Operand.func 45), args := #[Go.Operand.tmp 43, Go.Operand.tmp 45], argTypes := #[29, 3] }, type := 29, pos := "ref.go:256", after := #[{ on := 4, ground := Go.Ground.data }, { on := 6, ground := Go.Ground.data }, { on := 4, ground := Go.Ground.chain }], guard := none }) (by kernel_rfl) rfl (fun K hK => ?_)
  go_simp
  refine (HSu.out _ _ HF7.out).mono ?_
  rintro e w8 ⟨v, rfl, hO⟩
  obtain ⟨va, vc, rfl⟩ := hO.shape
  have HO := Lib.hid hO
  have HQ8 := Lib.hid (And.intro (HQ7.out.1.on hO.below) ((hO.below.block _ (lt_of_heap HQ7.out.2)).trans HQ7.out.2))
  clear hO
  obtain ⟨y0, y1, y2, y3, y4, y5⟩ := HQ8.out.1.ds
  have f0 := HQ8.out.1.df 0
  clear y1 y2 y3 y4 y5
  refine hK.out _ _ (fun _ => HQ8.out) ?_
  clear hK K
  (try simp only [Act.put, List.setIfInBounds_toArray, List.set_cons_zero, List.set_cons_succ])
  refine wpAnyN_take (i := 8) (oi := { dst := some 47, op := Go.Op.fieldAddr 32 (Go.Operand.tmp 2) 0, type := 0, pos := "ref.go:256", after := #[{ on := 0, ground := Go.Ground.phase }, { on := 1, ground := Go.Ground.phase }, { on := 2, ground := Go.Ground.phase }, { on := 3, ground := Go.Ground.phase }, { on := 4, ground := Go.Ground.phase }, { on := 5, ground := Go.Ground.phase }, { on := 6, ground := Go.Ground.phase }, { on := 7, ground := Go.Ground.phase }], guard := none }) (oL := { dst := none, op := Go.Op.store 29 (Go.Operand.tmp 47) (Go.Operand.tmp 46), type := 0, pos := "ref.go:256", after := #[{ on := 8, ground := Go.Ground.data }, { on := 7, ground := Go.Ground.data }, { on := 7, ground := Go.Ground.chain }, { on := 0, ground := Go.Ground.phase }, { on := 1, ground := Go.Ground.phase }, { on := 2, ground := Go.Ground.phase }, { on := 3, ground := Go.Ground.phase }, { on := 4, ground := Go.Ground.phase }, { on := 5, ground := Go.Ground.phase }, { on := 6, ground := Go.Ground.phase }, { on := 7, ground := Go.Ground.phase }], guard := none }) (v := .pointer (some ⟨w.heap.size, 0, none⟩)) rfl rfl (by kernel_rfl) (by kernel_rfl) (by kernel_rfl) (by kernel_rfl) (fun _ _ _ h => h) (Or.inl ⟨by kernel_rfl, ?_⟩) HQ8.out ?_
  · (intro X hX; obtain ⟨x0, x1, x2, x3, x4, x5⟩ := hX.1.ds; obtain ⟨o0, o1, o2, o3, o4⟩ := hX.1.os; have s1 := cell_of hX.2 1; have s2 := cell_of hX.2 2; simp only [List.getElem?_toArray, List.getElem?_cons_zero, List.getElem?_cons_succ] at s1 s2 <;> (go_simp; try (with_reducible rfl)))
  (try simp only [Act.put, List.setIfInBounds_toArray, List.set_cons_zero, List.set_cons_succ])
  refine wpAnyN_one (i := 9) (o := { dst := none, op := Go.Op.store 29 (Go.Operand.tmp 47) (Go.Operand.tmp 46), type := 0, pos := "ref.go:256", after := #[{ on := 8, ground := Go.Ground.data }, { on := 7, ground := Go.Ground.data }, { on := 7, ground := Go.Ground.chain }, { on := 0, ground := Go.Ground.phase }, { on := 1, ground := Go.Ground.phase }, { on := 2, ground := Go.Ground.phase }, { on := 3, ground := Go.Ground.phase }, { on := 4, ground := Go.Ground.phase }, { on := 5, ground := Go.Ground.phase }, { on := 6, ground := Go.Ground.phase }, { on := 7, ground := Go.Ground.phase }], guard := none }) (by kernel_rfl) rfl (fun K hK => ?_)
  go_simp
  refine hK.out _ _ (fun e => absurd (e.symm.trans (by kernel_rfl) : false = true) Bool.false_ne_true) ?_
  clear hK K
  (try simp only [Act.put, List.setIfInBounds_toArray, List.set_cons_zero, List.set_cons_succ])
  refine wpAnyN_of_H (S' := fun _ => True) _ _ _ _ (by kernel_rfl) ?_
  refine wpAnyH_done (by kernel_rfl) ?_ _
  clear y0 f0
  have HQ9 := Lib.hid (HQ8.out.1.set 0 (.slice va l2.length vc) (.slice va l2.length vc) _ _ _ _ rfl)
  obtain ⟨x0, x1, x2, x3, x4, x5⟩ := HQ9.out.ds
  have f3 := HQ9.out.df 3
  have f5 := HQ9.out.df 5
  have HQA := Lib.hid ((HQ9.out.set 3 (.slice (some ⟨g, o, none⟩) 0 0) _ _ (.slice (some ⟨g, o, none⟩) 0 0) _ _ rfl).set 5 (.bool true) _ _ _ _ true rfl).drew
  have HL : Hid (∀ cs, FsAt ((((w8.setCell ⟨w.heap.size, 0, none⟩ (.slice va l2.length vc)).setCell ⟨w.heap.size, 3, none⟩ (.slice (some ⟨g, o, none⟩) 0 0)).setCell ⟨w.heap.size, 5, none⟩ (.bool true)).drew.setRow (w.heap.size + 1 + 1) cs) (.slice va l2.length vc) l2 ∧ ∀ b, (Value.slice va l2.length vc).ownBlock = some b → w.heap.size ≤ b) := Lib.hid (fun cs => HO.out.last (w := w) HQ7.out.1.room (by simp [World.setRow, World.setCell]) (fun b hb => by rw [setRow_other _ _ _ _ (by omega)]; exact (Below.heap_setCell _ _ _ _ (by show b ≠ w.heap.size; omega)).trans ((Below.heap_setCell _ _ _ _ (by show b ≠ w.heap.size; omega)).trans (Below.heap_setCell _ _ _ _ (by show b ≠ w.heap.size; omega)))))
  clear HO HQ7 HQ8 HQ9 HPt HSu HF7 HQ
  go_upto_region 10 with fail
  clear x0 x1 x2 x3 x4 x5 f3 f5
  generalize ((w8.setCell ⟨w.heap.size, 0, none⟩ (.slice va l2.length vc)).setCell ⟨w.heap.size, 3, none⟩ (.slice (some ⟨g, o, none⟩) 0 0)).setCell ⟨w.heap.size, 5, none⟩ (.bool true) = Y4 at HQA HL ⊢
  have HQ := Lib.hid HQA.out
  clear HQA
  refine wp_region_N 6 (fun X => DoAt w (.slice va l2.length vc) q (st + 1) (.slice (some ⟨g, o, none⟩) 0 0) (si + 1) true kd nm dst dat n X) (by kernel_rfl) ?_
  refine wpAnyN_take (i := 0) (oi := { dst := some 53, op := Go.Op.load 32 (Go.Operand.tmp 2), type := 32, pos := "ref.go:259", after := #[], guard := none }) (oL := { dst := some 7, op := Go.Op.assign (Go.Operand.tmp 55), type := 3, pos := "ref.go:259", after := #[{ on := 2, ground := Go.Ground.data }, { on := 5, ground := Go.Ground.chain }, { on := 0, ground := Go.Ground.phase }, { on := 1, ground := Go.Ground.phase }, { on := 2, ground := Go.Ground.phase }, { on := 3, ground := Go.Ground.phase }, { on := 4, ground := Go.Ground.phase }, { on := 5, ground := Go.Ground.phase }], guard := none }) (v := .agg #[.slice va l2.length vc, .int .i64 q, .int .i64 (st + 1), .slice (some ⟨g, o, none⟩) 0 0, .int .i64 (si + 1), .bool true]) rfl rfl (by kernel_rfl) (by kernel_rfl) (by kernel_rfl) (by kernel_rfl) (fun _ _ _ h => h) (Or.inl ⟨by kernel_rfl, ?_⟩) HQ.out ?_
  · (intro X hX; obtain ⟨x0, x1, x2, x3, x4, x5⟩ := hX.ds; obtain ⟨o0, o1, o2, o3, o4⟩ := hX.os <;> (go_simp; try (with_reducible rfl)))
  (try simp only [Act.put, List.setIfInBounds_toArray, List.set_cons_zero, List.set_cons_succ])
  refine wpAnyN_take (i := 1) (oi := { dst := some 54, op := Go.Op.fieldAddr 32 (Go.Operand.tmp 2) 2, type := 0, pos := "ref.go:259", after := #[{ on := 5, ground := Go.Ground.gcOnly Go.Departure.lateStores }], guard := none }) (oL := { dst := some 7, op := Go.Op.assign (Go.Operand.tmp 55), type := 3, pos := "ref.go:259", after := #[{ on := 2, ground := Go.Ground.data }, { on := 5, ground := Go.Ground.chain }, { on := 0, ground := Go.Ground.phase }, { on := 1, ground := Go.Ground.phase }, { on := 2, ground := Go.Ground.phase }, { on := 3, ground := Go.Ground.phase }, { on := 4, ground := Go.Ground.phase }, { on := 5, ground := Go.Ground.phase }], guard := none }) (v := .pointer (some ⟨w.heap.size, 2, none⟩)) rfl rfl (by kernel_rfl) (by kernel_rfl) (by kernel_rfl) (by kernel_rfl) (fun _ _ _ h => h) (Or.inl ⟨by kernel_rfl, ?_⟩) HQ.out ?_
  · (intro X hX; obtain ⟨x0, x1, x2, x3, x4, x5⟩ := hX.ds; obtain ⟨o0, o1, o2, o3, o4⟩ := hX.os <;> (go_simp; try (with_reducible rfl)))
  (try simp only [Act.put, List.setIfInBounds_toArray, List.set_cons_zero, List.set_cons_succ])
  refine wpAnyN_take (i := 2) (oi := { dst := some 55, op := Go.Op.load 3 (Go.Operand.tmp 54), type := 3, pos := "ref.go:259", after := #[{ on := 1, ground := Go.Ground.data }, { on := 5, ground := Go.Ground.gcOnly Go.Departure.lateStores }], guard := none }) (oL := { dst := some 7, op := Go.Op.assign (Go.Operand.tmp 55), type := 3, pos := "ref.go:259", after := #[{ on := 2, ground := Go.Ground.data }, { on := 5, ground := Go.Ground.chain }, { on := 0, ground := Go.Ground.phase }, { on := 1, ground := Go.Ground.phase }, { on := 2, ground := Go.Ground.phase }, { on := 3, ground := Go.Ground.phase }, { on := 4, ground := Go.Ground.phase }, { on := 5, ground := Go.Ground.phase }], guard := none }) (v := .int .i64 (st + 1)) rfl rfl (by kernel_rfl) (by kernel_rfl) (by kernel_rfl) (by kernel_rfl) (fun _ _ _ h => h) (Or.inl ⟨by kernel_rfl, ?_⟩) HQ.out ?_
  · (intro X hX; obtain ⟨x0, x1, x2, x3, x4, x5⟩ := hX.ds; obtain ⟨o0, o1, o2, o3, o4⟩ := hX.os <;> (go_simp; try (with_reducible rfl)))
  (try simp only [Act.put, List.setIfInBounds_toArray, List.set_cons_zero, List.set_cons_succ])
  refine wpAnyN_one (i := 3) (o := { dst := none, op := Go.Op.store 32 (Go.Operand.tmp 4) (Go.Operand.tmp 53), type := 0, pos := "ref.go:259", after := #[{ on := 0, ground := Go.Ground.data }, { on := 0, ground := Go.Ground.phase }, { on := 1, ground := Go.Ground.textOnly Go.Departure.lateStores }, { on := 2, ground := Go.Ground.textOnly Go.Departure.lateStores }], guard := none }) (by kernel_rfl) rfl (fun K hK => ?_)
  obtain ⟨cs, hr, hz⟩ := HQ.out.r
  refine wp_store_row 32 _ _ rfl (w.heap.size + 1 + 1) #[.slice va l2.length vc, .int .i64 q, .int .i64 (st + 1), .slice (some ⟨g, o, none⟩) 0 0, .int .i64 (si + 1), .bool true] rfl rfl 32 cs hr Tryz.sizeRD hz (by simp [Value.oneCell']) ?_
  clear hr hz
  refine hK.out _ _ (fun _ => (HQ.out.setR _ rfl)) ?_
  clear hK K
  (try simp only [Act.put])
  refine wpAnyN_take (i := 4) (oi := { dst := some 5, op := Go.Op.assign (Go.Operand.const (Go.Value.string { data := #[] })), type := 9, pos := "ref.go:259", after := #[{ on := 3, ground := Go.Ground.chain }, { on := 0, ground := Go.Ground.phase }, { on := 1, ground := Go.Ground.textOnly Go.Departure.lateStores }, { on := 2, ground := Go.Ground.textOnly Go.Departure.lateStores }, { on := 3, ground := Go.Ground.phase }], guard := none }) (oL := { dst := some 7, op := Go.Op.assign (Go.Operand.tmp 55), type := 3, pos := "ref.go:259", after := #[{ on := 2, ground := Go.Ground.data }, { on := 5, ground := Go.Ground.chain }, { on := 0, ground := Go.Ground.phase }, { on := 1, ground := Go.Ground.phase }, { on := 2, ground := Go.Ground.phase }, { on := 3, ground := Go.Ground.phase }, { on := 4, ground := Go.Ground.phase }, { on := 5, ground := Go.Ground.phase }], guard := none }) (v := .string ⟨#[]⟩) rfl rfl (by kernel_rfl) (by kernel_rfl) (by kernel_rfl) (by kernel_rfl) (fun _ _ _ h => h) (Or.inl ⟨by kernel_rfl, ?_⟩) (HQ.out.setR _ rfl) ?_
  · (intro X hX; obtain ⟨x0, x1, x2, x3, x4, x5⟩ := hX.ds; obtain ⟨o0, o1, o2, o3, o4⟩ := hX.os <;> (go_simp; try (with_reducible rfl)))
  (try simp only [Act.put, List.setIfInBounds_toArray, List.set_cons_zero, List.set_cons_succ])
  refine wpAnyN_take (i := 5) (oi := { dst := some 6, op := Go.Op.assign (Go.Operand.const (Go.Value.int Go.IntKind.i64 93)), type := 3, pos := "ref.go:259", after := #[{ on := 4, ground := Go.Ground.chain }, { on := 0, ground := Go.Ground.phase }, { on := 1, ground := Go.Ground.textOnly Go.Departure.lateStores }, { on := 2, ground := Go.Ground.textOnly Go.Departure.lateStores }, { on := 3, ground := Go.Ground.phase }, { on := 4, ground := Go.Ground.phase }], guard := none }) (oL := { dst := some 7, op := Go.Op.assign (Go.Operand.tmp 55), type := 3, pos := "ref.go:259", after := #[{ on := 2, ground := Go.Ground.data }, { on := 5, ground := Go.Ground.chain }, { on := 0, ground := Go.Ground.phase }, { on := 1, ground := Go.Ground.phase }, { on := 2, ground := Go.Ground.phase }, { on := 3, ground := Go.Ground.phase }, { on := 4, ground := Go.Ground.phase }, { on := 5, ground := Go.Ground.phase }], guard := none }) (v := .int .i64 93) rfl rfl (by kernel_rfl) (by kernel_rfl) (by kernel_rfl) (by kernel_rfl) (fun _ _ _ h => h) (Or.inl ⟨by kernel_rfl, ?_⟩) (HQ.out.setR _ rfl) ?_
  · (intro X hX; obtain ⟨x0, x1, x2, x3, x4, x5⟩ := hX.ds; obtain ⟨o0, o1, o2, o3, o4⟩ := hX.os <;> (go_simp; try (with_reducible rfl)))
  (try simp only [Act.put, List.setIfInBounds_toArray, List.set_cons_zero, List.set_cons_succ])
  refine wpAnyN_one (i := 6) (o := { dst := some 7, op := Go.Op.assign (Go.Operand.tmp 55), type := 3, pos := "ref.go:259", after := #[{ on := 2, ground := Go.Ground.data }, { on := 5, ground := Go.Ground.chain }, { on := 0, ground := Go.Ground.phase }, { on := 1, ground := Go.Ground.phase }, { on := 2, ground := Go.Ground.phase }, { on := 3, ground := Go.Ground.phase }, { on := 4, ground := Go.Ground.phase }, { on := 5, ground := Go.Ground.phase }], guard := none }) (by kernel_rfl) rfl (fun K hK => ?_)
  go_simp
  refine hK.out _ _ (fun e => absurd (e.symm.trans (by kernel_rfl) : false = true) Bool.false_ne_true) ?_
  clear hK K
  (try simp only [Act.put, List.setIfInBounds_toArray, List.set_cons_zero, List.set_cons_succ])
  refine wpAnyN_of_H (S' := fun _ => True) _ _ _ _ (by kernel_rfl) ?_
  refine wpAnyH_done (by kernel_rfl) ?_ _
  go_wp2_with fail
  obtain ⟨cs, hr, hz⟩ := HQ.out.r
  refine bodyPost_ret (resD4 rfl _ _ (w.heap.size + 1 + 1) 32 #[.slice va l2.length vc, .int .i64 q, .int .i64 (st + 1), .slice (some ⟨g, o, none⟩) 0 0, .int .i64 (si + 1), .bool true] (0, 0) _ rfl (setRow_heap _ _ _ _ _ _ hr) Tryz.underlying32 rfl Tryz.sizeRD) rfl ?_
  exact ⟨_, rfl, (HL.out _).1, below_setQ HQ.out.below (by omega) _, (HL.out #[]).2⟩
set_option maxRecDepth 20000 in
set_option maxHeartbeats 4000000 in
theorem rDo_stop2 (fa : Option Addr) (fl fc : Nat) (q st : Int) (g o : Nat) (m sc : Nat) (_hc : m + 1 ≤ sc) (_hcl : (1 : Int) ≤ (sc : Int)) (hc1 : ¬ sc = 1) (si : Int) (kd : Int) (nm dst dat : ByteArray) (n : Int) (w : World) (hq0 : q ≠ 0) (hst0 : 0 ≤ st) (hst : st ≤ 1000000000) (hsi0 : 0 ≤ si) (hsi : si ≤ 1000000000) (a y z : Int) (ha : (a == si + 1) = true)
    (hca : ∀ X, Below w.heap.size w X → X.cell? ⟨g, o, none⟩ = some (.int .i64 a)) (hcy : ∀ X, Below w.heap.size w X → X.cell? ⟨g, o + 1, none⟩ = some (.int .i64 y)) (hcz : ∀ X, Below w.heap.size w X → X.cell? ⟨g, o + 2, none⟩ = some (.int .i64 z)) (lp l2 : List PF)
    (hpt : ∀ X, Below w.heap.size w X → Calls Tryz.prog 46 #[rdV (.slice fa fl fc) q (st + 1) (.slice (some ⟨g, o, none⟩) (m + 1) sc) (si + 1) false, opV kd nm dst dat n, .int .i64 y] X fun e w' => ∃ v, e = .returned v ∧ FsAt w' v lp ∧ Below X.heap.size X w')
    (hsu : ∀ X v, FsAt X v lp → Calls Tryz.prog 45 #[v, .int .i64 z] X fun e w' => ∃ v', e = .returned v' ∧ OwnF X.heap.size v' l2 X w') :
    Calls Tryz.prog 16 #[rdV (.slice fa fl fc) q st (.slice (some ⟨g, o, none⟩) (m + 1) sc) si false, opV kd nm dst dat n] w fun e w' => ∃ v, e = .returned (.tuple #[rdV v q (st + 1) (.slice (some ⟨g, o + 3, none⟩) m (sc - 1)) (si + 1) true, .string ⟨#[]⟩, .int .i64 93, .int .i64 (st + 1)]) ∧ FsAt w' v l2 ∧ Below w.heap.size w w' ∧ ∀ b, v.ownBlock = some b → w.heap.size ≤ b := by
  have HPt := Lib.hid hpt
  have HSu := Lib.hid hsu
  have HCa := Lib.hid hca
  have HCy := Lib.hid hcy
  have HCz := Lib.hid hcz
  clear hpt hsu hca hcy hcz
  have h3 := doAt_start w (.slice fa fl fc) q st (.slice (some ⟨g, o, none⟩) (m + 1) sc) si false kd nm dst dat n
  obtain ⟨W3, hW3⟩ : ∃ W3, ((w.alloc (.cells #[.slice fa fl fc, .int .i64 q, .int .i64 st, .slice (some ⟨g, o, none⟩) (m + 1) sc, .int .i64 si, .bool false] 32)).alloc (.cells #[.int .i64 kd, .string nm, .string dst, .string dat, .int .i64 n] 55)).alloc (.cells #[.slice none 0 0, .int .i64 0, .int .i64 0, .slice none 0 0, .int .i64 0, .bool false] 32) = W3 := ⟨_, rfl⟩
  rw [hW3] at h3
  have HW := Lib.hid hW3
  obtain ⟨x0, x1, x2, x3, x4, x5⟩ := h3.ds
  have H3 := Lib.hid h3
  have HDn := Lib.hid (fun W => rIsDown_any (.slice fa fl fc) q st (.slice (some ⟨g, o, none⟩) (m + 1) sc) si false W)
  clear h3 hW3
  rw [show (false || q == 0) = false by rw [Bool.false_or]; exact beq_eq_false_iff_ne.2 hq0] at HDn
  clear hq0
  unfold rdV opV at *
  go_enter Tryz.func16, Tryz.ntmps16
  go_upto_region 1 with fail
  rw [HW.out]
  go_upto_region 3 with (go_at_call 31; refine (HDn.out _).mono ?_; rintro e w4 ⟨rfl, hb4⟩; have HQ := Lib.hid (H3.out.on hb4); clear hb4)
  clear x0 x1 x2 x3 x4 x5
  obtain ⟨x0, x1, x2, x3, x4, x5⟩ := HQ.out.ds
  have f2 := HQ.out.df 2
  have f4 := HQ.out.df 4
  have HQ2 := Lib.hid ((HQ.out.set 2 (.int .i64 (st + 1)) _ (st + 1) _ si false rfl).set 4 (.int .i64 (si + 1)) _ _ _ (si + 1) false rfl)
  clear HQ H3 HW HDn
  go_upto_region 5 with fail
  generalize (w4.setCell ⟨w.heap.size, 2, none⟩ (.int .i64 (st + 1))).setCell ⟨w.heap.size, 4, none⟩ (.int .i64 (si + 1)) = Y at HQ2 ⊢
  clear x0 x1 x2 x3 x4 x5 f2 f4
  obtain ⟨x0, x1, x2, x3, x4, x5⟩ := HQ2.out.ds
  refine wp_region_N 13 (fun X => DoAt w (.slice fa fl fc) q (st + 1) (.slice (some ⟨g, o, none⟩) (m + 1) sc) (si + 1) false kd nm dst dat n X) (by kernel_rfl) ?_
  refine wpAnyN_take (i := 0) (oi := { dst := some 21, op := Go.Op.fieldAddr 32 (Go.Operand.tmp 2) 3, type := 0, pos := "ref.go:254", after := #[], guard := none }) (oL := { dst := some 34, op := Go.Op.pick (Go.Operand.tmp 25) (Go.Operand.tmp 33) (Go.Operand.const (Go.Value.bool false)), type := 4, pos := "ref.go:254", after := #[{ on := 4, ground := Go.Ground.data }, { on := 12, ground := Go.Ground.data }], guard := none }) (v := .pointer (some ⟨w.heap.size, 3, none⟩)) rfl rfl (by kernel_rfl) (by kernel_rfl) (by kernel_rfl) (by kernel_rfl) (fun _ _ _ h => h) (Or.inl ⟨by kernel_rfl, ?_⟩) HQ2.out.drew ?_
  · (intro X hX; obtain ⟨x0, x1, x2, x3, x4, x5⟩ := hX.ds; have c0 := HCa.out _ hX.below <;> (go_simp; (try (with_reducible rfl)); (try omega)))
  (try simp only [Act.put, List.setIfInBounds_toArray, List.set_cons_zero, List.set_cons_succ])
  refine wpAnyN_take (i := 1) (oi := { dst := some 22, op := Go.Op.load 30 (Go.Operand.tmp 21), type := 30, pos := "ref.go:254", after := #[{ on := 0, ground := Go.Ground.data }], guard := none }) (oL := { dst := some 34, op := Go.Op.pick (Go.Operand.tmp 25) (Go.Operand.tmp 33) (Go.Operand.const (Go.Value.bool false)), type := 4, pos := "ref.go:254", after := #[{ on := 4, ground := Go.Ground.data }, { on := 12, ground := Go.Ground.data }], guard := none }) (v := .slice (some ⟨g, o, none⟩) (m + 1) sc) rfl rfl (by kernel_rfl) (by kernel_rfl) (by kernel_rfl) (by kernel_rfl) (fun _ _ _ h => h) (Or.inl ⟨by kernel_rfl, ?_⟩) HQ2.out.drew ?_
  · (intro X hX; obtain ⟨x0, x1, x2, x3, x4, x5⟩ := hX.ds; have c0 := HCa.out _ hX.below <;> (go_simp; (try (with_reducible rfl)); (try omega)))
  (try simp only [Act.put, List.setIfInBounds_toArray, List.set_cons_zero, List.set_cons_succ])
  refine wpAnyN_take (i := 2) (oi := { dst := some 23, op := Go.Op.call { callee := Go.Callee.builtin Go.Builtin.len, args := #[Go.Operand.tmp 22], argTypes := #[30] }, type := 3, pos := "ref.go:254", after := #[{ on := 1, ground := Go.Ground.data }], guard := none }) (oL := { dst := some 34, op := Go.Op.pick (Go.Operand.tmp 25) (Go.Operand.tmp 33) (Go.Operand.const (Go.Value.bool false)), type := 4, pos := "ref.go:254", after := #[{ on := 4, ground := Go.Ground.data }, { on := 12, ground := Go.Ground.data }], guard := none }) (v := .int .i64 ((m + 1 : Nat) : Int)) rfl rfl (by kernel_rfl) (by kernel_rfl) (by kernel_rfl) (by kernel_rfl) (fun _ _ _ h => h) (Or.inl ⟨by kernel_rfl, ?_⟩) HQ2.out.drew ?_
  · (intro X hX; obtain ⟨x0, x1, x2, x3, x4, x5⟩ := hX.ds; have c0 := HCa.out _ hX.below <;> (go_simp; (try (with_reducible rfl)); (try omega)))
  (try simp only [Act.put, List.setIfInBounds_toArray, List.set_cons_zero, List.set_cons_succ])
  refine wpAnyN_take (i := 3) (oi := { dst := some 24, op := Go.Op.binOp Go.BinOp.gtr 3 (Go.Operand.tmp 23) (Go.Operand.const (Go.Value.int Go.IntKind.i64 0)) 3, type := 4, pos := "ref.go:254", after := #[{ on := 2, ground := Go.Ground.data }], guard := none }) (oL := { dst := some 34, op := Go.Op.pick (Go.Operand.tmp 25) (Go.Operand.tmp 33) (Go.Operand.const (Go.Value.bool false)), type := 4, pos := "ref.go:254", after := #[{ on := 4, ground := Go.Ground.data }, { on := 12, ground := Go.Ground.data }], guard := none }) (v := .bool true) rfl rfl (by kernel_rfl) (by kernel_rfl) (by kernel_rfl) (by kernel_rfl) (fun _ _ _ h => h) (Or.inl ⟨by kernel_rfl, ?_⟩) HQ2.out.drew ?_
  · (intro X hX; obtain ⟨x0, x1, x2, x3, x4, x5⟩ := hX.ds; have c0 := HCa.out _ hX.below <;> (go_simp; (try (with_reducible rfl)); (try omega)))
  (try simp only [Act.put, List.setIfInBounds_toArray, List.set_cons_zero, List.set_cons_succ])
  refine wpAnyN_take (i := 4) (oi := { dst := some 25, op := Go.Op.move (Go.Operand.tmp 24), type := 4, pos := "ref.go:254", after := #[{ on := 3, ground := Go.Ground.data }], guard := none }) (oL := { dst := some 34, op := Go.Op.pick (Go.Operand.tmp 25) (Go.Operand.tmp 33) (Go.Operand.const (Go.Value.bool false)), type := 4, pos := "ref.go:254", after := #[{ on := 4, ground := Go.Ground.data }, { on := 12, ground := Go.Ground.data }], guard := none }) (v := .bool true) rfl rfl (by kernel_rfl) (by kernel_rfl) (by kernel_rfl) (by kernel_rfl) (fun _ _ _ h => h) (Or.inl ⟨by kernel_rfl, ?_⟩) HQ2.out.drew ?_
  · (intro X hX; obtain ⟨x0, x1, x2, x3, x4, x5⟩ := hX.ds; have c0 := HCa.out _ hX.below <;> (go_simp; (try (with_reducible rfl)); (try omega)))
  (try simp only [Act.put, List.setIfInBounds_toArray, List.set_cons_zero, List.set_cons_succ])
  refine wpAnyN_take (i := 5) (oi := { dst := some 26, op := Go.Op.fieldAddr 32 (Go.Operand.tmp 2) 3, type := 0, pos := "ref.go:254", after := #[{ on := 4, ground := Go.Ground.guard }], guard := some (4, true) }) (oL := { dst := some 34, op := Go.Op.pick (Go.Operand.tmp 25) (Go.Operand.tmp 33) (Go.Operand.const (Go.Value.bool false)), type := 4, pos := "ref.go:254", after := #[{ on := 4, ground := Go.Ground.data }, { on := 12, ground := Go.Ground.data }], guard := none }) (v := .pointer (some ⟨w.heap.size, 3, none⟩)) rfl rfl (by kernel_rfl) (by kernel_rfl) (by kernel_rfl) (by kernel_rfl) (fun _ _ _ h => h) (Or.inl ⟨by kernel_rfl, ?_⟩) HQ2.out.drew ?_
  · (intro X hX; obtain ⟨x0, x1, x2, x3, x4, x5⟩ := hX.ds; have c0 := HCa.out _ hX.below <;> (go_simp; (try (with_reducible rfl)); (try omega)))
  (try simp only [Act.put, List.setIfInBounds_toArray, List.set_cons_zero, List.set_cons_succ])
  refine wpAnyN_take (i := 6) (oi := { dst := some 27, op := Go.Op.load 30 (Go.Operand.tmp 26), type := 30, pos := "ref.go:254", after := #[{ on := 5, ground := Go.Ground.data }, { on := 4, ground := Go.Ground.guard }], guard := some (4, true) }) (oL := { dst := some 34, op := Go.Op.pick (Go.Operand.tmp 25) (Go.Operand.tmp 33) (Go.Operand.const (Go.Value.bool false)), type := 4, pos := "ref.go:254", after := #[{ on := 4, ground := Go.Ground.data }, { on := 12, ground := Go.Ground.data }], guard := none }) (v := .slice (some ⟨g, o, none⟩) (m + 1) sc) rfl rfl (by kernel_rfl) (by kernel_rfl) (by kernel_rfl) (by kernel_rfl) (fun _ _ _ h => h) (Or.inl ⟨by kernel_rfl, ?_⟩) HQ2.out.drew ?_
  · (intro X hX; obtain ⟨x0, x1, x2, x3, x4, x5⟩ := hX.ds; have c0 := HCa.out _ hX.below <;> (go_simp; (try (with_reducible rfl)); (try omega)))
  (try simp only [Act.put, List.setIfInBounds_toArray, List.set_cons_zero, List.set_cons_succ])
  refine wpAnyN_take (i := 7) (oi := { dst := some 28, op := Go.Op.indexAddr 30 (Go.Operand.tmp 27) (Go.Operand.const (Go.Value.int Go.IntKind.i64 0)), type := 0, pos := "ref.go:254", after := #[{ on := 6, ground := Go.Ground.data }, { on := 4, ground := Go.Ground.guard }], guard := some (4, true) }) (oL := { dst := some 34, op := Go.Op.pick (Go.Operand.tmp 25) (Go.Operand.tmp 33) (Go.Operand.const (Go.Value.bool false)), type := 4, pos := "ref.go:254", after := #[{ on := 4, ground := Go.Ground.data }, { on := 12, ground := Go.Ground.data }], guard := none }) (v := .pointer (some ⟨g, o, none⟩)) rfl rfl (by kernel_rfl) (by kernel_rfl) (by kernel_rfl) (by kernel_rfl) (fun _ _ _ h => h) (Or.inl ⟨by kernel_rfl, ?_⟩) HQ2.out.drew ?_
  · (intro X hX; obtain ⟨x0, x1, x2, x3, x4, x5⟩ := hX.ds; have c0 := HCa.out _ hX.below <;> (go_simp; (try (with_reducible rfl)); (try omega)))
  (try simp only [Act.put, List.setIfInBounds_toArray, List.set_cons_zero, List.set_cons_succ])
  refine wpAnyN_take (i := 8) (oi := { dst := some 29, op := Go.Op.fieldAddr 62 (Go.Operand.tmp 28) 0, type := 0, pos := "ref.go:254", after := #[{ on := 7, ground := Go.Ground.data }, { on := 4, ground := Go.Ground.guard }], guard := some (4, true) }) (oL := { dst := some 34, op := Go.Op.pick (Go.Operand.tmp 25) (Go.Operand.tmp 33) (Go.Operand.const (Go.Value.bool false)), type := 4, pos := "ref.go:254", after := #[{ on := 4, ground := Go.Ground.data }, { on := 12, ground := Go.Ground.data }], guard := none }) (v := .pointer (some ⟨g, o, none⟩)) rfl rfl (by kernel_rfl) (by kernel_rfl) (by kernel_rfl) (by kernel_rfl) (fun _ _ _ h => h) (Or.inl ⟨by kernel_rfl, ?_⟩) HQ2.out.drew ?_
  · (intro X hX; obtain ⟨x0, x1, x2, x3, x4, x5⟩ := hX.ds; have c0 := HCa.out _ hX.below <;> (go_simp; (try (with_reducible rfl)); (try omega)))
  (try simp only [Act.put, List.setIfInBounds_toArray, List.set_cons_zero, List.set_cons_succ])
  refine wpAnyN_take (i := 9) (oi := { dst := some 30, op := Go.Op.load 3 (Go.Operand.tmp 29), type := 3, pos := "ref.go:254", after := #[{ on := 8, ground := Go.Ground.data }, { on := 4, ground := Go.Ground.guard }], guard := some (4, true) }) (oL := { dst := some 34, op := Go.Op.pick (Go.Operand.tmp 25) (Go.Operand.tmp 33) (Go.Operand.const (Go.Value.bool false)), type := 4, pos := "ref.go:254", after := #[{ on := 4, ground := Go.Ground.data }, { on := 12, ground := Go.Ground.data }], guard := none }) (v := .int .i64 a) rfl rfl (by kernel_rfl) (by kernel_rfl) (by kernel_rfl) (by kernel_rfl) (fun _ _ _ h => h) (Or.inl ⟨by kernel_rfl, ?_⟩) HQ2.out.drew ?_
  · (intro X hX; obtain ⟨x0, x1, x2, x3, x4, x5⟩ := hX.ds; have c0 := HCa.out _ hX.below <;> (go_simp; (try (with_reducible rfl)); (try omega)))
  (try simp only [Act.put, List.setIfInBounds_toArray, List.set_cons_zero, List.set_cons_succ])
  refine wpAnyN_take (i := 10) (oi := { dst := some 31, op := Go.Op.fieldAddr 32 (Go.Operand.tmp 2) 4, type := 0, pos := "ref.go:254", after := #[{ on := 4, ground := Go.Ground.guard }], guard := some (4, true) }) (oL := { dst := some 34, op := Go.Op.pick (Go.Operand.tmp 25) (Go.Operand.tmp 33) (Go.Operand.const (Go.Value.bool false)), type := 4, pos := "ref.go:254", after := #[{ on := 4, ground := Go.Ground.data }, { on := 12, ground := Go.Ground.data }], guard := none }) (v := .pointer (some ⟨w.heap.size, 4, none⟩)) rfl rfl (by kernel_rfl) (by kernel_rfl) (by kernel_rfl) (by kernel_rfl) (fun _ _ _ h => h) (Or.inl ⟨by kernel_rfl, ?_⟩) HQ2.out.drew ?_
  · (intro X hX; obtain ⟨x0, x1, x2, x3, x4, x5⟩ := hX.ds; have c0 := HCa.out _ hX.below <;> (go_simp; (try (with_reducible rfl)); (try omega)))
  (try simp only [Act.put, List.setIfInBounds_toArray, List.set_cons_zero, List.set_cons_succ])
  refine wpAnyN_take (i := 11) (oi := { dst := some 32, op := Go.Op.load 3 (Go.Operand.tmp 31), type := 3, pos := "ref.go:254", after := #[{ on := 10, ground := Go.Ground.data }, { on := 4, ground := Go.Ground.guard }], guard := some (4, true) }) (oL := { dst := some 34, op := Go.Op.pick (Go.Operand.tmp 25) (Go.Operand.tmp 33) (Go.Operand.const (Go.Value.bool false)), type := 4, pos := "ref.go:254", after := #[{ on := 4, ground := Go.Ground.data }, { on := 12, ground := Go.Ground.data }], guard := none }) (v := .int .i64 (si + 1)) rfl rfl (by kernel_rfl) (by kernel_rfl) (by kernel_rfl) (by kernel_rfl) (fun _ _ _ h => h) (Or.inl ⟨by kernel_rfl, ?_⟩) HQ2.out.drew ?_
  · (intro X hX; obtain ⟨x0, x1, x2, x3, x4, x5⟩ := hX.ds; have c0 := HCa.out _ hX.below <;> (go_simp; (try (with_reducible rfl)); (try omega)))
  (try simp only [Act.put, List.setIfInBounds_toArray, List.set_cons_zero, List.set_cons_succ])
  refine wpAnyN_take (i := 12) (oi := { dst := some 33, op := Go.Op.binOp Go.BinOp.eql 3 (Go.Operand.tmp 30) (Go.Operand.tmp 32) 3, type := 4, pos := "ref.go:254", after := #[{ on := 9, ground := Go.Ground.data }, { on := 11, ground := Go.Ground.data }, { on := 4, ground := Go.Ground.guard }], guard := some (4, true) }) (oL := { dst := some 34, op := Go.Op.pick (Go.Operand.tmp 25) (Go.Operand.tmp 33) (Go.Operand.const (Go.Value.bool false)), type := 4, pos := "ref.go:254", after := #[{ on := 4, ground := Go.Ground.data }, { on := 12, ground := Go.Ground.data }], guard := none }) (v := .bool true) rfl rfl (by kernel_rfl) (by kernel_rfl) (by kernel_rfl) (by kernel_rfl) (fun _ _ _ h => h) (Or.inl ⟨by kernel_rfl, ?_⟩) HQ2.out.drew ?_
  · (intro X hX; obtain ⟨x0, x1, x2, x3, x4, x5⟩ := hX.ds; have c0 := HCa.out _ hX.below <;> (go_simp; (try (with_reducible rfl)); (try omega)))
  (try simp only [Act.put, List.setIfInBounds_toArray, List.set_cons_zero, List.set_cons_succ])
  refine wpAnyN_one (i := 13) (o := { dst := some 34, op := Go.Op.pick (Go.Operand.tmp 25) (Go.Operand.tmp 33) (Go.Operand.const (Go.Value.bool false)), type := 4, pos := "ref.go:254", after := #[{ on := 4, ground := Go.Ground.data }, { on := 12, ground := Go.Ground.data }], guard := none }) (by kernel_rfl) rfl (fun K hK => ?_)
  go_simp
  refine hK.out _ _ (fun e => absurd (e.symm.trans (by kernel_rfl) : false = true) Bool.false_ne_true) ?_
  clear hK K
  (try simp only [Act.put, List.setIfInBounds_toArray, List.set_cons_zero, List.set_cons_succ])
  refine wpAnyN_of_H (S' := fun _ => True) _ _ _ _ (by kernel_rfl) ?_
  refine wpAnyH_done (by kernel_rfl) ?_ _
  have HQ := Lib.hid HQ2.out.drew
  generalize Y.drew = Y2 at HQ ⊢
  clear x0 x1 x2 x3 x4 x5
  clear HQ2
  obtain ⟨x0, x1, x2, x3, x4, x5⟩ := HQ.out.ds
  obtain ⟨o0, o1, o2, o3, o4⟩ := HQ.out.os
  have c0 := HCa.out _ HQ.out.below
  have c1 := HCy.out _ HQ.out.below
  have c2 := HCz.out _ HQ.out.below
  have HQ4 := Lib.hid (HQ.out.on ((Below.refl Y2.heap.size Y2).alloc (Nat.le_refl _) (.cells #[.int .i64 a, .int .i64 y, .int .i64 z] 62)))
  have HS4 := Lib.hid (heap_alloc_new Y2 (.cells #[.int .i64 a, .int .i64 y, .int .i64 z] 62))
  clear HQ HCa HCy HCz
  go_upto_region 7 with fail
  clear x0 x1 x2 x3 x4 x5 o0 o1 o2 o3 o4 c0 c1 c2
  generalize Y2.heap.size = sb at HS4 ⊢
  generalize Y2.alloc (.cells #[.int .i64 a, .int .i64 y, .int .i64 z] 62) = Y3 at HQ4 HS4 ⊢
  have HQ := Lib.hid (And.intro HQ4.out.drew (show Y3.drew.heap[sb]? = _ from HS4.out))
  clear HQ4 HS4
  refine wp_region_N 9 (fun X => DoAt w (.slice fa fl fc) q (st + 1) (.slice (some ⟨g, o, none⟩) (m + 1) sc) (si + 1) false kd nm dst dat n X ∧ X.heap[sb]? = some (.cells #[.int .i64 a, .int .i64 y, .int .i64 z] 62 (0, 0))) (by kernel_rfl) ?_
  refine wpAnyN_take (i := 0) (oi := { dst := some 39, op := Go.Op.load 32 (Go.Operand.tmp 2), type := 32, pos := "ref.go:256", after := #[], guard := none }) (oL := { dst := none, op := Go.Op.store 29 (Go.Operand.tmp 47) (Go.Operand.tmp 46), type := 0, pos := "ref.go:256", after := #[{ on := 8, ground := Go.Ground.data }, { on := 7, ground := Go.Ground.data }, { on := 7, ground := Go.Ground.chain }, { on := 0, ground := Go.Ground.phase }, { on := 1, ground := Go.Ground.phase }, { on := 2, ground := Go.Ground.phase }, { on := 3, ground := Go.Ground.phase }, { on := 4, ground := Go.Ground.phase }, { on := 5, ground := Go.Ground.phase }, { on := 6, ground := Go.Ground.phase }, { on := 7, ground := Go.Ground.phase }], guard := none }) (v := .agg #[.slice fa fl fc, .int .i64 q, .int .i64 (st + 1), .slice (some ⟨g, o, none⟩) (m + 1) sc, .int .i64 (si + 1), .bool false]) rfl rfl (by kernel_rfl) (by kernel_rfl) (by kernel_rfl) (by kernel_rfl) (fun _ _ _ h => h) (Or.inl ⟨by kernel_rfl, ?_⟩) HQ.out ?_
  · (intro X hX; obtain ⟨x0, x1, x2, x3, x4, x5⟩ := hX.1.ds; obtain ⟨o0, o1, o2, o3, o4⟩ := hX.1.os; have s1 := cell_of hX.2 1; have s2 := cell_of hX.2 2; simp only [List.getElem?_toArray, List.getElem?_cons_zero, List.getElem?_cons_succ] at s1 s2 <;> (go_simp; try (with_reducible rfl)))
  (try simp only [Act.put, List.setIfInBounds_toArray, List.set_cons_zero, List.set_cons_succ])
  refine wpAnyN_take (i := 1) (oi := { dst := some 40, op := Go.Op.load 55 (Go.Operand.tmp 3), type := 55, pos := "ref.go:256", after := #[], guard := none }) (oL := { dst := none, op := Go.Op.store 29 (Go.Operand.tmp 47) (Go.Operand.tmp 46), type := 0, pos := "ref.go:256", after := #[{ on := 8, ground := Go.Ground.data }, { on := 7, ground := Go.Ground.data }, { on := 7, ground := Go.Ground.chain }, { on := 0, ground := Go.Ground.phase }, { on := 1, ground := Go.Ground.phase }, { on := 2, ground := Go.Ground.phase }, { on := 3, ground := Go.Ground.phase }, { on := 4, ground := Go.Ground.phase }, { on := 5, ground := Go.Ground.phase }, { on := 6, ground := Go.Ground.phase }, { on := 7, ground := Go.Ground.phase }], guard := none }) (v := .agg #[.int .i64 kd, .string nm, .string dst, .string dat, .int .i64 n]) rfl rfl (by kernel_rfl) (by kernel_rfl) (by kernel_rfl) (by kernel_rfl) (fun _ _ _ h => h) (Or.inl ⟨by kernel_rfl, ?_⟩) HQ.out ?_
  · (intro X hX; obtain ⟨x0, x1, x2, x3, x4, x5⟩ := hX.1.ds; obtain ⟨o0, o1, o2, o3, o4⟩ := hX.1.os; have s1 := cell_of hX.2 1; have s2 := cell_of hX.2 2; simp only [List.getElem?_toArray, List.getElem?_cons_zero, List.getElem?_cons_succ] at s1 s2 <;> (go_simp; try (with_reducible rfl)))
  (try simp only [Act.put, List.setIfInBounds_toArray, List.set_cons_zero, List.set_cons_succ])
  refine wpAnyN_take (i := 2) (oi := { dst := some 41, op := Go.Op.fieldAddr 62 (Go.Operand.tmp 8) 1, type := 0, pos := "ref.go:256", after := #[], guard := none }) (oL := { dst := none, op := Go.Op.store 29 (Go.Operand.tmp 47) (Go.Operand.tmp 46), type := 0, pos := "ref.go:256", after := #[{ on := 8, ground := Go.Ground.data }, { on := 7, ground := Go.Ground.data }, { on := 7, ground := Go.Ground.chain }, { on := 0, ground := Go.Ground.phase }, { on := 1, ground := Go.Ground.phase }, { on := 2, ground := Go.Ground.phase }, { on := 3, ground := Go.Ground.phase }, { on := 4, ground := Go.Ground.phase }, { on := 5, ground := Go.Ground.phase }, { on := 6, ground := Go.Ground.phase }, { on := 7, ground := Go.Ground.phase }], guard := none }) (v := .pointer (some ⟨sb, 1, none⟩)) rfl rfl (by kernel_rfl) (by kernel_rfl) (by kernel_rfl) (by kernel_rfl) (fun _ _ _ h => h) (Or.inl ⟨by kernel_rfl, ?_⟩) HQ.out ?_
  · (intro X hX; obtain ⟨x0, x1, x2, x3, x4, x5⟩ := hX.1.ds; obtain ⟨o0, o1, o2, o3, o4⟩ := hX.1.os; have s1 := cell_of hX.2 1; have s2 := cell_of hX.2 2; simp only [List.getElem?_toArray, List.getElem?_cons_zero, List.getElem?_cons_succ] at s1 s2 <;> (go_simp; try (with_reducible rfl)))
  (try simp only [Act.put, List.setIfInBounds_toArray, List.set_cons_zero, List.set_cons_succ])
  refine wpAnyN_take (i := 3) (oi := { dst := some 42, op := Go.Op.load 3 (Go.Operand.tmp 41), type := 3, pos := "ref.go:256", after := #[{ on := 2, ground := Go.Ground.data }], guard := none }) (oL := { dst := none, op := Go.Op.store 29 (Go.Operand.tmp 47) (Go.Operand.tmp 46), type := 0, pos := "ref.go:256", after := #[{ on := 8, ground := Go.Ground.data }, { on := 7, ground := Go.Ground.data }, { on := 7, ground := Go.Ground.chain }, { on := 0, ground := Go.Ground.phase }, { on := 1, ground := Go.Ground.phase }, { on := 2, ground := Go.Ground.phase }, { on := 3, ground := Go.Ground.phase }, { on := 4, ground := Go.Ground.phase }, { on := 5, ground := Go.Ground.phase }, { on := 6, ground := Go.Ground.phase }, { on := 7, ground := Go.Ground.phase }], guard := none }) (v := .int .i64 y) rfl rfl (by kernel_rfl) (by kernel_rfl) (by kernel_rfl) (by kernel_rfl) (fun _ _ _ h => h) (Or.inl ⟨by kernel_rfl, ?_⟩) HQ.out ?_
  · (intro X hX; obtain ⟨x0, x1, x2, x3, x4, x5⟩ := hX.1.ds; obtain ⟨o0, o1, o2, o3, o4⟩ := hX.1.os; have s1 := cell_of hX.2 1; have s2 := cell_of hX.2 2; simp only [List.getElem?_toArray, List.getElem?_cons_zero, List.getElem?_cons_succ] at s1 s2 <;> (go_simp; try (with_reducible rfl)))
  (try simp only [Act.put, List.setIfInBounds_toArray, List.set_cons_zero, List.set_cons_succ])
  refine wpAnyN_take (i := 5) (oi := { dst := some 44, op := Go.Op.fieldAddr 62 (Go.Operand.tmp 8) 2, type := 0, pos := "ref.go:256", after := #[], guard := none }) (oL := { dst := none, op := Go.Op.store 29 (Go.Operand.tmp 47) (Go.Operand.tmp 46), type := 0, pos := "ref.go:256", after := #[{ on := 8, ground := Go.Ground.data }, { on := 7, ground := Go.Ground.data }, { on := 7, ground := Go.Ground.chain }, { on := 0, ground := Go.Ground.phase }, { on := 1, ground := Go.Ground.phase }, { on := 2, ground := Go.Ground.phase }, { on := 3, ground := Go.Ground.phase }, { on := 4, ground := Go.Ground.phase }, { on := 5, ground := Go.Ground.phase }, { on := 6, ground := Go.Ground.phase }, { on := 7, ground := Go.Ground.phase }], guard := none }) (v := .pointer (some ⟨sb, 2, none⟩)) rfl rfl (by kernel_rfl) (by kernel_rfl) (by kernel_rfl) (by kernel_rfl) (fun _ _ _ h => h) (Or.inl ⟨by kernel_rfl, ?_⟩) HQ.out ?_
  · (intro X hX; obtain ⟨x0, x1, x2, x3, x4, x5⟩ := hX.1.ds; obtain ⟨o0, o1, o2, o3, o4⟩ := hX.1.os; have s1 := cell_of hX.2 1; have s2 := cell_of hX.2 2; simp only [List.getElem?_toArray, List.getElem?_cons_zero, List.getElem?_cons_succ] at s1 s2 <;> (go_simp; try (with_reducible rfl)))
  (try simp only [Act.put, List.setIfInBounds_toArray, List.set_cons_zero, List.set_cons_succ])
  refine wpAnyN_take (i := 6) (oi := { dst := some 45, op := Go.Op.load 3 (Go.Operand.tmp 44), type := 3, pos := "ref.go:256", after := #[{ on := 5, ground := Go.Ground.data }], guard := none }) (oL := { dst := none, op := Go.Op.store 29 (Go.Operand.tmp 47) (Go.Operand.tmp 46), type := 0, pos := "ref.go:256", after := #[{ on := 8, ground := Go.Ground.data }, { on := 7, ground := Go.Ground.data }, { on := 7, ground := Go.Ground.chain }, { on := 0, ground := Go.Ground.phase }, { on := 1, ground := Go.Ground.phase }, { on := 2, ground := Go.Ground.phase }, { on := 3, ground := Go.Ground.phase }, { on := 4, ground := Go.Ground.phase }, { on := 5, ground := Go.Ground.phase }, { on := 6, ground := Go.Ground.phase }, { on := 7, ground := Go.Ground.phase }], guard := none }) (v := .int .i64 z) rfl rfl (by kernel_rfl) (by kernel_rfl) (by kernel_rfl) (by kernel_rfl) (fun _ _ _ h => h) (Or.inl ⟨by kernel_rfl, ?_⟩) HQ.out ?_
  · (intro X hX; obtain ⟨x0, x1, x2, x3, x4, x5⟩ := hX.1.ds; obtain ⟨o0, o1, o2, o3, o4⟩ := hX.1.os; have s1 := cell_of hX.2 1; have s2 := cell_of hX.2 2; simp only [List.getElem?_toArray, List.getElem?_cons_zero, List.getElem?_cons_succ] at s1 s2 <;> (go_simp; try (with_reducible rfl)))
  (try simp only [Act.put, List.setIfInBounds_toArray, List.set_cons_zero, List.set_cons_succ])
  refine wpAnyN_one (i := 4) (o := { dst := some 43, op := Go.Op.call { callee := Go.Callee.value (Go.Operand.func 46), args := #[Go.Operand.tmp 39, Go.Operand.tmp 40, Go.Operand.tmp 42], argTypes := #[32, 55, 3] }, type := 29, pos := "ref.go:256", after := #[{ on := 0, ground := Go.Ground.data }, { on := 1, ground := Go.Ground.data }, { on := 3, ground := Go.Ground.data }], guard := none }) (by kernel_rfl) rfl (fun K hK => ?_)
  go_simp
  refine (HPt.out _ HQ.out.1.below).mono ?_
  rintro e w7 ⟨v, rfl, hf7, hb7⟩
  obtain ⟨pa, pc, hv, _⟩ := hf7.form
  subst hv
  have HF7 := Lib.hid hf7
  have HQ7 := Lib.hid (And.intro (HQ.out.1.on hb7) ((hb7.block _ (lt_of_heap HQ.out.2)).trans HQ.out.2))
  clear hb7 hf7
  refine hK.out _ _ (fun _ => HQ7.out) ?_
  clear hK K
  (try simp only [Act.put, List.setIfInBounds_toArray, List.set_cons_zero, List.set_cons_succ])
  refine wpAnyN_one (i := 7) (o := { dst := some 46, op := Go.Op.call { callee := Go.Callee.value (Go.Operand.func 45), args := #[Go.Operand.tmp 43, Go.Operand.tmp 45], argTypes := #[29, 3] }, type := 29, pos := "ref.go:256", after := #[{ on := 4, ground := Go.Ground.data }, { on := 6, ground := Go.Ground.data }, { on := 4, ground := Go.Ground.chain }], guard := none }) (by kernel_rfl) rfl (fun K hK => ?_)
  go_simp
  refine (HSu.out _ _ HF7.out).mono ?_
  rintro e w8 ⟨v, rfl, hO⟩
  obtain ⟨va, vc, rfl⟩ := hO.shape
  have HO := Lib.hid hO
  have HQ8 := Lib.hid (And.intro (HQ7.out.1.on hO.below) ((hO.below.block _ (lt_of_heap HQ7.out.2)).trans HQ7.out.2))
  clear hO
  obtain ⟨y0, y1, y2, y3, y4, y5⟩ := HQ8.out.1.ds
  have f0 := HQ8.out.1.df 0
  clear y1 y2 y3 y4 y5
  refine hK.out _ _ (fun _ => HQ8.out) ?_
  clear hK K
  (try simp only [Act.put, List.setIfInBounds_toArray, List.set_cons_zero, List.set_cons_succ])
  refine wpAnyN_take (i := 8) (oi := { dst := some 47, op := Go.Op.fieldAddr 32 (Go.Operand.tmp 2) 0, type := 0, pos := "ref.go:256", after := #[{ on := 0, ground := Go.Ground.phase }, { on := 1, ground := Go.Ground.phase }, { on := 2, ground := Go.Ground.phase }, { on := 3, ground := Go.Ground.phase }, { on := 4, ground := Go.Ground.phase }, { on := 5, ground := Go.Ground.phase }, { on := 6, ground := Go.Ground.phase }, { on := 7, ground := Go.Ground.phase }], guard := none }) (oL := { dst := none, op := Go.Op.store 29 (Go.Operand.tmp 47) (Go.Operand.tmp 46), type := 0, pos := "ref.go:256", after := #[{ on := 8, ground := Go.Ground.data }, { on := 7, ground := Go.Ground.data }, { on := 7, ground := Go.Ground.chain }, { on := 0, ground := Go.Ground.phase }, { on := 1, ground := Go.Ground.phase }, { on := 2, ground := Go.Ground.phase }, { on := 3, ground := Go.Ground.phase }, { on := 4, ground := Go.Ground.phase }, { on := 5, ground := Go.Ground.phase }, { on := 6, ground := Go.Ground.phase }, { on := 7, ground := Go.Ground.phase }], guard := none }) (v := .pointer (some ⟨w.heap.size, 0, none⟩)) rfl rfl (by kernel_rfl) (by kernel_rfl) (by kernel_rfl) (by kernel_rfl) (fun _ _ _ h => h) (Or.inl ⟨by kernel_rfl, ?_⟩) HQ8.out ?_
  · (intro X hX; obtain ⟨x0, x1, x2, x3, x4, x5⟩ := hX.1.ds; obtain ⟨o0, o1, o2, o3, o4⟩ := hX.1.os; have s1 := cell_of hX.2 1; have s2 := cell_of hX.2 2; simp only [List.getElem?_toArray, List.getElem?_cons_zero, List.getElem?_cons_succ] at s1 s2 <;> (go_simp; try (with_reducible rfl)))
  (try simp only [Act.put, List.setIfInBounds_toArray, List.set_cons_zero, List.set_cons_succ])
  refine wpAnyN_one (i := 9) (o := { dst := none, op := Go.Op.store 29 (Go.Operand.tmp 47) (Go.Operand.tmp 46), type := 0, pos := "ref.go:256", after := #[{ on := 8, ground := Go.Ground.data }, { on := 7, ground := Go.Ground.data }, { on := 7, ground := Go.Ground.chain }, { on := 0, ground := Go.Ground.phase }, { on := 1, ground := Go.Ground.phase }, { on := 2, ground := Go.Ground.phase }, { on := 3, ground := Go.Ground.phase }, { on := 4, ground := Go.Ground.phase }, { on := 5, ground := Go.Ground.phase }, { on := 6, ground := Go.Ground.phase }, { on := 7, ground := Go.Ground.phase }], guard := none }) (by kernel_rfl) rfl (fun K hK => ?_)
  go_simp
  refine hK.out _ _ (fun e => absurd (e.symm.trans (by kernel_rfl) : false = true) Bool.false_ne_true) ?_
  clear hK K
  (try simp only [Act.put, List.setIfInBounds_toArray, List.set_cons_zero, List.set_cons_succ])
  refine wpAnyN_of_H (S' := fun _ => True) _ _ _ _ (by kernel_rfl) ?_
  refine wpAnyH_done (by kernel_rfl) ?_ _
  clear y0 f0
  have HQ9 := Lib.hid (HQ8.out.1.set 0 (.slice va l2.length vc) (.slice va l2.length vc) _ _ _ _ rfl)
  obtain ⟨x0, x1, x2, x3, x4, x5⟩ := HQ9.out.ds
  have f3 := HQ9.out.df 3
  have f5 := HQ9.out.df 5
  have HQA := Lib.hid ((HQ9.out.set 3 (.slice (some ⟨g, o + 3, none⟩) m (sc - 1)) _ _ (.slice (some ⟨g, o + 3, none⟩) m (sc - 1)) _ _ rfl).set 5 (.bool true) _ _ _ _ true rfl).drew
  have HL : Hid (∀ cs, FsAt ((((w8.setCell ⟨w.heap.size, 0, none⟩ (.slice va l2.length vc)).setCell ⟨w.heap.size, 3, none⟩ (.slice (some ⟨g, o + 3, none⟩) m (sc - 1))).setCell ⟨w.heap.size, 5, none⟩ (.bool true)).drew.setRow (w.heap.size + 1 + 1) cs) (.slice va l2.length vc) l2 ∧ ∀ b, (Value.slice va l2.length vc).ownBlock = some b → w.heap.size ≤ b) := Lib.hid (fun cs => HO.out.last (w := w) HQ7.out.1.room (by simp [World.setRow, World.setCell]) (fun b hb => by rw [setRow_other _ _ _ _ (by omega)]; exact (Below.heap_setCell _ _ _ _ (by show b ≠ w.heap.size; omega)).trans ((Below.heap_setCell _ _ _ _ (by show b ≠ w.heap.size; omega)).trans (Below.heap_setCell _ _ _ _ (by show b ≠ w.heap.size; omega)))))
  clear HO HQ7 HQ8 HQ9 HPt HSu HF7 HQ
  go_upto_region 10 with fail
  clear x0 x1 x2 x3 x4 x5 f3 f5
  generalize ((w8.setCell ⟨w.heap.size, 0, none⟩ (.slice va l2.length vc)).setCell ⟨w.heap.size, 3, none⟩ (.slice (some ⟨g, o + 3, none⟩) m (sc - 1))).setCell ⟨w.heap.size, 5, none⟩ (.bool true) = Y4 at HQA HL ⊢
  have HQ := Lib.hid HQA.out
  clear HQA
  refine wp_region_N 6 (fun X => DoAt w (.slice va l2.length vc) q (st + 1) (.slice (some ⟨g, o + 3, none⟩) m (sc - 1)) (si + 1) true kd nm dst dat n X) (by kernel_rfl) ?_
  refine wpAnyN_take (i := 0) (oi := { dst := some 53, op := Go.Op.load 32 (Go.Operand.tmp 2), type := 32, pos := "ref.go:259", after := #[], guard := none }) (oL := { dst := some 7, op := Go.Op.assign (Go.Operand.tmp 55), type := 3, pos := "ref.go:259", after := #[{ on := 2, ground := Go.Ground.data }, { on := 5, ground := Go.Ground.chain }, { on := 0, ground := Go.Ground.phase }, { on := 1, ground := Go.Ground.phase }, { on := 2, ground := Go.Ground.phase }, { on := 3, ground := Go.Ground.phase }, { on := 4, ground := Go.Ground.phase }, { on := 5, ground := Go.Ground.phase }], guard := none }) (v := .agg #[.slice va l2.length vc, .int .i64 q, .int .i64 (st + 1), .slice (some ⟨g, o + 3, none⟩) m (sc - 1), .int .i64 (si + 1), .bool true]) rfl rfl (by kernel_rfl) (by kernel_rfl) (by kernel_rfl) (by kernel_rfl) (fun _ _ _ h => h) (Or.inl ⟨by kernel_rfl, ?_⟩) HQ.out ?_
  · (intro X hX; obtain ⟨x0, x1, x2, x3, x4, x5⟩ := hX.ds; obtain ⟨o0, o1, o2, o3, o4⟩ := hX.os <;> (go_simp; try (with_reducible rfl)))
  (try simp only [Act.put, List.setIfInBounds_toArray, List.set_cons_zero, List.set_cons_succ])
  refine wpAnyN_take (i := 1) (oi := { dst := some 54, op := Go.Op.fieldAddr 32 (Go.Operand.tmp 2) 2, type := 0, pos := "ref.go:259", after := #[{ on := 5, ground := Go.Ground.gcOnly Go.Departure.lateStores }], guard := none }) (oL := { dst := some 7, op := Go.Op.assign (Go.Operand.tmp 55), type := 3, pos := "ref.go:259", after := #[{ on := 2, ground := Go.Ground.data }, { on := 5, ground := Go.Ground.chain }, { on := 0, ground := Go.Ground.phase }, { on := 1, ground := Go.Ground.phase }, { on := 2, ground := Go.Ground.phase }, { on := 3, ground := Go.Ground.phase }, { on := 4, ground := Go.Ground.phase }, { on := 5, ground := Go.Ground.phase }], guard := none }) (v := .pointer (some ⟨w.heap.size, 2, none⟩)) rfl rfl (by kernel_rfl) (by kernel_rfl) (by kernel_rfl) (by kernel_rfl) (fun _ _ _ h => h) (Or.inl ⟨by kernel_rfl, ?_⟩) HQ.out ?_
  · (intro X hX; obtain ⟨x0, x1, x2, x3, x4, x5⟩ := hX.ds; obtain ⟨o0, o1, o2, o3, o4⟩ := hX.os <;> (go_simp; try (with_reducible rfl)))
  (try simp only [Act.put, List.setIfInBounds_toArray, List.set_cons_zero, List.set_cons_succ])
  refine wpAnyN_take (i := 2) (oi := { dst := some 55, op := Go.Op.load 3 (Go.Operand.tmp 54), type := 3, pos := "ref.go:259", after := #[{ on := 1, ground := Go.Ground.data }, { on := 5, ground := Go.Ground.gcOnly Go.Departure.lateStores }], guard := none }) (oL := { dst := some 7, op := Go.Op.assign (Go.Operand.tmp 55), type := 3, pos := "ref.go:259", after := #[{ on := 2, ground := Go.Ground.data }, { on := 5, ground := Go.Ground.chain }, { on := 0, ground := Go.Ground.phase }, { on := 1, ground := Go.Ground.phase }, { on := 2, ground := Go.Ground.phase }, { on := 3, ground := Go.Ground.phase }, { on := 4, ground := Go.Ground.phase }, { on := 5, ground := Go.Ground.phase }], guard := none }) (v := .int .i64 (st + 1)) rfl rfl (by kernel_rfl) (by kernel_rfl) (by kernel_rfl) (by kernel_rfl) (fun _ _ _ h => h) (Or.inl ⟨by kernel_rfl, ?_⟩) HQ.out ?_
  · (intro X hX; obtain ⟨x0, x1, x2, x3, x4, x5⟩ := hX.ds; obtain ⟨o0, o1, o2, o3, o4⟩ := hX.os <;> (go_simp; try (with_reducible rfl)))
  (try simp only [Act.put, List.setIfInBounds_toArray, List.set_cons_zero, List.set_cons_succ])
  refine wpAnyN_one (i := 3) (o := { dst := none, op := Go.Op.store 32 (Go.Operand.tmp 4) (Go.Operand.tmp 53), type := 0, pos := "ref.go:259", after := #[{ on := 0, ground := Go.Ground.data }, { on := 0, ground := Go.Ground.phase }, { on := 1, ground := Go.Ground.textOnly Go.Departure.lateStores }, { on := 2, ground := Go.Ground.textOnly Go.Departure.lateStores }], guard := none }) (by kernel_rfl) rfl (fun K hK => ?_)
  obtain ⟨cs, hr, hz⟩ := HQ.out.r
  refine wp_store_row 32 _ _ rfl (w.heap.size + 1 + 1) #[.slice va l2.length vc, .int .i64 q, .int .i64 (st + 1), .slice (some ⟨g, o + 3, none⟩) m (sc - 1), .int .i64 (si + 1), .bool true] rfl rfl 32 cs hr Tryz.sizeRD hz (by simp [Value.oneCell']) ?_
  clear hr hz
  refine hK.out _ _ (fun _ => (HQ.out.setR _ rfl)) ?_
  clear hK K
  (try simp only [Act.put])
  refine wpAnyN_take (i := 4) (oi := { dst := some 5, op := Go.Op.assign (Go.Operand.const (Go.Value.string { data := #[] })), type := 9, pos := "ref.go:259", after := #[{ on := 3, ground := Go.Ground.chain }, { on := 0, ground := Go.Ground.phase }, { on := 1, ground := Go.Ground.textOnly Go.Departure.lateStores }, { on := 2, ground := Go.Ground.textOnly Go.Departure.lateStores }, { on := 3, ground := Go.Ground.phase }], guard := none }) (oL := { dst := some 7, op := Go.Op.assign (Go.Operand.tmp 55), type := 3, pos := "ref.go:259", after := #[{ on := 2, ground := Go.Ground.data }, { on := 5, ground := Go.Ground.chain }, { on := 0, ground := Go.Ground.phase }, { on := 1, ground := Go.Ground.phase }, { on := 2, ground := Go.Ground.phase }, { on := 3, ground := Go.Ground.phase }, { on := 4, ground := Go.Ground.phase }, { on := 5, ground := Go.Ground.phase }], guard := none }) (v := .string ⟨#[]⟩) rfl rfl (by kernel_rfl) (by kernel_rfl) (by kernel_rfl) (by kernel_rfl) (fun _ _ _ h => h) (Or.inl ⟨by kernel_rfl, ?_⟩) (HQ.out.setR _ rfl) ?_
  · (intro X hX; obtain ⟨x0, x1, x2, x3, x4, x5⟩ := hX.ds; obtain ⟨o0, o1, o2, o3, o4⟩ := hX.os <;> (go_simp; try (with_reducible rfl)))
  (try simp only [Act.put, List.setIfInBounds_toArray, List.set_cons_zero, List.set_cons_succ])
  refine wpAnyN_take (i := 5) (oi := { dst := some 6, op := Go.Op.assign (Go.Operand.const (Go.Value.int Go.IntKind.i64 93)), type := 3, pos := "ref.go:259", after := #[{ on := 4, ground := Go.Ground.chain }, { on := 0, ground := Go.Ground.phase }, { on := 1, ground := Go.Ground.textOnly Go.Departure.lateStores }, { on := 2, ground := Go.Ground.textOnly Go.Departure.lateStores }, { on := 3, ground := Go.Ground.phase }, { on := 4, ground := Go.Ground.phase }], guard := none }) (oL := { dst := some 7, op := Go.Op.assign (Go.Operand.tmp 55), type := 3, pos := "ref.go:259", after := #[{ on := 2, ground := Go.Ground.data }, { on := 5, ground := Go.Ground.chain }, { on := 0, ground := Go.Ground.phase }, { on := 1, ground := Go.Ground.phase }, { on := 2, ground := Go.Ground.phase }, { on := 3, ground := Go.Ground.phase }, { on := 4, ground := Go.Ground.phase }, { on := 5, ground := Go.Ground.phase }], guard := none }) (v := .int .i64 93) rfl rfl (by kernel_rfl) (by kernel_rfl) (by kernel_rfl) (by kernel_rfl) (fun _ _ _ h => h) (Or.inl ⟨by kernel_rfl, ?_⟩) (HQ.out.setR _ rfl) ?_
  · (intro X hX; obtain ⟨x0, x1, x2, x3, x4, x5⟩ := hX.ds; obtain ⟨o0, o1, o2, o3, o4⟩ := hX.os <;> (go_simp; try (with_reducible rfl)))
  (try simp only [Act.put, List.setIfInBounds_toArray, List.set_cons_zero, List.set_cons_succ])
  refine wpAnyN_one (i := 6) (o := { dst := some 7, op := Go.Op.assign (Go.Operand.tmp 55), type := 3, pos := "ref.go:259", after := #[{ on := 2, ground := Go.Ground.data }, { on := 5, ground := Go.Ground.chain }, { on := 0, ground := Go.Ground.phase }, { on := 1, ground := Go.Ground.phase }, { on := 2, ground := Go.Ground.phase }, { on := 3, ground := Go.Ground.phase }, { on := 4, ground := Go.Ground.phase }, { on := 5, ground := Go.Ground.phase }], guard := none }) (by kernel_rfl) rfl (fun K hK => ?_)
  go_simp
  refine hK.out _ _ (fun e => absurd (e.symm.trans (by kernel_rfl) : false = true) Bool.false_ne_true) ?_
  clear hK K
  (try simp only [Act.put, List.setIfInBounds_toArray, List.set_cons_zero, List.set_cons_succ])
  refine wpAnyN_of_H (S' := fun _ => True) _ _ _ _ (by kernel_rfl) ?_
  refine wpAnyH_done (by kernel_rfl) ?_ _
  go_wp2_with fail
  obtain ⟨cs, hr, hz⟩ := HQ.out.r
  refine bodyPost_ret (resD4 rfl _ _ (w.heap.size + 1 + 1) 32 #[.slice va l2.length vc, .int .i64 q, .int .i64 (st + 1), .slice (some ⟨g, o + 3, none⟩) m (sc - 1), .int .i64 (si + 1), .bool true] (0, 0) _ rfl (setRow_heap _ _ _ _ _ _ hr) Tryz.underlying32 rfl Tryz.sizeRD) rfl ?_
  exact ⟨_, rfl, (HL.out _).1, below_setQ HQ.out.below (by omega) _, (HL.out #[]).2⟩
end Go.Proofs.YtgafomknpdnfcaaGreatDoor

/- The document's disk: Do, as one. -/
namespace Go.Proofs.YtgafomknpdnfcaaGreatDoor
open Go.RowKit

theorem tailBlk {g o c : Nat} {a' : Addr} {r : List (Int × Int × Int)} {sl : Nat} (h : ∀ b, svBlk (.slice (some a') r.length (c - 1)) = some b → b = g) : ∀ b, svBlk (.slice (some a') r.length (c - 1)) = some b → svBlk (.slice (some ⟨g, o, none⟩) (sl + 1) c) = some b := by
  intro b hb
  rw [h b hb]
  rfl
set_option maxHeartbeats 1000000 in
theorem rDo_any (fv : Value) (l : List PF) (q st : Int) (sv : Value) (rs : List (Int × Int × Int)) (si : Int) (dn : Bool) (kd : Int) (nm dst dat : ByteArray) (n : Int) (w : World) (h : FsAt w fv l) (hs : StopsAt w sv rs) (hl : l.length ≤ 900000000) (hu : usedP l ≤ 1000000000) (hok : ∀ p, p ∈ l → FOk p) (hq0 : q ≠ 0) (hq : q ≤ 1048576) (hst0 : 0 ≤ st) (hst : st ≤ 1000000000) (hsi0 : 0 ≤ si) (hsi : si ≤ 1000000000) (hs1 : nm.size ≤ 140737488355328) (hs2 : dst.size ≤ 140737488355328) (hs3 : dat.size ≤ 140737488355328) (hin : ∀ s, s ∈ rs → inI s.1 ∧ inI s.2.1 ∧ inI s.2.2) :
    Calls Tryz.prog 16 #[rdV fv q st sv si dn, opV kd nm dst dat n] w fun e w' => ∃ fv' sv', e = .returned (.tuple #[rdV fv' q (doR q st l rs si dn kd nm dst dat n).st sv' (doR q st l rs si dn kd nm dst dat n).si (doR q st l rs si dn kd nm dst dat n).dn, .string (doR q st l rs si dn kd nm dst dat n).tx, .int .i64 (doR q st l rs si dn kd nm dst dat n).code, .int .i64 (doR q st l rs si dn kd nm dst dat n).step]) ∧ DoOut w fv sv (doR q st l rs si dn kd nm dst dat n).l (doR q st l rs si dn kd nm dst dat n).rs fv' sv' w' := by
  obtain ⟨fa, fc, hfv, hform⟩ := h.form
  obtain ⟨sa, sc, hsv, _⟩ := id hs
  subst hfv hsv
  have hd : ∀ p, p ∈ l → p.data.length ≤ 1000000000 := fun p hp => (hok p hp).2
  have stay : ∀ w', Below w.heap.size w w' → DoOut w (.slice fa l.length fc) (.slice sa rs.length sc) l rs (.slice fa l.length fc) (.slice sa rs.length sc) w' := fun w' hb => ⟨h.on hb, hs.on hb, hb, fun b e => .inl e, fun b e => e⟩
  obtain ⟨R, hR⟩ : ∃ R, R = doR q st l rs si dn kd nm dst dat n := ⟨_, rfl⟩
  rw [← hR]
  unfold doR at hR
  cases dn with
  | true =>
    rw [if_pos rfl] at hR
    subst hR
    refine (rDo_down _ _ _ _ _ _ _ _ _ _ _ _ _ _ _).mono ?_
    rintro e w' ⟨rfl, hb⟩
    exact ⟨_, _, rfl, stay w' hb⟩
  | false =>
    rw [if_neg (by decide)] at hR
    cases hdue : dueR rs si with
    | some yz =>
      obtain ⟨y, z⟩ := yz
      rw [hdue] at hR
      simp only at hR
      cases rs with
      | nil => cases hdue
      | cons s r =>
        obtain ⟨a, y', z'⟩ := s
        unfold dueR at hdue
        simp only at hdue
        split at hdue
        · rename_i hae
          simp only [Option.some.injEq, Prod.mk.injEq] at hdue
          obtain ⟨rfl, rfl⟩ := hdue
          obtain ⟨g, o, c, cur, hsv, hc, hg, k0, k1, k2, ht⟩ := stops_head hs
          obtain ⟨_, hy, hz⟩ := hin _ (List.mem_cons_self ..)
          have hgl := lt_of_heap hg
          have cc : ∀ (i : Nat) (v : Value), cur[i]? = some v → ∀ X, Below w.heap.size w X → X.cell? ⟨g, i, none⟩ = some v := fun i v hv X hX => by rw [hX.cell (p := ⟨g, i, none⟩) hgl, cell_of hg]; exact hv
          injection hsv with e1 e2 e3
          subst e1 e3
          have hpt := fun X (hX : Below w.heap.size w X) => rpart_any (.slice fa l.length fc) l q (st + 1) (.slice (some ⟨g, o, none⟩) (r.length + 1) sc) (si + 1) false kd nm dst dat n y' X (h.on hX) (by omega) hu hd hs1 hs2 hs3 (fun e => refR_cut e) hy.1 hy.2
          have hsu := fun X v (hX : FsAt X v (partR q l kd nm dst dat n y')) => rsurvive_any v _ z' X hX (by have := partR_len q l kd nm dst dat n y'; omega) (partR_fok hok hq kd nm dst dat n y') hz.1 hz.2
          have hbe : (a == si + 1) = true := by rw [hae]; exact beq_self_eq_true _
          by_cases hc1 : sc = 1
          · subst hc1
            have hr0 : r = [] := List.eq_nil_of_length_eq_zero (by omega)
            subst hr0
            obtain ⟨ht1, ht2⟩ := stops_tail (l := []) hc hg ht ⟨g, o, none⟩ (.inr ⟨rfl, rfl⟩)
            refine (rDo_stop1 fa l.length fc q st g o si kd nm dst dat n w hq0 hst0 hst hsi0 hsi a y' z' hbe (cc _ _ k0) (cc _ _ k1) (cc _ _ k2) _ _ hpt hsu).mono ?_
            rintro e w' ⟨v, rfl, hf, hb, hfar⟩
            subst hR
            exact ⟨v, _, rfl, hf, ht1.on hb, hb, fun b e => .inr (hfar b e), fun b e => by cases e⟩
          · obtain ⟨ht1, ht2⟩ := stops_tail (l := r) hc hg ht ⟨g, o + 3, none⟩ (.inl rfl)
            refine (rDo_stop2 fa l.length fc q st g o r.length sc hc (by omega) hc1 si kd nm dst dat n w hq0 hst0 hst hsi0 hsi a y' z' hbe (cc _ _ k0) (cc _ _ k1) (cc _ _ k2) _ _ hpt hsu).mono ?_
            rintro e w' ⟨v, rfl, hf, hb, hfar⟩
            subst hR
            exact ⟨v, _, rfl, hf, ht1.on hb, hb, fun b e => .inr (hfar b e), tailBlk ht2⟩
        · cases hdue
    | none =>
      rw [hdue] at hR
      simp only at hR
      have hrf := fun X (hX : Below w.heap.size w X) => rrefused_any (.slice fa l.length fc) l q (st + 1) (.slice sa rs.length sc) (si + 1) false kd nm dst dat n X (h.on hX) (by omega) hu hd hs1 hs2 hs3
      have hdn := fun (e : refR q l kd nm dst dat n = 0) X (hX : Below w.heap.size w X) => rdone_any (.slice fa l.length fc) l q (st + 1) (.slice sa rs.length sc) (si + 1) false kd nm dst dat n X (h.on hX) (by omega) hd hs3 (fun e6 => refR_cut e e6)
      have hfd := fun X (hX : Below w.heap.size w X) => rfind_any (.slice fa l.length fc) l q (st + 1) (.slice sa rs.length sc) (si + 1) false nm X (h.on hX) (by omega)
      have hform2 : (¬ 0 < (rs.length : Int)) ∨ ∃ g o a, sa = some ⟨g, o, none⟩ ∧ 0 < (rs.length : Int) ∧ rs.length ≠ 0 ∧ (a == si + 1) = false ∧ ∀ X, Below w.heap.size w X → X.cell? ⟨g, o, none⟩ = some (.int .i64 a) := by
        cases rs with
        | nil => exact .inl (by simp)
        | cons s r =>
          obtain ⟨a, y', z'⟩ := s
          obtain ⟨g, o, c, cur, hsv, hc, hg, k0, k1, k2, ht⟩ := stops_head hs
          injection hsv with e1 e2 e3
          unfold dueR at hdue
          simp only at hdue
          split at hdue
          · cases hdue
          · rename_i hae
            exact .inr ⟨g, o, a, e1, by simp only [List.length_cons]; omega, by simp, beq_eq_false_iff_ne.2 hae, fun X hX => by rw [hX.cell (p := ⟨g, o, none⟩) (lt_of_heap hg), cell_of hg]; exact k0⟩
      by_cases hr : refR q l kd nm dst dat n = 0
      · rw [if_neg (by simpa using hr)] at hR
        rw [hr] at hrf
        by_cases h3 : kd = 3
        · rw [if_pos h3] at hR
          subst hR
          have h3b : (kd == 3) = true := by rw [h3]; rfl
          obtain ⟨p, hp⟩ := refR_there hr (by omega)
          rcases findP_cases nm l with ⟨hn, _⟩ | ⟨i, p', hp', hfi, hli, _⟩
          · rw [hn] at hp; cases hp
          · rw [hfi] at hfd
            obtain ⟨fg, hfa, q1, q2, q3⟩ := hform i p' hli
            subst hfa
            have hil : (i : Int) < (l.length : Int) := by have := (List.getElem?_eq_some_iff.1 hli).1; omega
            have htx : ∀ X, Below w.heap.size w X → X.cell? ⟨fg, i * 3 + 1, none⟩ = some (.string (peekS nm l)) := fun X hX => by
              rw [hX.cell (p := ⟨fg, i * 3 + 1, none⟩) (World.block_lt_of_cell? w _ q2), q2]
              unfold peekS
              rw [hp']
            rcases hform2 with h0 | ⟨g, o, a, hsa, h0, h0n, ha, hca⟩
            · refine (rDo_readA fg l.length fc q st sa rs.length sc si kd nm dst dat n w hq0 hst0 hst hsi0 hsi h0 hrf h3b i hil hfd _ htx).mono ?_
              rintro e w' ⟨rfl, hb⟩
              exact ⟨_, _, rfl, stay w' hb⟩
            · subst hsa
              refine (rDo_readB fg l.length fc q st g o rs.length sc si kd nm dst dat n w hq0 hst0 hst hsi0 hsi h0 h0n a ha hca hrf h3b i hil hfd _ htx).mono ?_
              rintro e w' ⟨rfl, hb⟩
              exact ⟨_, _, rfl, stay w' hb⟩
        · rw [if_neg h3] at hR
          subst hR
          have h3b : (kd == 3) = false := beq_eq_false_iff_ne.2 h3
          rcases hform2 with h0 | ⟨g, o, a, hsa, h0, h0n, ha, hca⟩
          · refine (rDo_doneA fa l.length fc q st sa rs.length sc si kd nm dst dat n w hq0 hst0 hst hsi0 hsi h0 hrf h3b _ (hdn hr)).mono ?_
            rintro e w' ⟨v, rfl, hf, hb, hfar⟩
            exact ⟨v, _, rfl, hf, hs.on hb, hb, fun b e => .inr (hfar b e), fun b e => e⟩
          · subst hsa
            refine (rDo_doneB fa l.length fc q st g o rs.length sc si kd nm dst dat n w hq0 hst0 hst hsi0 hsi h0 h0n a ha hca hrf h3b _ (hdn hr)).mono ?_
            rintro e w' ⟨v, rfl, hf, hb, hfar⟩
            exact ⟨v, _, rfl, hf, hs.on hb, hb, fun b e => .inr (hfar b e), fun b e => e⟩
      · rw [if_pos hr] at hR
        subst hR
        have hrb : (refR q l kd nm dst dat n != 0) = true := bne_iff_ne.2 hr
        rcases hform2 with h0 | ⟨g, o, a, hsa, h0, h0n, ha, hca⟩
        · refine (rDo_refA fa l.length fc q st sa rs.length sc si kd nm dst dat n w hq0 hst0 hst hsi0 hsi h0 _ hrb hrf).mono ?_
          rintro e w' ⟨rfl, hb⟩
          exact ⟨_, _, rfl, stay w' hb⟩
        · subst hsa
          refine (rDo_refB fa l.length fc q st g o rs.length sc si kd nm dst dat n w hq0 hst0 hst hsi0 hsi h0 h0n a ha hca _ hrb hrf).mono ?_
          rintro e w' ⟨rfl, hb⟩
          exact ⟨_, _, rfl, stay w' hb⟩
end Go.Proofs.YtgafomknpdnfcaaGreatDoor

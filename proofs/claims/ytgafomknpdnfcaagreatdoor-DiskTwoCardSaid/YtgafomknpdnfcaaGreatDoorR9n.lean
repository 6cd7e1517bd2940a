/- The document's disk: Do, its walks. -/
import Derived.Test.YtgafomknpdnfcaaGreatDoorR9m
import Derived.BigQuiet
namespace Go.Proofs.YtgafomknpdnfcaaGreatDoor
open Go.RowKit

set_option maxHeartbeats 2000000 in
theorem rDo_down (fa : Option Addr) (fl fc : Nat) (q st : Int) (sa : Option Addr) (sl sc : Nat) (si : Int) (kd : Int) (nm dst dat : ByteArray) (n : Int) (w : World) :
    Calls Tryz.prog 16 #[rdV (.slice fa fl fc) q st (.slice sa sl sc) si true, opV kd nm dst dat n] w fun e w' => e = .returned (.tuple #[rdV (.slice fa fl fc) q st (.slice sa sl sc) si true, .string ⟨#[]⟩, .int .i64 93, .int .i64 0]) ∧ Below w.heap.size w w' := by
  have h3 := doAt_start w (.slice fa fl fc) q st (.slice sa sl sc) si true kd nm dst dat n
  obtain ⟨W3, hW3⟩ : ∃ W3, ((w.alloc (.cells #[.slice fa fl fc, .int .i64 q, .int .i64 st, .slice sa sl sc, .int .i64 si, .bool true] 32)).alloc (.cells #[.int .i64 kd, .string nm, .string dst, .string dat, .int .i64 n] 55)).alloc (.cells #[.slice none 0 0, .int .i64 0, .int .i64 0, .slice none 0 0, .int .i64 0, .bool false] 32) = W3 := ⟨_, rfl⟩
  rw [hW3] at h3
  have HW := Lib.hid hW3
  obtain ⟨x0, x1, x2, x3, x4, x5⟩ := h3.ds
  have H3 := Lib.hid h3
  have HDn := Lib.hid (fun W => rIsDown_any (.slice fa fl fc) q st (.slice sa sl sc) si true W)
  clear h3 hW3
  unfold rdV opV at *
  go_enter Tryz.func16, Tryz.ntmps16
  go_upto_region 1 with fail
  rw [HW.out]
  go_upto_region 2 with (go_at_call 31; refine (HDn.out _).mono ?_; rintro e w4 ⟨rfl, hb4⟩; have HQ := Lib.hid (H3.out.on hb4); clear hb4)
  clear x0 x1 x2 x3 x4 x5
  obtain ⟨x0, x1, x2, x3, x4, x5⟩ := HQ.out.ds
  obtain ⟨cs, hr, hz⟩ := HQ.out.r
  have HR := Lib.hid (And.intro hr hz)
  clear hr hz
  go_wp2_with (refine wpList_store_row rfl 32 _ _ rfl (w.heap.size + 1 + 1) #[.slice fa fl fc, .int .i64 q, .int .i64 st, .slice sa sl sc, .int .i64 si, .bool true] rfl rfl 32 _ HR.out.1 Tryz.sizeRD HR.out.2 (by simp [Value.oneCell']) ?_)
  refine bodyPost_ret (resD4 rfl _ _ (w.heap.size + 1 + 1) 32 #[.slice fa fl fc, .int .i64 q, .int .i64 st, .slice sa sl sc, .int .i64 si, .bool true] (0, 0) _ rfl (setRow_heap _ _ _ _ _ _ HR.out.1) Tryz.underlying32 rfl Tryz.sizeRD) rfl ?_
  exact ⟨rfl, below_setQ HQ.out.below (by omega) _⟩
set_option maxRecDepth 20000 in
set_option maxHeartbeats 2000000 in
theorem rDo_refA (fa : Option Addr) (fl fc : Nat) (q st : Int) (sa : Option Addr) (sl sc : Nat) (si : Int) (kd : Int) (nm dst dat : ByteArray) (n : Int) (w : World) (hq0 : q ≠ 0) (hst0 : 0 ≤ st) (hst : st ≤ 1000000000) (hsi0 : 0 ≤ si) (hsi : si ≤ 1000000000) (h0 : ¬ 0 < (sl : Int)) (rv : Int) (hrv : (rv != 0) = true) (hrf : ∀ X, Below w.heap.size w X → Calls Tryz.prog 47 #[rdV (.slice fa fl fc) q (st + 1) (.slice sa sl sc) (si + 1) false, opV kd nm dst dat n] X fun e w' => e = .returned (.int .i64 rv) ∧ Below X.heap.size X w') :
    Calls Tryz.prog 16 #[rdV (.slice fa fl fc) q st (.slice sa sl sc) si false, opV kd nm dst dat n] w fun e w' => e = .returned (.tuple #[rdV (.slice fa fl fc) q (st + 1) (.slice sa sl sc) (si + 1) false, .string ⟨#[]⟩, .int .i64 rv, .int .i64 (st + 1)]) ∧ Below w.heap.size w w' := by
  have HRf := Lib.hid hrf
  clear hrf
  have h3 := doAt_start w (.slice fa fl fc) q st (.slice sa sl sc) si false kd nm dst dat n
  obtain ⟨W3, hW3⟩ : ∃ W3, ((w.alloc (.cells #[.slice fa fl fc, .int .i64 q, .int .i64 st, .slice sa sl sc, .int .i64 si, .bool false] 32)).alloc (.cells #[.int .i64 kd, .string nm, .string dst, .string dat, .int .i64 n] 55)).alloc (.cells #[.slice none 0 0, .int .i64 0, .int .i64 0, .slice none 0 0, .int .i64 0, .bool false] 32) = W3 := ⟨_, rfl⟩
  rw [hW3] at h3
  have HW := Lib.hid hW3
  obtain ⟨x0, x1, x2, x3, x4, x5⟩ := h3.ds
  have H3 := Lib.hid h3
  have HDn := Lib.hid (fun W => rIsDown_any (.slice fa fl fc) q st (.slice sa sl sc) si false W)
  clear h3 hW3
  rw [show (false || q == 0) = false by rw [Bool.false_or]; exact beq_eq_false_iff_ne.2 hq0] at HDn
  clear hq0
  unfold rdV opV at *
  go_enter Tryz.func16, Tryz.ntmps16
  go_upto_region 1 with fail
  rw [HW.out]
  go_upto_region 3 with (go_at_call 31; refine (HDn.out _).mono ?_; rintro e w4 ⟨rfl, hb4⟩; have HQ := Lib.hid (H3.out.on hb4); clear hb4)
  clear x0 x1 x2 x3 x4 x5
  obtain ⟨x0, x1, x2, x3, x4, x5⟩ := HQ.out.ds
  have f2 := HQ.out.df 2
  have f4 := HQ.out.df 4
  have HQ2 := Lib.hid ((HQ.out.set 2 (.int .i64 (st + 1)) _ (st + 1) _ si false rfl).set 4 (.int .i64 (si + 1)) _ _ _ (si + 1) false rfl)
  clear HQ H3 HW HDn
  go_upto_region 5 with fail
  generalize (w4.setCell ⟨w.heap.size, 2, none⟩ (.int .i64 (st + 1))).setCell ⟨w.heap.size, 4, none⟩ (.int .i64 (si + 1)) = Y at HQ2 ⊢
  clear x0 x1 x2 x3 x4 x5 f2 f4
  obtain ⟨x0, x1, x2, x3, x4, x5⟩ := HQ2.out.ds
  refine wp_region_N 13 (fun X => DoAt w (.slice fa fl fc) q (st + 1) (.slice sa sl sc) (si + 1) false kd nm dst dat n X) (by kernel_rfl) ?_
  refine wpAnyN_take (i := 0) (oi := { dst := some 21, op := Go.Op.fieldAddr 32 (Go.Operand.tmp 2) 3, type := 0, pos := "ref.go:254", after := #[], guard := none }) (oL := { dst := some 34, op := Go.Op.pick (Go.Operand.tmp 25) (Go.Operand.tmp 33) (Go.Operand.const (Go.Value.bool false)), type := 4, pos := "ref.go:254", after := #[{ on := 4, ground := Go.Ground.data }, { on := 12, ground := Go.Ground.data }], guard := none }) (v := .pointer (some ⟨w.heap.size, 3, none⟩)) rfl rfl (by kernel_rfl) (by kernel_rfl) (by kernel_rfl) (by kernel_rfl) (fun _ _ _ h => h) (Or.inl ⟨by kernel_rfl, ?_⟩) HQ2.out.drew ?_
  · (intro X hX; obtain ⟨x0, x1, x2, x3, x4, x5⟩ := hX.ds <;> (go_simp; (try (with_reducible rfl)); (try omega)))
  (try simp only [Act.put, List.setIfInBounds_toArray, List.set_cons_zero, List.set_cons_succ])
  refine wpAnyN_take (i := 1) (oi := { dst := some 22, op := Go.Op.load 30 (Go.Operand.tmp 21), type := 30, pos := "ref.go:254", after := #[{ on := 0, ground := Go.Ground.data }], guard := none }) (oL := { dst := some 34, op := Go.Op.pick (Go.Operand.tmp 25) (Go.Operand.tmp 33) (Go.Operand.const (Go.Value.bool false)), type := 4, pos := "ref.go:254", after := #[{ on := 4, ground := Go.Ground.data }, { on := 12, ground := Go.Ground.data }], guard := none }) (v := .slice sa sl sc) rfl rfl (by kernel_rfl) (by kernel_rfl) (by kernel_rfl) (by kernel_rfl) (fun _ _ _ h => h) (Or.inl ⟨by kernel_rfl, ?_⟩) HQ2.out.drew ?_
  · (intro X hX; obtain ⟨x0, x1, x2, x3, x4, x5⟩ := hX.ds <;> (go_simp; (try (with_reducible rfl)); (try omega)))
  (try simp only [Act.put, List.setIfInBounds_toArray, List.set_cons_zero, List.set_cons_succ])
  refine wpAnyN_take (i := 2) (oi := { dst := some 23, op := Go.Op.call { callee := Go.Callee.builtin Go.Builtin.len, args := #[Go.Operand.tmp 22], argTypes := #[30] }, type := 3, pos := "ref.go:254", after := #[{ on := 1, ground := Go.Ground.data }], guard := none }) (oL := { dst := some 34, op := Go.Op.pick (Go.Operand.tmp 25) (Go.Operand.tmp 33) (Go.Operand.const (Go.Value.bool false)), type := 4, pos := "ref.go:254", after := #[{ on := 4, ground := Go.Ground.data }, { on := 12, ground := Go.Ground.data }], guard := none }) (v := .int .i64 (sl : Int)) rfl rfl (by kernel_rfl) (by kernel_rfl) (by kernel_rfl) (by kernel_rfl) (fun _ _ _ h => h) (Or.inl ⟨by kernel_rfl, ?_⟩) HQ2.out.drew ?_
  · (intro X hX; obtain ⟨x0, x1, x2, x3, x4, x5⟩ := hX.ds <;> (go_simp; (try (with_reducible rfl)); (try omega)))
  (try simp only [Act.put, List.setIfInBounds_toArray, List.set_cons_zero, List.set_cons_succ])
  refine wpAnyN_take (i := 3) (oi := { dst := some 24, op := Go.Op.binOp Go.BinOp.gtr 3 (Go.Operand.tmp 23) (Go.Operand.const (Go.Value.int Go.IntKind.i64 0)) 3, type := 4, pos := "ref.go:254", after := #[{ on := 2, ground := Go.Ground.data }], guard := none }) (oL := { dst := some 34, op := Go.Op.pick (Go.Operand.tmp 25) (Go.Operand.tmp 33) (Go.Operand.const (Go.Value.bool false)), type := 4, pos := "ref.go:254", after := #[{ on := 4, ground := Go.Ground.data }, { on := 12, ground := Go.Ground.data }], guard := none }) (v := .bool false) rfl rfl (by kernel_rfl) (by kernel_rfl) (by kernel_rfl) (by kernel_rfl) (fun _ _ _ h => h) (Or.inl ⟨by kernel_rfl, ?_⟩) HQ2.out.drew ?_
  · (intro X hX; obtain ⟨x0, x1, x2, x3, x4, x5⟩ := hX.ds <;> (go_simp; (try (with_reducible rfl)); (try omega)))
  (try simp only [Act.put, List.setIfInBounds_toArray, List.set_cons_zero, List.set_cons_succ])
  refine wpAnyN_take (i := 4) (oi := { dst := some 25, op := Go.Op.move (Go.Operand.tmp 24), type := 4, pos := "ref.go:254", after := #[{ on := 3, ground := Go.Ground.data }], guard := none }) (oL := { dst := some 34, op := Go.Op.pick (Go.Operand.tmp 25) (Go.Operand.tmp 33) (Go.Operand.const (Go.Value.bool false)), type := 4, pos := "ref.go:254", after := #[{ on := 4, ground := Go.Ground.data }, { on := 12, ground := Go.Ground.data }], guard := none }) (v := .bool false) rfl rfl (by kernel_rfl) (by kernel_rfl) (by kernel_rfl) (by kernel_rfl) (fun _ _ _ h => h) (Or.inl ⟨by kernel_rfl, ?_⟩) HQ2.out.drew ?_
  · (intro X hX; obtain ⟨x0, x1, x2, x3, x4, x5⟩ := hX.ds <;> (go_simp; (try (with_reducible rfl)); (try omega)))
  (try simp only [Act.put, List.setIfInBounds_toArray, List.set_cons_zero, List.set_cons_succ])
  refine wpAnyN_take (i := 5) (oi := { dst := some 26, op := Go.Op.fieldAddr 32 (Go.Operand.tmp 2) 3, type := 0, pos := "ref.go:254", after := #[{ on := 4, ground := Go.Ground.guard }], guard := some (4, true) }) (oL := { dst := some 34, op := Go.Op.pick (Go.Operand.tmp 25) (Go.Operand.tmp 33) (Go.Operand.const (Go.Value.bool false)), type := 4, pos := "ref.go:254", after := #[{ on := 4, ground := Go.Ground.data }, { on := 12, ground := Go.Ground.data }], guard := none }) (v := undef) rfl rfl (by kernel_rfl) (by kernel_rfl) (by kernel_rfl) (by kernel_rfl) (fun _ _ _ h => h) (Or.inr ⟨by kernel_rfl, rfl⟩) HQ2.out.drew ?_
  (try simp only [Act.put, List.setIfInBounds_toArray, List.set_cons_zero, List.set_cons_succ])
  refine wpAnyN_take (i := 6) (oi := { dst := some 27, op := Go.Op.load 30 (Go.Operand.tmp 26), type := 30, pos := "ref.go:254", after := #[{ on := 5, ground := Go.Ground.data }, { on := 4, ground := Go.Ground.guard }], guard := some (4, true) }) (oL := { dst := some 34, op := Go.Op.pick (Go.Operand.tmp 25) (Go.Operand.tmp 33) (Go.Operand.const (Go.Value.bool false)), type := 4, pos := "ref.go:254", after := #[{ on := 4, ground := Go.Ground.data }, { on := 12, ground := Go.Ground.data }], guard := none }) (v := undef) rfl rfl (by kernel_rfl) (by kernel_rfl) (by kernel_rfl) (by kernel_rfl) (fun _ _ _ h => h) (Or.inr ⟨by kernel_rfl, rfl⟩) HQ2.out.drew ?_
  (try simp only [Act.put, List.setIfInBounds_toArray, List.set_cons_zero, List.set_cons_succ])
  refine wpAnyN_take (i := 7) (oi := { dst := some 28, op := Go.Op.indexAddr 30 (Go.Operand.tmp 27) (Go.Operand.const (Go.Value.int Go.IntKind.i64 0)), type := 0, pos := "ref.go:254", after := #[{ on := 6, ground := Go.Ground.data }, { on := 4, ground := Go.Ground.guard }], guard := some (4, true) }) (oL := { dst := some 34, op := Go.Op.pick (Go.Operand.tmp 25) (Go.Operand.tmp 33) (Go.Operand.const (Go.Value.bool false)), type := 4, pos := "ref.go:254", after := #[{ on := 4, ground := Go.Ground.data }, { on := 12, ground := Go.Ground.data }], guard := none }) (v := undef) rfl rfl (by kernel_rfl) (by kernel_rfl) (by kernel_rfl) (by kernel_rfl) (fun _ _ _ h => h) (Or.inr ⟨by kernel_rfl, rfl⟩) HQ2.out.drew ?_
  (try simp only [Act.put, List.setIfInBounds_toArray, List.set_cons_zero, List.set_cons_succ])
  refine wpAnyN_take (i := 8) (oi := { dst := some 29, op := Go.Op.fieldAddr 62 (Go.Operand.tmp 28) 0, type := 0, pos := "ref.go:254", after := #[{ on := 7, ground := Go.Ground.data }, { on := 4, ground := Go.Ground.guard }], guard := some (4, true) }) (oL := { dst := some 34, op := Go.Op.pick (Go.Operand.tmp 25) (Go.Operand.tmp 33) (Go.Operand.const (Go.Value.bool false)), type := 4, pos := "ref.go:254", after := #[{ on := 4, ground := Go.Ground.data }, { on := 12, ground := Go.Ground.data }], guard := none }) (v := undef) rfl rfl (by kernel_rfl) (by kernel_rfl) (by kernel_rfl) (by kernel_rfl) (fun _ _ _ h => h) (Or.inr ⟨by kernel_rfl, rfl⟩) HQ2.out.drew ?_
  (try simp only [Act.put, List.setIfInBounds_toArray, List.set_cons_zero, List.set_cons_succ])
  refine wpAnyN_take (i := 9) (oi := { dst := some 30, op := Go.Op.load 3 (Go.Operand.tmp 29), type := 3, pos := "ref.go:254", after := #[{ on := 8, ground := Go.Ground.data }, { on := 4, ground := Go.Ground.guard }], guard := some (4, true) }) (oL := { dst := some 34, op := Go.Op.pick (Go.Operand.tmp 25) (Go.Operand.tmp 33) (Go.Operand.const (Go.Value.bool false)), type := 4, pos := "ref.go:254", after := #[{ on := 4, ground := Go.Ground.data }, { on := 12, ground := Go.Ground.data }], guard := none }) (v := undef) rfl rfl (by kernel_rfl) (by kernel_rfl) (by kernel_rfl) (by kernel_rfl) (fun _ _ _ h => h) (Or.inr ⟨by kernel_rfl, rfl⟩) HQ2.out.drew ?_
  (try simp only [Act.put, List.setIfInBounds_toArray, List.set_cons_zero, List.set_cons_succ])
  refine wpAnyN_take (i := 10) (oi := { dst := some 31, op := Go.Op.fieldAddr 32 (Go.Operand.tmp 2) 4, type := 0, pos := "ref.go:254", after := #[{ on := 4, ground := Go.Ground.guard }], guard := some (4, true) }) (oL := { dst := some 34, op := Go.Op.pick (Go.Operand.tmp 25) (Go.Operand.tmp 33) (Go.Operand.const (Go.Value.bool false)), type := 4, pos := "ref.go:254", after := #[{ on := 4, ground := Go.Ground.data }, { on := 12, ground := Go.Ground.data }], guard := none }) (v := undef) rfl rfl (by kernel_rfl) (by kernel_rfl) (by kernel_rfl) (by kernel_rfl) (fun _ _ _ h => h) (Or.inr ⟨by kernel_rfl, rfl⟩) HQ2.out.drew ?_
  (try simp only [Act.put, List.setIfInBounds_toArray, List.set_cons_zero, List.set_cons_succ])
  refine wpAnyN_take (i := 11) (oi := { dst := some 32, op := Go.Op.load 3 (Go.Operand.tmp 31), type := 3, pos := "ref.go:254", after := #[{ on := 10, ground := Go.Ground.data }, { on := 4, ground := Go.Ground.guard }], guard := some (4, true) }) (oL := { dst := some 34, op := Go.Op.pick (Go.Operand.tmp 25) (Go.Operand.tmp 33) (Go.Operand.const (Go.Value.bool false)), type := 4, pos := "ref.go:254", after := #[{ on := 4, ground := Go.Ground.data }, { on := 12, ground := Go.Ground.data }], guard := none }) (v := undef) rfl rfl (by kernel_rfl) (by kernel_rfl) (by kernel_rfl) (by kernel_rfl) (fun _ _ _ h => h) (Or.inr ⟨by kernel_rfl, rfl⟩) HQ2.out.drew ?_
  (try simp only [Act.put, List.setIfInBounds_toArray, List.set_cons_zero, List.set_cons_succ])
  refine wpAnyN_take (i := 12) (oi := { dst := some 33, op := Go.Op.binOp Go.BinOp.eql 3 (Go.Operand.tmp 30) (Go.Operand.tmp 32) 3, type := 4, pos := "ref.go:254", after := #[{ on := 9, ground := Go.Ground.data }, { on := 11, ground := Go.Ground.data }, { on := 4, ground := Go.Ground.guard }], guard := some (4, true) }) (oL := { dst := some 34, op := Go.Op.pick (Go.Operand.tmp 25) (Go.Operand.tmp 33) (Go.Operand.const (Go.Value.bool false)), type := 4, pos := "ref.go:254", after := #[{ on := 4, ground := Go.Ground.data }, { on := 12, ground := Go.Ground.data }], guard := none }) (v := undef) rfl rfl (by kernel_rfl) (by kernel_rfl) (by kernel_rfl) (by kernel_rfl) (fun _ _ _ h => h) (Or.inr ⟨by kernel_rfl, rfl⟩) HQ2.out.drew ?_
  (try simp only [Act.put, List.setIfInBounds_toArray, List.set_cons_zero, List.set_cons_succ])
  refine wpAnyN_one (i := 13) (o := { dst := some 34, op := Go.Op.pick (Go.Operand.tmp 25) (Go.Operand.tmp 33) (Go.Operand.const (Go.Value.bool false)), type := 4, pos := "ref.go:254", after := #[{ on := 4, ground := Go.Ground.data }, { on := 12, ground := Go.Ground.data }], guard := none }) (by kernel_rfl) rfl (fun K hK => ?_)
  go_simp
  refine hK.out _ _ (fun e => absurd (e.symm.trans (by kernel_rfl) : false = true) Bool.false_ne_true) ?_
  clear hK K
  (try simp only [Act.put, List.setIfInBounds_toArray, List.set_cons_zero, List.set_cons_succ])
  refine wpAnyN_of_H (S' := fun _ => True) _ _ _ _ (by kernel_rfl) ?_
  refine wpAnyH_done (by kernel_rfl) ?_ _
  have HQ := Lib.hid HQ2.out.drew
  generalize Y.drew = Y2 at HQ ⊢
  clear x0 x1 x2 x3 x4 x5
  clear HQ2
  obtain ⟨x0, x1, x2, x3, x4, x5⟩ := HQ.out.ds
  obtain ⟨o0, o1, o2, o3, o4⟩ := HQ.out.os
  go_upto_region 12 with (go_at_call 47; refine (HRf.out _ HQ.out.below).mono ?_; rintro e w5 ⟨rfl, hb5⟩; have HQ5 := Lib.hid (HQ.out.on hb5); clear hb5)
  clear x0 x1 x2 x3 x4 x5 o0 o1 o2 o3 o4
  clear HQ HRf
  go_upto_region 13 with fail
  have HQ := Lib.hid HQ5.out.drew
  clear HQ5
  refine wp_region_N 7 (fun X => DoAt w (.slice fa fl fc) q (st + 1) (.slice sa sl sc) (si + 1) false kd nm dst dat n X) (by kernel_rfl) ?_
  refine wpAnyN_take (i := 0) (oi := { dst := some 61, op := Go.Op.load 32 (Go.Operand.tmp 2), type := 32, pos := "ref.go:263", after := #[], guard := none }) (oL := { dst := some 7, op := Go.Op.assign (Go.Operand.tmp 64), type := 3, pos := "ref.go:263", after := #[{ on := 3, ground := Go.Ground.data }, { on := 6, ground := Go.Ground.chain }, { on := 0, ground := Go.Ground.phase }, { on := 1, ground := Go.Ground.phase }, { on := 2, ground := Go.Ground.phase }, { on := 3, ground := Go.Ground.phase }, { on := 4, ground := Go.Ground.phase }, { on := 5, ground := Go.Ground.phase }, { on := 6, ground := Go.Ground.phase }], guard := none }) (v := .agg #[.slice fa fl fc, .int .i64 q, .int .i64 (st + 1), .slice sa sl sc, .int .i64 (si + 1), .bool false]) rfl rfl (by kernel_rfl) (by kernel_rfl) (by kernel_rfl) (by kernel_rfl) (fun _ _ _ h => h) (Or.inl ⟨by kernel_rfl, ?_⟩) HQ.out ?_
  · (intro X hX; obtain ⟨x0, x1, x2, x3, x4, x5⟩ := hX.ds; obtain ⟨o0, o1, o2, o3, o4⟩ := hX.os <;> (go_simp; try (with_reducible rfl)))
  (try simp only [Act.put, List.setIfInBounds_toArray, List.set_cons_zero, List.set_cons_succ])
  refine wpAnyN_take (i := 1) (oi := { dst := some 62, op := Go.Op.move (Go.Operand.tmp 9), type := 3, pos := "ref.go:263", after := #[{ on := 5, ground := Go.Ground.gcOnly Go.Departure.lateStores }], guard := none }) (oL := { dst := some 7, op := Go.Op.assign (Go.Operand.tmp 64), type := 3, pos := "ref.go:263", after := #[{ on := 3, ground := Go.Ground.data }, { on := 6, ground := Go.Ground.chain }, { on := 0, ground := Go.Ground.phase }, { on := 1, ground := Go.Ground.phase }, { on := 2, ground := Go.Ground.phase }, { on := 3, ground := Go.Ground.phase }, { on := 4, ground := Go.Ground.phase }, { on := 5, ground := Go.Ground.phase }, { on := 6, ground := Go.Ground.phase }], guard := none }) (v := .int .i64 rv) rfl rfl (by kernel_rfl) (by kernel_rfl) (by kernel_rfl) (by kernel_rfl) (fun _ _ _ h => h) (Or.inl ⟨by kernel_rfl, ?_⟩) HQ.out ?_
  · (intro X hX; obtain ⟨x0, x1, x2, x3, x4, x5⟩ := hX.ds; obtain ⟨o0, o1, o2, o3, o4⟩ := hX.os <;> (go_simp; try (with_reducible rfl)))
  (try simp only [Act.put, List.setIfInBounds_toArray, List.set_cons_zero, List.set_cons_succ])
  refine wpAnyN_take (i := 2) (oi := { dst := some 63, op := Go.Op.fieldAddr 32 (Go.Operand.tmp 2) 2, type := 0, pos := "ref.go:263", after := #[{ on := 6, ground := Go.Ground.gcOnly Go.Departure.lateStores }], guard := none }) (oL := { dst := some 7, op := Go.Op.assign (Go.Operand.tmp 64), type := 3, pos := "ref.go:263", after := #[{ on := 3, ground := Go.Ground.data }, { on := 6, ground := Go.Ground.chain }, { on := 0, ground := Go.Ground.phase }, { on := 1, ground := Go.Ground.phase }, { on := 2, ground := Go.Ground.phase }, { on := 3, ground := Go.Ground.phase }, { on := 4, ground := Go.Ground.phase }, { on := 5, ground := Go.Ground.phase }, { on := 6, ground := Go.Ground.phase }], guard := none }) (v := .pointer (some ⟨w.heap.size, 2, none⟩)) rfl rfl (by kernel_rfl) (by kernel_rfl) (by kernel_rfl) (by kernel_rfl) (fun _ _ _ h => h) (Or.inl ⟨by kernel_rfl, ?_⟩) HQ.out ?_
  · (intro X hX; obtain ⟨x0, x1, x2, x3, x4, x5⟩ := hX.ds; obtain ⟨o0, o1, o2, o3, o4⟩ := hX.os <;> (go_simp; try (with_reducible rfl)))
  (try simp only [Act.put, List.setIfInBounds_toArray, List.set_cons_zero, List.set_cons_succ])
  refine wpAnyN_take (i := 3) (oi := { dst := some 64, op := Go.Op.load 3 (Go.Operand.tmp 63), type := 3, pos := "ref.go:263", after := #[{ on := 2, ground := Go.Ground.data }, { on := 6, ground := Go.Ground.gcOnly Go.Departure.lateStores }], guard := none }) (oL := { dst := some 7, op := Go.Op.assign (Go.Operand.tmp 64), type := 3, pos := "ref.go:263", after := #[{ on := 3, ground := Go.Ground.data }, { on := 6, ground := Go.Ground.chain }, { on := 0, ground := Go.Ground.phase }, { on := 1, ground := Go.Ground.phase }, { on := 2, ground := Go.Ground.phase }, { on := 3, ground := Go.Ground.phase }, { on := 4, ground := Go.Ground.phase }, { on := 5, ground := Go.Ground.phase }, { on := 6, ground := Go.Ground.phase }], guard := none }) (v := .int .i64 (st + 1)) rfl rfl (by kernel_rfl) (by kernel_rfl) (by kernel_rfl) (by kernel_rfl) (fun _ _ _ h => h) (Or.inl ⟨by kernel_rfl, ?_⟩) HQ.out ?_
  · (intro X hX; obtain ⟨x0, x1, x2, x3, x4, x5⟩ := hX.ds; obtain ⟨o0, o1, o2, o3, o4⟩ := hX.os <;> (go_simp; try (with_reducible rfl)))
  (try simp only [Act.put, List.setIfInBounds_toArray, List.set_cons_zero, List.set_cons_succ])
  refine wpAnyN_one (i := 4) (o := { dst := none, op := Go.Op.store 32 (Go.Operand.tmp 4) (Go.Operand.tmp 61), type := 0, pos := "ref.go:263", after := #[{ on := 0, ground := Go.Ground.data }, { on := 0, ground := Go.Ground.phase }, { on := 1, ground := Go.Ground.textOnly Go.Departure.lateStores }, { on := 2, ground := Go.Ground.textOnly Go.Departure.lateStores }, { on := 3, ground := Go.Ground.textOnly Go.Departure.lateStores }], guard := none }) (by kernel_rfl) rfl (fun K hK => ?_)
  obtain ⟨cs, hr, hz⟩ := HQ.out.r
  refine wp_store_row 32 _ _ rfl (w.heap.size + 1 + 1) #[.slice fa fl fc, .int .i64 q, .int .i64 (st + 1), .slice sa sl sc, .int .i64 (si + 1), .bool false] rfl rfl 32 cs hr Tryz.sizeRD hz (by simp [Value.oneCell']) ?_
  clear hr hz
  refine hK.out _ _ (fun _ => (HQ.out.setR _ rfl)) ?_
  clear hK K
  (try simp only [Act.put])
  refine wpAnyN_take (i := 5) (oi := { dst := some 5, op := Go.Op.assign (Go.Operand.const (Go.Value.string { data := #[] })), type := 9, pos := "ref.go:263", after := #[{ on := 4, ground := Go.Ground.chain }, { on := 0, ground := Go.Ground.phase }, { on := 1, ground := Go.Ground.textOnly Go.Departure.lateStores }, { on := 2, ground := Go.Ground.textOnly Go.Departure.lateStores }, { on := 3, ground := Go.Ground.textOnly Go.Departure.lateStores }, { on := 4, ground := Go.Ground.phase }], guard := none }) (oL := { dst := some 7, op := Go.Op.assign (Go.Operand.tmp 64), type := 3, pos := "ref.go:263", after := #[{ on := 3, ground := Go.Ground.data }, { on := 6, ground := Go.Ground.chain }, { on := 0, ground := Go.Ground.phase }, { on := 1, ground := Go.Ground.phase }, { on := 2, ground := Go.Ground.phase }, { on := 3, ground := Go.Ground.phase }, { on := 4, ground := Go.Ground.phase }, { on := 5, ground := Go.Ground.phase }, { on := 6, ground := Go.Ground.phase }], guard := none }) (v := .string ⟨#[]⟩) rfl rfl (by kernel_rfl) (by kernel_rfl) (by kernel_rfl) (by kernel_rfl) (fun _ _ _ h => h) (Or.inl ⟨by kernel_rfl, ?_⟩) (HQ.out.setR _ rfl) ?_
  · (intro X hX; obtain ⟨x0, x1, x2, x3, x4, x5⟩ := hX.ds; obtain ⟨o0, o1, o2, o3, o4⟩ := hX.os <;> (go_simp; try (with_reducible rfl)))
  (try simp only [Act.put, List.setIfInBounds_toArray, List.set_cons_zero, List.set_cons_succ])
  refine wpAnyN_take (i := 6) (oi := { dst := some 6, op := Go.Op.assign (Go.Operand.tmp 62), type := 3, pos := "ref.go:263", after := #[{ on := 1, ground := Go.Ground.data }, { on := 5, ground := Go.Ground.chain }, { on := 0, ground := Go.Ground.phase }, { on := 1, ground := Go.Ground.phase }, { on := 2, ground := Go.Ground.textOnly Go.Departure.lateStores }, { on := 3, ground := Go.Ground.textOnly Go.Departure.lateStores }, { on := 4, ground := Go.Ground.phase }, { on := 5, ground := Go.Ground.phase }], guard := none }) (oL := { dst := some 7, op := Go.Op.assign (Go.Operand.tmp 64), type := 3, pos := "ref.go:263", after := #[{ on := 3, ground := Go.Ground.data }, { on := 6, ground := Go.Ground.chain }, { on := 0, ground := Go.Ground.phase }, { on := 1, ground := Go.Ground.phase }, { on := 2, ground := Go.Ground.phase }, { on := 3, ground := Go.Ground.phase }, { on := 4, ground := Go.Ground.phase }, { on := 5, ground := Go.Ground.phase }, { on := 6, ground := Go.Ground.phase }], guard := none }) (v := .int .i64 rv) rfl rfl (by kernel_rfl) (by kernel_rfl) (by kernel_rfl) (by kernel_rfl) (fun _ _ _ h => h) (Or.inl ⟨by kernel_rfl, ?_⟩) (HQ.out.setR _ rfl) ?_
  · (intro X hX; obtain ⟨x0, x1, x2, x3, x4, x5⟩ := hX.ds; obtain ⟨o0, o1, o2, o3, o4⟩ := hX.os <;> (go_simp; try (with_reducible rfl)))
  (try simp only [Act.put, List.setIfInBounds_toArray, List.set_cons_zero, List.set_cons_succ])
  refine wpAnyN_one (i := 7) (o := { dst := some 7, op := Go.Op.assign (Go.Operand.tmp 64), type := 3, pos := "ref.go:263", after := #[{ on := 3, ground := Go.Ground.data }, { on := 6, ground := Go.Ground.chain }, { on := 0, ground := Go.Ground.phase }, { on := 1, ground := Go.Ground.phase }, { on := 2, ground := Go.Ground.phase }, { on := 3, ground := Go.Ground.phase }, { on := 4, ground := Go.Ground.phase }, { on := 5, ground := Go.Ground.phase }, { on := 6, ground := Go.Ground.phase }], guard := none }) (by kernel_rfl) rfl (fun K hK => ?_)
  go_simp
  refine hK.out _ _ (fun e => absurd (e.symm.trans (by kernel_rfl) : false = true) Bool.false_ne_true) ?_
  clear hK K
  (try simp only [Act.put, List.setIfInBounds_toArray, List.set_cons_zero, List.set_cons_succ])
  refine wpAnyN_of_H (S' := fun _ => True) _ _ _ _ (by kernel_rfl) ?_
  refine wpAnyH_done (by kernel_rfl) ?_ _
  go_wp2_with fail
  obtain ⟨cs, hr, hz⟩ := HQ.out.r
  refine bodyPost_ret (resD4 rfl _ _ (w.heap.size + 1 + 1) 32 #[.slice fa fl fc, .int .i64 q, .int .i64 (st + 1), .slice sa sl sc, .int .i64 (si + 1), .bool false] (0, 0) _ rfl (setRow_heap _ _ _ _ _ _ hr) Tryz.underlying32 rfl Tryz.sizeRD) rfl ?_
  exact ⟨rfl, below_setQ HQ.out.below (by omega) _⟩
set_option maxRecDepth 20000 in
set_option maxHeartbeats 2000000 in
theorem rDo_refB (fa : Option Addr) (fl fc : Nat) (q st : Int) (g o : Nat) (sl sc : Nat) (si : Int) (kd : Int) (nm dst dat : ByteArray) (n : Int) (w : World) (hq0 : q ≠ 0) (hst0 : 0 ≤ st) (hst : st ≤ 1000000000) (hsi0 : 0 ≤ si) (hsi : si ≤ 1000000000) (h0 : 0 < (sl : Int)) (h0n : sl ≠ 0) (a : Int) (ha : (a == si + 1) = false) (hca : ∀ X, Below w.heap.size w X → X.cell? ⟨g, o, none⟩ = some (.int .i64 a)) (rv : Int) (hrv : (rv != 0) = true) (hrf : ∀ X, Below w.heap.size w X → Calls Tryz.prog 47 #[rdV (.slice fa fl fc) q (st + 1) (.slice (some ⟨g, o, none⟩) sl sc) (si + 1) false, opV kd nm dst dat n] X fun e w' => e = .returned (.int .i64 rv) ∧ Below X.heap.size X w') :
    Calls Tryz.prog 16 #[rdV (.slice fa fl fc) q st (.slice (some ⟨g, o, none⟩) sl sc) si false, opV kd nm dst dat n] w fun e w' => e = .returned (.tuple #[rdV (.slice fa fl fc) q (st + 1) (.slice (some ⟨g, o, none⟩) sl sc) (si + 1) false, .string ⟨#[]⟩, .int .i64 rv, .int .i64 (st + 1)]) ∧ Below w.heap.size w w' := by
  have HRf := Lib.hid hrf
  clear hrf
  have HCa := Lib.hid hca
  clear hca
  have h3 := doAt_start w (.slice fa fl fc) q st (.slice (some ⟨g, o, none⟩) sl sc) si false kd nm dst dat n
  obtain ⟨W3, hW3⟩ : ∃ W3, ((w.alloc (.cells #[.slice fa fl fc, .int .i64 q, .int .i64 st, .slice (some ⟨g, o, none⟩) sl sc, .int .i64 si, .bool false] 32)).alloc (.cells #[.int .i64 kd, .string nm, .string dst, .string dat, .int .i64 n] 55)).alloc (.cells #[.slice none 0 0, .int .i64 0, .int .i64 0, .slice none 0 0, .int .i64 0, .bool false] 32) = W3 := ⟨_, rfl⟩
  rw [hW3] at h3
  have HW := Lib.hid hW3
  obtain ⟨x0, x1, x2, x3, x4, x5⟩ := h3.ds
  have H3 := Lib.hid h3
  have HDn := Lib.hid (fun W => rIsDown_any (.slice fa fl fc) q st (.slice (some ⟨g, o, none⟩) sl sc) si false W)
  clear h3 hW3
  rw [show (false || q == 0) = false by rw [Bool.false_or]; exact beq_eq_false_iff_ne.2 hq0] at HDn
  clear hq0
  unfold rdV opV at *
  go_enter Tryz.func16, Tryz.ntmps16
  go_upto_region 1 with fail
  rw [HW.out]
  go_upto_region 3 with (go_at_call 31; refine (HDn.out _).mono ?_; rintro e w4 ⟨rfl, hb4⟩; have HQ := Lib.hid (H3.out.on hb4); clear hb4)
  clear x0 x1 x2 x3 x4 x5
  obtain ⟨x0, x1, x2, x3, x4, x5⟩ := HQ.out.ds
  have f2 := HQ.out.df 2
  have f4 := HQ.out.df 4
  have HQ2 := Lib.hid ((HQ.out.set 2 (.int .i64 (st + 1)) _ (st + 1) _ si false rfl).set 4 (.int .i64 (si + 1)) _ _ _ (si + 1) false rfl)
  clear HQ H3 HW HDn
  go_upto_region 5 with fail
  generalize (w4.setCell ⟨w.heap.size, 2, none⟩ (.int .i64 (st + 1))).setCell ⟨w.heap.size, 4, none⟩ (.int .i64 (si + 1)) = Y at HQ2 ⊢
  clear x0 x1 x2 x3 x4 x5 f2 f4
  obtain ⟨x0, x1, x2, x3, x4, x5⟩ := HQ2.out.ds
  refine wp_region_N 13 (fun X => DoAt w (.slice fa fl fc) q (st + 1) (.slice (some ⟨g, o, none⟩) sl sc) (si + 1) false kd nm dst dat n X) (by kernel_rfl) ?_
  refine wpAnyN_take (i := 0) (oi := { dst := some 21, op := Go.Op.fieldAddr 32 (Go.Operand.tmp 2) 3, type := 0, pos := "ref.go:254", after := #[], guard := none }) (oL := { dst := some 34, op := Go.Op.pick (Go.Operand.tmp 25) (Go.Operand.tmp 33) (Go.Operand.const (Go.Value.bool false)), type := 4, pos := "ref.go:254", after := #[{ on := 4, ground := Go.Ground.data }, { on := 12, ground := Go.Ground.data }], guard := none }) (v := .pointer (some ⟨w.heap.size, 3, none⟩)) rfl rfl (by kernel_rfl) (by kernel_rfl) (by kernel_rfl) (by kernel_rfl) (fun _ _ _ h => h) (Or.inl ⟨by kernel_rfl, ?_⟩) HQ2.out.drew ?_
  · (intro X hX; obtain ⟨x0, x1, x2, x3, x4, x5⟩ := hX.ds; have c0 := HCa.out _ hX.below <;> (go_simp; (try (with_reducible rfl)); (try omega)))
  (try simp only [Act.put, List.setIfInBounds_toArray, List.set_cons_zero, List.set_cons_succ])
  refine wpAnyN_take (i := 1) (oi := { dst := some 22, op := Go.Op.load 30 (Go.Operand.tmp 21), type := 30, pos := "ref.go:254", after := #[{ on := 0, ground := Go.Ground.data }], guard := none }) (oL := { dst := some 34, op := Go.Op.pick (Go.Operand.tmp 25) (Go.Operand.tmp 33) (Go.Operand.const (Go.Value.bool false)), type := 4, pos := "ref.go:254", after := #[{ on := 4, ground := Go.Ground.data }, { on := 12, ground := Go.Ground.data }], guard := none }) (v := .slice (some ⟨g, o, none⟩) sl sc) rfl rfl (by kernel_rfl) (by kernel_rfl) (by kernel_rfl) (by kernel_rfl) (fun _ _ _ h => h) (Or.inl ⟨by kernel_rfl, ?_⟩) HQ2.out.drew ?_
  · (intro X hX; obtain ⟨x0, x1, x2, x3, x4, x5⟩ := hX.ds; have c0 := HCa.out _ hX.below <;> (go_simp; (try (with_reducible rfl)); (try omega)))
  (try simp only [Act.put, List.setIfInBounds_toArray, List.set_cons_zero, List.set_cons_succ])
  refine wpAnyN_take (i := 2) (oi := { dst := some 23, op := Go.Op.call { callee := Go.Callee.builtin Go.Builtin.len, args := #[Go.Operand.tmp 22], argTypes := #[30] }, type := 3, pos := "ref.go:254", after := #[{ on := 1, ground := Go.Ground.data }], guard := none }) (oL := { dst := some 34, op := Go.Op.pick (Go.Operand.tmp 25) (Go.Operand.tmp 33) (Go.Operand.const (Go.Value.bool false)), type := 4, pos := "ref.go:254", after := #[{ on := 4, ground := Go.Ground.data }, { on := 12, ground := Go.Ground.data }], guard := none }) (v := .int .i64 (sl : Int)) rfl rfl (by kernel_rfl) (by kernel_rfl) (by kernel_rfl) (by kernel_rfl) (fun _ _ _ h => h) (Or.inl ⟨by kernel_rfl, ?_⟩) HQ2.out.drew ?_
  · (intro X hX; obtain ⟨x0, x1, x2, x3, x4, x5⟩ := hX.ds; have c0 := HCa.out _ hX.below <;> (go_simp; (try (with_reducible rfl)); (try omega)))
  (try simp only [Act.put, List.setIfInBounds_toArray, List.set_cons_zero, List.set_cons_succ])
  refine wpAnyN_take (i := 3) (oi := { dst := some 24, op := Go.Op.binOp Go.BinOp.gtr 3 (Go.Operand.tmp 23) (Go.Operand.const (Go.Value.int Go.IntKind.i64 0)) 3, type := 4, pos := "ref.go:254", after := #[{ on := 2, ground := Go.Ground.data }], guard := none }) (oL := { dst := some 34, op := Go.Op.pick (Go.Operand.tmp 25) (Go.Operand.tmp 33) (Go.Operand.const (Go.Value.bool false)), type := 4, pos := "ref.go:254", after := #[{ on := 4, ground := Go.Ground.data }, { on := 12, ground := Go.Ground.data }], guard := none }) (v := .bool true) rfl rfl (by kernel_rfl) (by kernel_rfl) (by kernel_rfl) (by kernel_rfl) (fun _ _ _ h => h) (Or.inl ⟨by kernel_rfl, ?_⟩) HQ2.out.drew ?_
  · (intro X hX; obtain ⟨x0, x1, x2, x3, x4, x5⟩ := hX.ds; have c0 := HCa.out _ hX.below <;> (go_simp; (try (with_reducible rfl)); (try omega)))
  (try simp only [Act.put, List.setIfInBounds_toArray, List.set_cons_zero, List.set_cons_succ])
  refine wpAnyN_take (i := 4) (oi := { dst := some 25, op := Go.Op.move (Go.Operand.tmp 24), type := 4, pos := "ref.go:254", after := #[{ on := 3, ground := Go.Ground.data }], guard := none }) (oL := { dst := some 34, op := Go.Op.pick (Go.Operand.tmp 25) (Go.Operand.tmp 33) (Go.Operand.const (Go.Value.bool false)), type := 4, pos := "ref.go:254", after := #[{ on := 4, ground := Go.Ground.data }, { on := 12, ground := Go.Ground.data }], guard := none }) (v := .bool true) rfl rfl (by kernel_rfl) (by kernel_rfl) (by kernel_rfl) (by kernel_rfl) (fun _ _ _ h => h) (Or.inl ⟨by kernel_rfl, ?_⟩) HQ2.out.drew ?_
  · (intro X hX; obtain ⟨x0, x1, x2, x3, x4, x5⟩ := hX.ds; have c0 := HCa.out _ hX.below <;> (go_simp; (try (with_reducible rfl)); (try omega)))
  (try simp only [Act.put, List.setIfInBounds_toArray, List.set_cons_zero, List.set_cons_succ])
  refine wpAnyN_take (i := 5) (oi := { dst := some 26, op := Go.Op.fieldAddr 32 (Go.Operand.tmp 2) 3, type := 0, pos := "ref.go:254", after := #[{ on := 4, ground := Go.Ground.guard }], guard := some (4, true) }) (oL := { dst := some 34, op := Go.Op.pick (Go.Operand.tmp 25) (Go.Operand.tmp 33) (Go.Operand.const (Go.Value.bool false)), type := 4, pos := "ref.go:254", after := #[{ on := 4, ground := Go.Ground.data }, { on := 12, ground := Go.Ground.data }], guard := none }) (v := .pointer (some ⟨w.heap.size, 3, none⟩)) rfl rfl (by kernel_rfl) (by kernel_rfl) (by kernel_rfl) (by kernel_rfl) (fun _ _ _ h => h) (Or.inl ⟨by kernel_rfl, ?_⟩) HQ2.out.drew ?_
  · (intro X hX; obtain ⟨x0, x1, x2, x3, x4, x5⟩ := hX.ds; have c0 := HCa.out _ hX.below <;> (go_simp; (try (with_reducible rfl)); (try omega)))
  (try simp only [Act.put, List.setIfInBounds_toArray, List.set_cons_zero, List.set_cons_succ])
  refine wpAnyN_take (i := 6) (oi := { dst := some 27, op := Go.Op.load 30 (Go.Operand.tmp 26), type := 30, pos := "ref.go:254", after := #[{ on := 5, ground := Go.Ground.data }, { on := 4, ground := Go.Ground.guard }], guard := some (4, true) }) (oL := { dst := some 34, op := Go.Op.pick (Go.Operand.tmp 25) (Go.Operand.tmp 33) (Go.Operand.const (Go.Value.bool false)), type := 4, pos := "ref.go:254", after := #[{ on := 4, ground := Go.Ground.data }, { on := 12, ground := Go.Ground.data }], guard := none }) (v := .slice (some ⟨g, o, none⟩) sl sc) rfl rfl (by kernel_rfl) (by kernel_rfl) (by kernel_rfl) (by kernel_rfl) (fun _ _ _ h => h) (Or.inl ⟨by kernel_rfl, ?_⟩) HQ2.out.drew ?_
  · (intro X hX; obtain ⟨x0, x1, x2, x3, x4, x5⟩ := hX.ds; have c0 := HCa.out _ hX.below <;> (go_simp; (try (with_reducible rfl)); (try omega)))
  (try simp only [Act.put, List.setIfInBounds_toArray, List.set_cons_zero, List.set_cons_succ])
  refine wpAnyN_take (i := 7) (oi := { dst := some 28, op := Go.Op.indexAddr 30 (Go.Operand.tmp 27) (Go.Operand.const (Go.Value.int Go.IntKind.i64 0)), type := 0, pos := "ref.go:254", after := #[{ on := 6, ground := Go.Ground.data }, { on := 4, ground := Go.Ground.guard }], guard := some (4, true) }) (oL := { dst := some 34, op := Go.Op.pick (Go.Operand.tmp 25) (Go.Operand.tmp 33) (Go.Operand.const (Go.Value.bool false)), type := 4, pos := "ref.go:254", after := #[{ on := 4, ground := Go.Ground.data }, { on := 12, ground := Go.Ground.data }], guard := none }) (v := .pointer (some ⟨g, o, none⟩)) rfl rfl (by kernel_rfl) (by kernel_rfl) (by kernel_rfl) (by kernel_rfl) (fun _ _ _ h => h) (Or.inl ⟨by kernel_rfl, ?_⟩) HQ2.out.drew ?_
  · (intro X hX; obtain ⟨x0, x1, x2, x3, x4, x5⟩ := hX.ds; have c0 := HCa.out _ hX.below <;> (go_simp; (try (with_reducible rfl)); (try omega)))
  (try simp only [Act.put, List.setIfInBounds_toArray, List.set_cons_zero, List.set_cons_succ])
  refine wpAnyN_take (i := 8) (oi := { dst := some 29, op := Go.Op.fieldAddr 62 (Go.Operand.tmp 28) 0, type := 0, pos := "ref.go:254", after := #[{ on := 7, ground := Go.Ground.data }, { on := 4, ground := Go.Ground.guard }], guard := some (4, true) }) (oL := { dst := some 34, op := Go.Op.pick (Go.Operand.tmp 25) (Go.Operand.tmp 33) (Go.Operand.const (Go.Value.bool false)), type := 4, pos := "ref.go:254", after := #[{ on := 4, ground := Go.Ground.data }, { on := 12, ground := Go.Ground.data }], guard := none }) (v := .pointer (some ⟨g, o, none⟩)) rfl rfl (by kernel_rfl) (by kernel_rfl) (by kernel_rfl) (by kernel_rfl) (fun _ _ _ h => h) (Or.inl ⟨by kernel_rfl, ?_⟩) HQ2.out.drew ?_
  · (intro X hX; obtain ⟨x0, x1, x2, x3, x4, x5⟩ := hX.ds; have c0 := HCa.out _ hX.below <;> (go_simp; (try (with_reducible rfl)); (try omega)))
  (try simp only [Act.put, List.setIfInBounds_toArray, List.set_cons_zero, List.set_cons_succ])
  refine wpAnyN_take (i := 9) (oi := { dst := some 30, op := Go.Op.load 3 (Go.Operand.tmp 29), type := 3, pos := "ref.go:254", after := #[{ on := 8, ground := Go.Ground.data }, { on := 4, ground := Go.Ground.guard }], guard := some (4, true) }) (oL := { dst := some 34, op := Go.Op.pick (Go.Operand.tmp 25) (Go.Operand.tmp 33) (Go.Operand.const (Go.Value.bool false)), type := 4, pos := "ref.go:254", after := #[{ on := 4, ground := Go.Ground.data }, { on := 12, ground := Go.Ground.data }], guard := none }) (v := .int .i64 a) rfl rfl (by kernel_rfl) (by kernel_rfl) (by kernel_rfl) (by kernel_rfl) (fun _ _ _ h => h) (Or.inl ⟨by kernel_rfl, ?_⟩) HQ2.out.drew ?_
  · (intro X hX; obtain ⟨x0, x1, x2, x3, x4, x5⟩ := hX.ds; have c0 := HCa.out _ hX.below <;> (go_simp; (try (with_reducible rfl)); (try omega)))
  (try simp only [Act.put, List.setIfInBounds_toArray, List.set_cons_zero, List.set_cons_succ])
  refine wpAnyN_take (i := 10) (oi := { dst := some 31, op := Go.Op.fieldAddr 32 (Go.Operand.tmp 2) 4, type := 0, pos := "ref.go:254", after := #[{ on := 4, ground := Go.Ground.guard }], guard := some (4, true) }) (oL := { dst := some 34, op := Go.Op.pick (Go.Operand.tmp 25) (Go.Operand.tmp 33) (Go.Operand.const (Go.Value.bool false)), type := 4, pos := "ref.go:254", after := #[{ on := 4, ground := Go.Ground.data }, { on := 12, ground := Go.Ground.data }], guard := none }) (v := .pointer (some ⟨w.heap.size, 4, none⟩)) rfl rfl (by kernel_rfl) (by kernel_rfl) (by kernel_rfl) (by kernel_rfl) (fun _ _ _ h => h) (Or.inl ⟨by kernel_rfl, ?_⟩) HQ2.out.drew ?_
  · (intro X hX; obtain ⟨x0, x1, x2, x3, x4, x5⟩ := hX.ds; have c0 := HCa.out _ hX.below <;> (go_simp; (try (with_reducible rfl)); (try omega)))
  (try simp only [Act.put, List.setIfInBounds_toArray, List.set_cons_zero, List.set_cons_succ])
  refine wpAnyN_take (i := 11) (oi := { dst := some 32, op := Go.Op.load 3 (Go.Operand.tmp 31), type := 3, pos := "ref.go:254", after := #[{ on := 10, ground := Go.Ground.data }, { on := 4, ground := Go.Ground.guard }], guard := some (4, true) }) (oL := { dst := some 34, op := Go.Op.pick (Go.Operand.tmp 25) (Go.Operand.tmp 33) (Go.Operand.const (Go.Value.bool false)), type := 4, pos := "ref.go:254", after := #[{ on := 4, ground := Go.Ground.data }, { on := 12, ground := Go.Ground.data }], guard := none }) (v := .int .i64 (si + 1)) rfl rfl (by kernel_rfl) (by kernel_rfl) (by kernel_rfl) (by kernel_rfl) (fun _ _ _ h => h) (Or.inl ⟨by kernel_rfl, ?_⟩) HQ2.out.drew ?_
  · (intro X hX; obtain ⟨x0, x1, x2, x3, x4, x5⟩ := hX.ds; have c0 := HCa.out _ hX.below <;> (go_simp; (try (with_reducible rfl)); (try omega)))
  (try simp only [Act.put, List.setIfInBounds_toArray, List.set_cons_zero, List.set_cons_succ])
  refine wpAnyN_take (i := 12) (oi := { dst := some 33, op := Go.Op.binOp Go.BinOp.eql 3 (Go.Operand.tmp 30) (Go.Operand.tmp 32) 3, type := 4, pos := "ref.go:254", after := #[{ on := 9, ground := Go.Ground.data }, { on := 11, ground := Go.Ground.data }, { on := 4, ground := Go.Ground.guard }], guard := some (4, true) }) (oL := { dst := some 34, op := Go.Op.pick (Go.Operand.tmp 25) (Go.Operand.tmp 33) (Go.Operand.const (Go.Value.bool false)), type := 4, pos := "ref.go:254", after := #[{ on := 4, ground := Go.Ground.data }, { on := 12, ground := Go.Ground.data }], guard := none }) (v := .bool false) rfl rfl (by kernel_rfl) (by kernel_rfl) (by kernel_rfl) (by kernel_rfl) (fun _ _ _ h => h) (Or.inl ⟨by kernel_rfl, ?_⟩) HQ2.out.drew ?_
  · (intro X hX; obtain ⟨x0, x1, x2, x3, x4, x5⟩ := hX.ds; have c0 := HCa.out _ hX.below <;> (go_simp; (try (with_reducible rfl)); (try omega)))
  (try simp only [Act.put, List.setIfInBounds_toArray, List.set_cons_zero, List.set_cons_succ])
  refine wpAnyN_one (i := 13) (o := { dst := some 34, op := Go.Op.pick (Go.Operand.tmp 25) (Go.Operand.tmp 33) (Go.Operand.const (Go.Value.bool false)), type := 4, pos := "ref.go:254", after := #[{ on := 4, ground := Go.Ground.data }, { on := 12, ground := Go.Ground.data }], guard := none }) (by kernel_rfl) rfl (fun K hK => ?_)
  go_simp
  refine hK.out _ _ (fun e => absurd (e.symm.trans (by kernel_rfl) : false = true) Bool.false_ne_true) ?_
  clear hK K
  (try simp only [Act.put, List.setIfInBounds_toArray, List.set_cons_zero, List.set_cons_succ])
  refine wpAnyN_of_H (S' := fun _ => True) _ _ _ _ (by kernel_rfl) ?_
  refine wpAnyH_done (by kernel_rfl) ?_ _
  have HQ := Lib.hid HQ2.out.drew
  generalize Y.drew = Y2 at HQ ⊢
  clear x0 x1 x2 x3 x4 x5
  clear HQ2
  obtain ⟨x0, x1, x2, x3, x4, x5⟩ := HQ.out.ds
  obtain ⟨o0, o1, o2, o3, o4⟩ := HQ.out.os
  go_upto_region 12 with (go_at_call 47; refine (HRf.out _ HQ.out.below).mono ?_; rintro e w5 ⟨rfl, hb5⟩; have HQ5 := Lib.hid (HQ.out.on hb5); clear hb5)
  clear x0 x1 x2 x3 x4 x5 o0 o1 o2 o3 o4
  clear HQ HRf
  go_upto_region 13 with fail
  have HQ := Lib.hid HQ5.out.drew
  clear HQ5
  refine wp_region_N 7 (fun X => DoAt w (.slice fa fl fc) q (st + 1) (.slice (some ⟨g, o, none⟩) sl sc) (si + 1) false kd nm dst dat n X) (by kernel_rfl) ?_
  refine wpAnyN_take (i := 0) (oi := { dst := some 61, op := Go.Op.load 32 (Go.Operand.tmp 2), type := 32, pos := "ref.go:263", after := #[], guard := none }) (oL := { dst := some 7, op := Go.Op.assign (Go.Operand.tmp 64), type := 3, pos := "ref.go:263", after := #[{ on := 3, ground := Go.Ground.data }, { on := 6, ground := Go.Ground.chain }, { on := 0, ground := Go.Ground.phase }, { on := 1, ground := Go.Ground.phase }, { on := 2, ground := Go.Ground.phase }, { on := 3, ground := Go.Ground.phase }, { on := 4, ground := Go.Ground.phase }, { on := 5, ground := Go.Ground.phase }, { on := 6, ground := Go.Ground.phase }], guard := none }) (v := .agg #[.slice fa fl fc, .int .i64 q, .int .i64 (st + 1), .slice (some ⟨g, o, none⟩) sl sc, .int .i64 (si + 1), .bool false]) rfl rfl (by kernel_rfl) (by kernel_rfl) (by kernel_rfl) (by kernel_rfl) (fun _ _ _ h => h) (Or.inl ⟨by kernel_rfl, ?_⟩) HQ.out ?_
  · (intro X hX; obtain ⟨x0, x1, x2, x3, x4, x5⟩ := hX.ds; obtain ⟨o0, o1, o2, o3, o4⟩ := hX.os <;> (go_simp; try (with_reducible rfl)))
  (try simp only [Act.put, List.setIfInBounds_toArray, List.set_cons_zero, List.set_cons_succ])
  refine wpAnyN_take (i := 1) (oi := { dst := some 62, op := Go.Op.move (Go.Operand.tmp 9), type := 3, pos := "ref.go:263", after := #[{ on := 5, ground := Go.Ground.gcOnly Go.Departure.lateStores }], guard := none }) (oL := { dst := some 7, op := Go.Op.assign (Go.Operand.tmp 64), type := 3, pos := "ref.go:263", after := #[{ on := 3, ground := Go.Ground.data }, { on := 6, ground := Go.Ground.chain }, { on := 0, ground := Go.Ground.phase }, { on := 1, ground := Go.Ground.phase }, { on := 2, ground := Go.Ground.phase }, { on := 3, ground := Go.Ground.phase }, { on := 4, ground := Go.Ground.phase }, { on := 5, ground := Go.Ground.phase }, { on := 6, ground := Go.Ground.phase }], guard := none }) (v := .int .i64 rv) rfl rfl (by kernel_rfl) (by kernel_rfl) (by kernel_rfl) (by kernel_rfl) (fun _ _ _ h => h) (Or.inl ⟨by kernel_rfl, ?_⟩) HQ.out ?_
  · (intro X hX; obtain ⟨x0, x1, x2, x3, x4, x5⟩ := hX.ds; obtain ⟨o0, o1, o2, o3, o4⟩ := hX.os <;> (go_simp; try (with_reducible rfl)))
  (try simp only [Act.put, List.setIfInBounds_toArray, List.set_cons_zero, List.set_cons_succ])
  refine wpAnyN_take (i := 2) (oi := { dst := some 63, op := Go.Op.fieldAddr 32 (Go.Operand.tmp 2) 2, type := 0, pos := "ref.go:263", after := #[{ on := 6, ground := Go.Ground.gcOnly Go.Departure.lateStores }], guard := none }) (oL := { dst := some 7, op := Go.Op.assign (Go.Operand.tmp 64), type := 3, pos := "ref.go:263", after := #[{ on := 3, ground := Go.Ground.data }, { on := 6, ground := Go.Ground.chain }, { on := 0, ground := Go.Ground.phase }, { on := 1, ground := Go.Ground.phase }, { on := 2, ground := Go.Ground.phase }, { on := 3, ground := Go.Ground.phase }, { on := 4, ground := Go.Ground.phase }, { on := 5, ground := Go.Ground.phase }, { on := 6, ground := Go.Ground.phase }], guard := none }) (v := .pointer (some ⟨w.heap.size, 2, none⟩)) rfl rfl (by kernel_rfl) (by kernel_rfl) (by kernel_rfl) (by kernel_rfl) (fun _ _ _ h => h) (Or.inl ⟨by kernel_rfl, ?_⟩) HQ.out ?_
  · (intro X hX; obtain ⟨x0, x1, x2, x3, x4, x5⟩ := hX.ds; obtain ⟨o0, o1, o2, o3, o4⟩ := hX.os <;> (go_simp; try (with_reducible rfl)))
  (try simp only [Act.put, List.setIfInBounds_toArray, List.set_cons_zero, List.set_cons_succ])
  refine wpAnyN_take (i := 3) (oi := { dst := some 64, op := Go.Op.load 3 (Go.Operand.tmp 63), type := 3, pos := "ref.go:263", after := #[{ on := 2, ground := Go.Ground.data }, { on := 6, ground := Go.Ground.gcOnly Go.Departure.lateStores }], guard := none }) (oL := { dst := some 7, op := Go.Op.assign (Go.Operand.tmp 64), type := 3, pos := "ref.go:263", after := #[{ on := 3, ground := Go.Ground.data }, { on := 6, ground := Go.Ground.chain }, { on := 0, ground := Go.Ground.phase }, { on := 1, ground := Go.Ground.phase }, { on := 2, ground := Go.Ground.phase }, { on := 3, ground := Go.Ground.phase }, { on := 4, ground := Go.Ground.phase }, { on := 5, ground := Go.Ground.phase }, { on := 6, ground := Go.Ground.phase }], guard := none }) (v := .int .i64 (st + 1)) rfl rfl (by kernel_rfl) (by kernel_rfl) (by kernel_rfl) (by kernel_rfl) (fun _ _ _ h => h) (Or.inl ⟨by kernel_rfl, ?_⟩) HQ.out ?_
  · (intro X hX; obtain ⟨x0, x1, x2, x3, x4, x5⟩ := hX.ds; obtain ⟨o0, o1, o2, o3, o4⟩ := hX.os <;> (go_simp; try (with_reducible rfl)))
  (try simp only [Act.put, List.setIfInBounds_toArray, List.set_cons_zero, List.set_cons_succ])
  refine wpAnyN_one (i := 4) (o := { dst := none, op := Go.Op.store 32 (Go.Operand.tmp 4) (Go.Operand.tmp 61), type := 0, pos := "ref.go:263", after := #[{ on := 0, ground := Go.Ground.data }, { on := 0, ground := Go.Ground.phase }, { on := 1, ground := Go.Ground.textOnly Go.Departure.lateStores }, { on := 2, ground := Go.Ground.textOnly Go.Departure.lateStores }, { on := 3, ground := Go.Ground.textOnly Go.Departure.lateStores }], guard := none }) (by kernel_rfl) rfl (fun K hK => ?_)
  obtain ⟨cs, hr, hz⟩ := HQ.out.r
  refine wp_store_row 32 _ _ rfl (w.heap.size + 1 + 1) #[.slice fa fl fc, .int .i64 q, .int .i64 (st + 1), .slice (some ⟨g, o, none⟩) sl sc, .int .i64 (si + 1), .bool false] rfl rfl 32 cs hr Tryz.sizeRD hz (by simp [Value.oneCell']) ?_
  clear hr hz
  refine hK.out _ _ (fun _ => (HQ.out.setR _ rfl)) ?_
  clear hK K
  (try simp only [Act.put])
  refine wpAnyN_take (i := 5) (oi := { dst := some 5, op := Go.Op.assign (Go.Operand.const (Go.Value.string { data := #[] })), type := 9, pos := "ref.go:263", after := #[{ on := 4, ground := Go.Ground.chain }, { on := 0, ground := Go.Ground.phase }, { on := 1, ground := Go.Ground.textOnly Go.Departure.lateStores }, { on := 2, ground := Go.Ground.textOnly Go.Departure.lateStores }, { on := 3, ground := Go.Ground.textOnly Go.Departure.lateStores }, { on := 4, ground := Go.Ground.phase }], guard := none }) (oL := { dst := some 7, op := Go.Op.assign (Go.Operand.tmp 64), type := 3, pos := "ref.go:263", after := #[{ on := 3, ground := Go.Ground.data }, { on := 6, ground := Go.Ground.chain }, { on := 0, ground := Go.Ground.phase }, { on := 1, ground := Go.Ground.phase }, { on := 2, ground := Go.Ground.phase }, { on := 3, ground := Go.Ground.phase }, { on := 4, ground := Go.Ground.phase }, { on := 5, ground := Go.Ground.phase }, { on := 6, ground := Go.Ground.phase }], guard := none }) (v := .string ⟨#[]⟩) rfl rfl (by kernel_rfl) (by kernel_rfl) (by kernel_rfl) (by kernel_rfl) (fun _ _ _ h => h) (Or.inl ⟨by kernel_rfl, ?_⟩) (HQ.out.setR _ rfl) ?_
  · (intro X hX; obtain ⟨x0, x1, x2, x3, x4, x5⟩ := hX.ds; obtain ⟨o0, o1, o2, o3, o4⟩ := hX.os <;> (go_simp; try (with_reducible rfl)))
  (try simp only [Act.put, List.setIfInBounds_toArray, List.set_cons_zero, List.set_cons_succ])
  refine wpAnyN_take (i := 6) (oi := { dst := some 6, op := Go.Op.assign (Go.Operand.tmp 62), type := 3, pos := "ref.go:263", after := #[{ on := 1, ground := Go.Ground.data }, { on := 5, ground := Go.Ground.chain }, { on := 0, ground := Go.Ground.phase }, { on := 1, ground := Go.Ground.phase }, { on := 2, ground := Go.Ground.textOnly Go.Departure.lateStores }, { on := 3, ground := Go.Ground.textOnly Go.Departure.lateStores }, { on := 4, ground := Go.Ground.phase }, { on := 5, ground := Go.Ground.phase }], guard := none }) (oL := { dst := some 7, op := Go.Op.assign (Go.Operand.tmp 64), type := 3, pos := "ref.go:263", after := #[{ on := 3, ground := Go.Ground.data }, { on := 6, ground := Go.Ground.chain }, { on := 0, ground := Go.Ground.phase }, { on := 1, ground := Go.Ground.phase }, { on := 2, ground := Go.Ground.phase }, { on := 3, ground := Go.Ground.phase }, { on := 4, ground := Go.Ground.phase }, { on := 5, ground := Go.Ground.phase }, { on := 6, ground := Go.Ground.phase }], guard := none }) (v := .int .i64 rv) rfl rfl (by kernel_rfl) (by kernel_rfl) (by kernel_rfl) (by kernel_rfl) (fun _ _ _ h => h) (Or.inl ⟨by kernel_rfl, ?_⟩) (HQ.out.setR _ rfl) ?_
  · (intro X hX; obtain ⟨x0, x1, x2, x3, x4, x5⟩ := hX.ds; obtain ⟨o0, o1, o2, o3, o4⟩ := hX.os <;> (go_simp; try (with_reducible rfl)))
  (try simp only [Act.put, List.setIfInBounds_toArray, List.set_cons_zero, List.set_cons_succ])
  refine wpAnyN_one (i := 7) (o := { dst := some 7, op := Go.Op.assign (Go.Operand.tmp 64), type := 3, pos := "ref.go:263", after := #[{ on := 3, ground := Go.Ground.data }, { on := 6, ground := Go.Ground.chain }, { on := 0, ground := Go.Ground.phase }, { on := 1, ground := Go.Ground.phase }, { on := 2, ground := Go.Ground.phase }, { on := 3, ground := Go.Ground.phase }, { on := 4, ground := Go.Ground.phase }, { on := 5, ground := Go.Ground.phase }, { on := 6, ground := Go.Ground.phase }], guard := none }) (by kernel_rfl) rfl (fun K hK => ?_)
  go_simp
  refine hK.out _ _ (fun e => absurd (e.symm.trans (by kernel_rfl) : false = true) Bool.false_ne_true) ?_
  clear hK K
  (try simp only [Act.put, List.setIfInBounds_toArray, List.set_cons_zero, List.set_cons_succ])
  refine wpAnyN_of_H (S' := fun _ => True) _ _ _ _ (by kernel_rfl) ?_
  refine wpAnyH_done (by kernel_rfl) ?_ _
  go_wp2_with fail
  obtain ⟨cs, hr, hz⟩ := HQ.out.r
  refine bodyPost_ret (resD4 rfl _ _ (w.heap.size + 1 + 1) 32 #[.slice fa fl fc, .int .i64 q, .int .i64 (st + 1), .slice (some ⟨g, o, none⟩) sl sc, .int .i64 (si + 1), .bool false] (0, 0) _ rfl (setRow_heap _ _ _ _ _ _ hr) Tryz.underlying32 rfl Tryz.sizeRD) rfl ?_
  exact ⟨rfl, below_setQ HQ.out.below (by omega) _⟩
end Go.Proofs.YtgafomknpdnfcaaGreatDoor

/- The document's disk: Do, what is done. -/
namespace Go.Proofs.YtgafomknpdnfcaaGreatDoor
open Go.RowKit

set_option maxRecDepth 20000 in
set_option maxHeartbeats 2000000 in
theorem rDo_doneA (fa : Option Addr) (fl fc : Nat) (q st : Int) (sa : Option Addr) (sl sc : Nat) (si : Int) (kd : Int) (nm dst dat : ByteArray) (n : Int) (w : World) (hq0 : q ≠ 0) (hst0 : 0 ≤ st) (hst : st ≤ 1000000000) (hsi0 : 0 ≤ si) (hsi : si ≤ 1000000000) (h0 : ¬ 0 < (sl : Int)) (hrf : ∀ X, Below w.heap.size w X → Calls Tryz.prog 47 #[rdV (.slice fa fl fc) q (st + 1) (.slice sa sl sc) (si + 1) false, opV kd nm dst dat n] X fun e w' => e = .returned (.int .i64 0) ∧ Below X.heap.size X w') (hkd : (kd == 3) = false) (l2 : List PF) (hdn : ∀ X, Below w.heap.size w X → Calls Tryz.prog 49 #[rdV (.slice fa fl fc) q (st + 1) (.slice sa sl sc) (si + 1) false, opV kd nm dst dat n] X fun e w' => ∃ v, e = .returned v ∧ OwnF X.heap.size v l2 X w') :
    Calls Tryz.prog 16 #[rdV (.slice fa fl fc) q st (.slice sa sl sc) si false, opV kd nm dst dat n] w fun e w' => ∃ v, e = .returned (.tuple #[rdV v q (st + 1) (.slice sa sl sc) (si + 1) false, .string ⟨#[]⟩, .int .i64 0, .int .i64 (st + 1)]) ∧ FsAt w' v l2 ∧ Below w.heap.size w w' ∧ ∀ b, v.ownBlock = some b → w.heap.size ≤ b := by
  have HRf := Lib.hid hrf
  have HDo := Lib.hid hdn
  clear hrf hdn
  have h3 := doAt_start w (.slice fa fl fc) q st (.slice sa sl sc) si false kd nm dst dat n
  obtain ⟨W3, hW3⟩ : ∃ W3, ((w.alloc (.cells #[.slice fa fl fc, .int .i64 q, .int .i64 st, .slice sa sl sc, .int .i64 si, .bool false] 32)).alloc (.cells #[.int .i64 kd, .string nm, .string dst, .string dat, .int .i64 n] 55)).alloc (.cells #[.slice none 0 0, .int .i64 0, .int .i64 0, .slice none 0 0, .int .i64 0, .bool false] 32) = W3 := ⟨_, rfl⟩
  rw [hW3] at h3
  have HW := Lib.hid hW3
  obtain ⟨x0, x1, x2, x3, x4, x5⟩ := h3.ds
  have H3 := Lib.hid h3
  have HDn := Lib.hid (fun W => rIsDown_any (.slice fa fl fc) q st (.slice sa sl sc) si false W)
  clear h3 hW3
  rw [show (false || q == 0) = false by rw [Bool.false_or]; exact beq_eq_false_iff_ne.2 hq0] at HDn
  clear hq0
  unfold rdV opV at *
  go_enter Tryz.func16, Tryz.ntmps16
  go_upto_region 1 with fail
  rw [HW.out]
  go_upto_region 3 with (go_at_call 31; refine (HDn.out _).mono ?_; rintro e w4 ⟨rfl, hb4⟩; have HQ := Lib.hid (H3.out.on hb4); clear hb4)
  clear x0 x1 x2 x3 x4 x5
  obtain ⟨x0, x1, x2, x3, x4, x5⟩ := HQ.out.ds
  have f2 := HQ.out.df 2
  have f4 := HQ.out.df 4
  have HQ2 := Lib.hid ((HQ.out.set 2 (.int .i64 (st + 1)) _ (st + 1) _ si false rfl).set 4 (.int .i64 (si + 1)) _ _ _ (si + 1) false rfl)
  clear HQ H3 HW HDn
  go_upto_region 5 with fail
  generalize (w4.setCell ⟨w.heap.size, 2, none⟩ (.int .i64 (st + 1))).setCell ⟨w.heap.size, 4, none⟩ (.int .i64 (si + 1)) = Y at HQ2 ⊢
  clear x0 x1 x2 x3 x4 x5 f2 f4
  obtain ⟨x0, x1, x2, x3, x4, x5⟩ := HQ2.out.ds
  refine wp_region_N 13 (fun X => DoAt w (.slice fa fl fc) q (st + 1) (.slice sa sl sc) (si + 1) false kd nm dst dat n X) (by kernel_rfl) ?_
  refine wpAnyN_take (i := 0) (oi := { dst := some 21, op := Go.Op.fieldAddr 32 (Go.Operand.tmp 2) 3, type := 0, pos := "ref.go:254", after := #[], guard := none }) (oL := { dst := some 34, op := Go.Op.pick (Go.Operand.tmp 25) (Go.Operand.tmp 33) (Go.Operand.const (Go.Value.bool false)), type := 4, pos := "ref.go:254", after := #[{ on := 4, ground := Go.Ground.data }, { on := 12, ground := Go.Ground.data }], guard := none }) (v := .pointer (some ⟨w.heap.size, 3, none⟩)) rfl rfl (by kernel_rfl) (by kernel_rfl) (by kernel_rfl) (by kernel_rfl) (fun _ _ _ h => h) (Or.inl ⟨by kernel_rfl, ?_⟩) HQ2.out.drew ?_
  · (intro X hX; obtain ⟨x0, x1, x2, x3, x4, x5⟩ := hX.ds <;> (go_simp; (try (with_reducible rfl)); (try omega)))
  (try simp only [Act.put, List.setIfInBounds_toArray, List.set_cons_zero, List.set_cons_succ])
  refine wpAnyN_take (i := 1) (oi := { dst := some 22, op := Go.Op.load 30 (Go.Operand.tmp 21), type := 30, pos := "ref.go:254", after := #[{ on := 0, ground := Go.Ground.data }], guard := none }) (oL := { dst := some 34, op := Go.Op.pick (Go.Operand.tmp 25) (Go.Operand.tmp 33) (Go.Operand.const (Go.Value.bool false)), type := 4, pos := "ref.go:254", after := #[{ on := 4, ground := Go.Ground.data }, { on := 12, ground := Go.Ground.data }], guard := none }) (v := .slice sa sl sc) rfl rfl (by kernel_rfl) (by kernel_rfl) (by kernel_rfl) (by kernel_rfl) (fun _ _ _ h => h) (Or.inl ⟨by kernel_rfl, ?_⟩) HQ2.out.drew ?_
  · (intro X hX; obtain ⟨x0, x1, x2, x3, x4, x5⟩ := hX.ds <;> (go_simp; (try (with_reducible rfl)); (try omega)))
  (try simp only [Act.put, List.setIfInBounds_toArray, List.set_cons_zero, List.set_cons_succ])
  refine wpAnyN_take (i := 2) (oi := { dst := some 23, op := Go.Op.call { callee := Go.Callee.builtin Go.Builtin.len, args := #[Go.Operand.tmp 22], argTypes := #[30] }, type := 3, pos := "ref.go:254", after := #[{ on := 1, ground := Go.Ground.data }], guard := none }) (oL := { dst := some 34, op := Go.Op.pick (Go.Operand.tmp 25) (Go.Operand.tmp 33) (Go.Operand.const (Go.Value.bool false)), type := 4, pos := "ref.go:254", after := #[{ on := 4, ground := Go.Ground.data }, { on := 12, ground := Go.Ground.data }], guard := none }) (v := .int .i64 (sl : Int)) rfl rfl (by kernel_rfl) (by kernel_rfl) (by kernel_rfl) (by kernel_rfl) (fun _ _ _ h => h) (Or.inl ⟨by kernel_rfl, ?_⟩) HQ2.out.drew ?_
  · (intro X hX; obtain ⟨x0, x1, x2, x3, x4, x5⟩ := hX.ds <;> (go_simp; (try (with_reducible rfl)); (try omega)))
  (try simp only [Act.put, List.setIfInBounds_toArray, List.set_cons_zero, List.set_cons_succ])
  refine wpAnyN_take (i := 3) (oi := { dst := some 24, op := Go.Op.binOp Go.BinOp.gtr 3 (Go.Operand.tmp 23) (Go.Operand.const (Go.Value.int Go.IntKind.i64 0)) 3, type := 4, pos := "ref.go:254", after := #[{ on := 2, ground := Go.Ground.data }], guard := none }) (oL := { dst := some 34, op := Go.Op.pick (Go.Operand.tmp 25) (Go.Operand.tmp 33) (Go.Operand.const (Go.Value.bool false)), type := 4, pos := "ref.go:254", after := #[{ on := 4, ground := Go.Ground.data }, { on := 12, ground := Go.Ground.data }], guard := none }) (v := .bool false) rfl rfl (by kernel_rfl) (by kernel_rfl) (by kernel_rfl) (by kernel_rfl) (fun _ _ _ h => h) (Or.inl ⟨by kernel_rfl, ?_⟩) HQ2.out.drew ?_
  · (intro X hX; obtain ⟨x0, x1, x2, x3, x4, x5⟩ := hX.ds <;> (go_simp; (try (with_reducible rfl)); (try omega)))
  (try simp only [Act.put, List.setIfInBounds_toArray, List.set_cons_zero, List.set_cons_succ])
  refine wpAnyN_take (i := 4) (oi := { dst := some 25, op := Go.Op.move (Go.Operand.tmp 24), type := 4, pos := "ref.go:254", after := #[{ on := 3, ground := Go.Ground.data }], guard := none }) (oL := { dst := some 34, op := Go.Op.pick (Go.Operand.tmp 25) (Go.Operand.tmp 33) (Go.Operand.const (Go.Value.bool false)), type := 4, pos := "ref.go:254", after := #[{ on := 4, ground := Go.Ground.data }, { on := 12, ground := Go.Ground.data }], guard := none }) (v := .bool false) rfl rfl (by kernel_rfl) (by kernel_rfl) (by kernel_rfl) (by kernel_rfl) (fun _ _ _ h => h) (Or.inl ⟨by kernel_rfl, ?_⟩) HQ2.out.drew ?_
  · (intro X hX; obtain ⟨x0, x1, x2, x3, x4, x5⟩ := hX.ds <;> (go_simp; (try (with_reducible rfl)); (try omega)))
  (try simp only [Act.put, List.setIfInBounds_toArray, List.set_cons_zero, List.set_cons_succ])
  refine wpAnyN_take (i := 5) (oi := { dst := some 26, op := Go.Op.fieldAddr 32 (Go.Operand.tmp 2) 3, type := 0, pos := "ref.go:254", after := #[{ on := 4, ground := Go.Ground.guard }], guard := some (4, true) }) (oL := { dst := some 34, op := Go.Op.pick (Go.Operand.tmp 25) (Go.Operand.tmp 33) (Go.Operand.const (Go.Value.bool false)), type := 4, pos := "ref.go:254", after := #[{ on := 4, ground := Go.Ground.data }, { on := 12, ground := Go.Ground.data }], guard := none }) (v := undef) rfl rfl (by kernel_rfl) (by kernel_rfl) (by kernel_rfl) (by kernel_rfl) (fun _ _ _ h => h) (Or.inr ⟨by kernel_rfl, rfl⟩) HQ2.out.drew ?_
  (try simp only [Act.put, List.setIfInBounds_toArray, List.set_cons_zero, List.set_cons_succ])
  refine wpAnyN_take (i := 6) (oi := { dst := some 27, op := Go.Op.load 30 (Go.Operand.tmp 26), type := 30, pos := "ref.go:254", after := #[{ on := 5, ground := Go.Ground.data }, { on := 4, ground := Go.Ground.guard }], guard := some (4, true) }) (oL := { dst := some 34, op := Go.Op.pick (Go.Operand.tmp 25) (Go.Operand.tmp 33) (Go.Operand.const (Go.Value.bool false)), type := 4, pos := "ref.go:254", after := #[{ on := 4, ground := Go.Ground.data }, { on := 12, ground := Go.Ground.data }], guard := none }) (v := undef) rfl rfl (by kernel_rfl) (by kernel_rfl) (by kernel_rfl) (by kernel_rfl) (fun _ _ _ h => h) (Or.inr ⟨by kernel_rfl, rfl⟩) HQ2.out.drew ?_
  (try simp only [Act.put, List.setIfInBounds_toArray, List.set_cons_zero, List.set_cons_succ])
  refine wpAnyN_take (i := 7) (oi := { dst := some 28, op := Go.Op.indexAddr 30 (Go.Operand.tmp 27) (Go.Operand.const (Go.Value.int Go.IntKind.i64 0)), type := 0, pos := "ref.go:254", after := #[{ on := 6, ground := Go.Ground.data }, { on := 4, ground := Go.Ground.guard }], guard := some (4, true) }) (oL := { dst := some 34, op := Go.Op.pick (Go.Operand.tmp 25) (Go.Operand.tmp 33) (Go.Operand.const (Go.Value.bool false)), type := 4, pos := "ref.go:254", after := #[{ on := 4, ground := Go.Ground.data }, { on := 12, ground := Go.Ground.data }], guard := none }) (v := undef) rfl rfl (by kernel_rfl) (by kernel_rfl) (by kernel_rfl) (by kernel_rfl) (fun _ _ _ h => h) (Or.inr ⟨by kernel_rfl, rfl⟩) HQ2.out.drew ?_
  (try simp only [Act.put, List.setIfInBounds_toArray, List.set_cons_zero, List.set_cons_succ])
  refine wpAnyN_take (i := 8) (oi := { dst := some 29, op := Go.Op.fieldAddr 62 (Go.Operand.tmp 28) 0, type := 0, pos := "ref.go:254", after := #[{ on := 7, ground := Go.Ground.data }, { on := 4, ground := Go.Ground.guard }], guard := some (4, true) }) (oL := { dst := some 34, op := Go.Op.pick (Go.Operand.tmp 25) (Go.Operand.tmp 33) (Go.Operand.const (Go.Value.bool false)), type := 4, pos := "ref.go:254", after := #[{ on := 4, ground := Go.Ground.data }, { on := 12, ground := Go.Ground.data }], guard := none }) (v := undef) rfl rfl (by kernel_rfl) (by kernel_rfl) (by kernel_rfl) (by kernel_rfl) (fun _ _ _ h => h) (Or.inr ⟨by kernel_rfl, rfl⟩) HQ2.out.drew ?_
  (try simp only [Act.put, List.setIfInBounds_toArray, List.set_cons_zero, List.set_cons_succ])
  refine wpAnyN_take (i := 9) (oi := { dst := some 30, op := Go.Op.load 3 (Go.Operand.tmp 29), type := 3, pos := "ref.go:254", after := #[{ on := 8, ground := Go.Ground.data }, { on := 4, ground := Go.Ground.guard }], guard := some (4, true) }) (oL := { dst := some 34, op := Go.Op.pick (Go.Operand.tmp 25) (Go.Operand.tmp 33) (Go.Operand.const (Go.Value.bool false)), type := 4, pos := "ref.go:254", after := #[{ on := 4, ground := Go.Ground.data }, { on := 12, ground := Go.Ground.data }], guard := none }) (v := undef) rfl rfl (by kernel_rfl) (by kernel_rfl) (by kernel_rfl) (by kernel_rfl) (fun _ _ _ h => h) (Or.inr ⟨by kernel_rfl, rfl⟩) HQ2.out.drew ?_
  (try simp only [Act.put, List.setIfInBounds_toArray, List.set_cons_zero, List.set_cons_succ])
  refine wpAnyN_take (i := 10) (oi := { dst := some 31, op := Go.Op.fieldAddr 32 (Go.Operand.tmp 2) 4, type := 0, pos := "ref.go:254", after := #[{ on := 4, ground := Go.Ground.guard }], guard := some (4, true) }) (oL := { dst := some 34, op := Go.Op.pick (Go.Operand.tmp 25) (Go.Operand.tmp 33) (Go.Operand.const (Go.Value.bool false)), type := 4, pos := "ref.go:254", after := #[{ on := 4, ground := Go.Ground.data }, { on := 12, ground := Go.Ground.data }], guard := none }) (v := undef) rfl rfl (by kernel_rfl) (by kernel_rfl) (by kernel_rfl) (by kernel_rfl) (fun _ _ _ h => h) (Or.inr ⟨by kernel_rfl, rfl⟩) HQ2.out.drew ?_
  (try simp only [Act.put, List.setIfInBounds_toArray, List.set_cons_zero, List.set_cons_succ])
  refine wpAnyN_take (i := 11) (oi := { dst := some 32, op := Go.Op.load 3 (Go.Operand.tmp 31), type := 3, pos := "ref.go:254", after := #[{ on := 10, ground := Go.Ground.data }, { on := 4, ground := Go.Ground.guard }], guard := some (4, true) }) (oL := { dst := some 34, op := Go.Op.pick (Go.Operand.tmp 25) (Go.Operand.tmp 33) (Go.Operand.const (Go.Value.bool false)), type := 4, pos := "ref.go:254", after := #[{ on := 4, ground := Go.Ground.data }, { on := 12, ground := Go.Ground.data }], guard := none }) (v := undef) rfl rfl (by kernel_rfl) (by kernel_rfl) (by kernel_rfl) (by kernel_rfl) (fun _ _ _ h => h) (Or.inr ⟨by kernel_rfl, rfl⟩) HQ2.out.drew ?_
  (try simp only [Act.put, List.setIfInBounds_toArray, List.set_cons_zero, List.set_cons_succ])
  refine wpAnyN_take (i := 12) (oi := { dst := some 33, op := Go.Op.binOp Go.BinOp.eql 3 (Go.Operand.tmp 30) (Go.Operand.tmp 32) 3, type := 4, pos := "ref.go:254", after := #[{ on := 9, ground := Go.Ground.data }, { on := 11, ground := Go.Ground.data }, { on := 4, ground := Go.Ground.guard }], guard := some (4, true) }) (oL := { dst := some 34, op := Go.Op.pick (Go.Operand.tmp 25) (Go.Operand.tmp 33) (Go.Operand.const (Go.Value.bool false)), type := 4, pos := "ref.go:254", after := #[{ on := 4, ground := Go.Ground.data }, { on := 12, ground := Go.Ground.data }], guard := none }) (v := undef) rfl rfl (by kernel_rfl) (by kernel_rfl) (by kernel_rfl) (by kernel_rfl) (fun _ _ _ h => h) (Or.inr ⟨by kernel_rfl, rfl⟩) HQ2.out.drew ?_
  (try simp only [Act.put, List.setIfInBounds_toArray, List.set_cons_zero, List.set_cons_succ])
  refine wpAnyN_one (i := 13) (o := { dst := some 34, op := Go.Op.pick (Go.Operand.tmp 25) (Go.Operand.tmp 33) (Go.Operand.const (Go.Value.bool false)), type := 4, pos := "ref.go:254", after := #[{ on := 4, ground := Go.Ground.data }, { on := 12, ground := Go.Ground.data }], guard := none }) (by kernel_rfl) rfl (fun K hK => ?_)
  go_simp
  refine hK.out _ _ (fun e => absurd (e.symm.trans (by kernel_rfl) : false = true) Bool.false_ne_true) ?_
  clear hK K
  (try simp only [Act.put, List.setIfInBounds_toArray, List.set_cons_zero, List.set_cons_succ])
  refine wpAnyN_of_H (S' := fun _ => True) _ _ _ _ (by kernel_rfl) ?_
  refine wpAnyH_done (by kernel_rfl) ?_ _
  have HQ := Lib.hid HQ2.out.drew
  generalize Y.drew = Y2 at HQ ⊢
  clear x0 x1 x2 x3 x4 x5
  clear HQ2
  obtain ⟨x0, x1, x2, x3, x4, x5⟩ := HQ.out.ds
  obtain ⟨o0, o1, o2, o3, o4⟩ := HQ.out.os
  go_upto_region 12 with (go_at_call 47; refine (HRf.out _ HQ.out.below).mono ?_; rintro e w5 ⟨rfl, hb5⟩; have HQ5 := Lib.hid (HQ.out.on hb5); clear hb5)
  clear x0 x1 x2 x3 x4 x5 o0 o1 o2 o3 o4
  clear HQ HRf
  obtain ⟨x0, x1, x2, x3, x4, x5⟩ := HQ5.out.ds
  obtain ⟨o0, o1, o2, o3, o4⟩ := HQ5.out.os
  go_upto_region 17 with (go_at_call 49; refine (HDo.out _ HQ5.out.below).mono ?_; rintro e w6 ⟨v, rfl, hO⟩; obtain ⟨va, vc, rfl⟩ := hO.shape; have HO := Lib.hid hO; have HQ6 := Lib.hid (HQ5.out.on hO.below); obtain ⟨y0, y1, y2, y3, y4, y5⟩ := HQ6.out.ds; have f0 := HQ6.out.df 0; clear hO y1 y2 y3 y4 y5)
  clear x0 x1 x2 x3 x4 x5 o0 o1 o2 o3 o4 y0 f0
  have HQ := Lib.hid (HQ6.out.set 0 (.slice va l2.length vc) (.slice va l2.length vc) _ _ _ _ rfl).drew
  have HL : Hid (∀ cs, FsAt ((w6.setCell ⟨w.heap.size, 0, none⟩ (.slice va l2.length vc)).drew.setRow (w.heap.size + 1 + 1) cs) (.slice va l2.length vc) l2 ∧ ∀ b, (Value.slice va l2.length vc).ownBlock = some b → w.heap.size ≤ b) := Lib.hid (fun cs => HO.out.last (w := w) HQ5.out.room (by simp [World.setRow, World.setCell]) (fun b hb => by rw [setRow_other _ _ _ _ (by omega)]; exact Below.heap_setCell _ _ _ _ (by show b ≠ w.heap.size; omega)))
  clear HO HQ5 HQ6 HDo
  generalize w6.setCell ⟨w.heap.size, 0, none⟩ (.slice va l2.length vc) = Y3 at HQ HL ⊢
  refine wp_region_N 6 (fun X => DoAt w (.slice va l2.length vc) q (st + 1) (.slice sa sl sc) (si + 1) false kd nm dst dat n X) (by kernel_rfl) ?_
  refine wpAnyN_take (i := 0) (oi := { dst := some 84, op := Go.Op.load 32 (Go.Operand.tmp 2), type := 32, pos := "ref.go:269", after := #[], guard := none }) (oL := { dst := some 7, op := Go.Op.assign (Go.Operand.tmp 86), type := 3, pos := "ref.go:269", after := #[{ on := 2, ground := Go.Ground.data }, { on := 5, ground := Go.Ground.chain }, { on := 0, ground := Go.Ground.phase }, { on := 1, ground := Go.Ground.phase }, { on := 2, ground := Go.Ground.phase }, { on := 3, ground := Go.Ground.phase }, { on := 4, ground := Go.Ground.phase }, { on := 5, ground := Go.Ground.phase }], guard := none }) (v := .agg #[.slice va l2.length vc, .int .i64 q, .int .i64 (st + 1), .slice sa sl sc, .int .i64 (si + 1), .bool false]) rfl rfl (by kernel_rfl) (by kernel_rfl) (by kernel_rfl) (by kernel_rfl) (fun _ _ _ h => h) (Or.inl ⟨by kernel_rfl, ?_⟩) HQ.out ?_
  · (intro X hX; obtain ⟨x0, x1, x2, x3, x4, x5⟩ := hX.ds; obtain ⟨o0, o1, o2, o3, o4⟩ := hX.os <;> (go_simp; try (with_reducible rfl)))
  (try simp only [Act.put, List.setIfInBounds_toArray, List.set_cons_zero, List.set_cons_succ])
  refine wpAnyN_take (i := 1) (oi := { dst := some 85, op := Go.Op.fieldAddr 32 (Go.Operand.tmp 2) 2, type := 0, pos := "ref.go:269", after := #[{ on := 5, ground := Go.Ground.gcOnly Go.Departure.lateStores }], guard := none }) (oL := { dst := some 7, op := Go.Op.assign (Go.Operand.tmp 86), type := 3, pos := "ref.go:269", after := #[{ on := 2, ground := Go.Ground.data }, { on := 5, ground := Go.Ground.chain }, { on := 0, ground := Go.Ground.phase }, { on := 1, ground := Go.Ground.phase }, { on := 2, ground := Go.Ground.phase }, { on := 3, ground := Go.Ground.phase }, { on := 4, ground := Go.Ground.phase }, { on := 5, ground := Go.Ground.phase }], guard := none }) (v := .pointer (some ⟨w.heap.size, 2, none⟩)) rfl rfl (by kernel_rfl) (by kernel_rfl) (by kernel_rfl) (by kernel_rfl) (fun _ _ _ h => h) (Or.inl ⟨by kernel_rfl, ?_⟩) HQ.out ?_
  · (intro X hX; obtain ⟨x0, x1, x2, x3, x4, x5⟩ := hX.ds; obtain ⟨o0, o1, o2, o3, o4⟩ := hX.os <;> (go_simp; try (with_reducible rfl)))
  (try simp only [Act.put, List.setIfInBounds_toArray, List.set_cons_zero, List.set_cons_succ])
  refine wpAnyN_take (i := 2) (oi := { dst := some 86, op := Go.Op.load 3 (Go.Operand.tmp 85), type := 3, pos := "ref.go:269", after := #[{ on := 1, ground := Go.Ground.data }, { on := 5, ground := Go.Ground.gcOnly Go.Departure.lateStores }], guard := none }) (oL := { dst := some 7, op := Go.Op.assign (Go.Operand.tmp 86), type := 3, pos := "ref.go:269", after := #[{ on := 2, ground := Go.Ground.data }, { on := 5, ground := Go.Ground.chain }, { on := 0, ground := Go.Ground.phase }, { on := 1, ground := Go.Ground.phase }, { on := 2, ground := Go.Ground.phase }, { on := 3, ground := Go.Ground.phase }, { on := 4, ground := Go.Ground.phase }, { on := 5, ground := Go.Ground.phase }], guard := none }) (v := .int .i64 (st + 1)) rfl rfl (by kernel_rfl) (by kernel_rfl) (by kernel_rfl) (by kernel_rfl) (fun _ _ _ h => h) (Or.inl ⟨by kernel_rfl, ?_⟩) HQ.out ?_
  · (intro X hX; obtain ⟨x0, x1, x2, x3, x4, x5⟩ := hX.ds; obtain ⟨o0, o1, o2, o3, o4⟩ := hX.os <;> (go_simp; try (with_reducible rfl)))
  (try simp only [Act.put, List.setIfInBounds_toArray, List.set_cons_zero, List.set_cons_succ])
  refine wpAnyN_one (i := 3) (o := { dst := none, op := Go.Op.store 32 (Go.Operand.tmp 4) (Go.Operand.tmp 84), type := 0, pos := "ref.go:269", after := #[{ on := 0, ground := Go.Ground.data }, { on := 0, ground := Go.Ground.phase }, { on := 1, ground := Go.Ground.textOnly Go.Departure.lateStores }, { on := 2, ground := Go.Ground.textOnly Go.Departure.lateStores }], guard := none }) (by kernel_rfl) rfl (fun K hK => ?_)
  obtain ⟨cs, hr, hz⟩ := HQ.out.r
  refine wp_store_row 32 _ _ rfl (w.heap.size + 1 + 1) #[.slice va l2.length vc, .int .i64 q, .int .i64 (st + 1), .slice sa sl sc, .int .i64 (si + 1), .bool false] rfl rfl 32 cs hr Tryz.sizeRD hz (by simp [Value.oneCell']) ?_
  clear hr hz
  refine hK.out _ _ (fun _ => (HQ.out.setR _ rfl)) ?_
  clear hK K
  (try simp only [Act.put])
  refine wpAnyN_take (i := 4) (oi := { dst := some 5, op := Go.Op.assign (Go.Operand.const (Go.Value.string { data := #[] })), type := 9, pos := "ref.go:269", after := #[{ on := 3, ground := Go.Ground.chain }, { on := 0, ground := Go.Ground.phase }, { on := 1, ground := Go.Ground.textOnly Go.Departure.lateStores }, { on := 2, ground := Go.Ground.textOnly Go.Departure.lateStores }, { on := 3, ground := Go.Ground.phase }], guard := none }) (oL := { dst := some 7, op := Go.Op.assign (Go.Operand.tmp 86), type := 3, pos := "ref.go:269", after := #[{ on := 2, ground := Go.Ground.data }, { on := 5, ground := Go.Ground.chain }, { on := 0, ground := Go.Ground.phase }, { on := 1, ground := Go.Ground.phase }, { on := 2, ground := Go.Ground.phase }, { on := 3, ground := Go.Ground.phase }, { on := 4, ground := Go.Ground.phase }, { on := 5, ground := Go.Ground.phase }], guard := none }) (v := .string ⟨#[]⟩) rfl rfl (by kernel_rfl) (by kernel_rfl) (by kernel_rfl) (by kernel_rfl) (fun _ _ _ h => h) (Or.inl ⟨by kernel_rfl, ?_⟩) (HQ.out.setR _ rfl) ?_
  · (intro X hX; obtain ⟨x0, x1, x2, x3, x4, x5⟩ := hX.ds; obtain ⟨o0, o1, o2, o3, o4⟩ := hX.os <;> (go_simp; try (with_reducible rfl)))
  (try simp only [Act.put, List.setIfInBounds_toArray, List.set_cons_zero, List.set_cons_succ])
  refine wpAnyN_take (i := 5) (oi := { dst := some 6, op := Go.Op.assign (Go.Operand.const (Go.Value.int Go.IntKind.i64 0)), type := 3, pos := "ref.go:269", after := #[{ on := 4, ground := Go.Ground.chain }, { on := 0, ground := Go.Ground.phase }, { on := 1, ground := Go.Ground.textOnly Go.Departure.lateStores }, { on := 2, ground := Go.Ground.textOnly Go.Departure.lateStores }, { on := 3, ground := Go.Ground.phase }, { on := 4, ground := Go.Ground.phase }], guard := none }) (oL := { dst := some 7, op := Go.Op.assign (Go.Operand.tmp 86), type := 3, pos := "ref.go:269", after := #[{ on := 2, ground := Go.Ground.data }, { on := 5, ground := Go.Ground.chain }, { on := 0, ground := Go.Ground.phase }, { on := 1, ground := Go.Ground.phase }, { on := 2, ground := Go.Ground.phase }, { on := 3, ground := Go.Ground.phase }, { on := 4, ground := Go.Ground.phase }, { on := 5, ground := Go.Ground.phase }], guard := none }) (v := .int .i64 0) rfl rfl (by kernel_rfl) (by kernel_rfl) (by kernel_rfl) (by kernel_rfl) (fun _ _ _ h => h) (Or.inl ⟨by kernel_rfl, ?_⟩) (HQ.out.setR _ rfl) ?_
  · (intro X hX; obtain ⟨x0, x1, x2, x3, x4, x5⟩ := hX.ds; obtain ⟨o0, o1, o2, o3, o4⟩ := hX.os <;> (go_simp; try (with_reducible rfl)))
  (try simp only [Act.put, List.setIfInBounds_toArray, List.set_cons_zero, List.set_cons_succ])
  refine wpAnyN_one (i := 6) (o := { dst := some 7, op := Go.Op.assign (Go.Operand.tmp 86), type := 3, pos := "ref.go:269", after := #[{ on := 2, ground := Go.Ground.data }, { on := 5, ground := Go.Ground.chain }, { on := 0, ground := Go.Ground.phase }, { on := 1, ground := Go.Ground.phase }, { on := 2, ground := Go.Ground.phase }, { on := 3, ground := Go.Ground.phase }, { on := 4, ground := Go.Ground.phase }, { on := 5, ground := Go.Ground.phase }], guard := none }) (by kernel_rfl) rfl (fun K hK => ?_)
  go_simp
  refine hK.out _ _ (fun e => absurd (e.symm.trans (by kernel_rfl) : false = true) Bool.false_ne_true) ?_
  clear hK K
  (try simp only [Act.put, List.setIfInBounds_toArray, List.set_cons_zero, List.set_cons_succ])
  refine wpAnyN_of_H (S' := fun _ => True) _ _ _ _ (by kernel_rfl) ?_
  refine wpAnyH_done (by kernel_rfl) ?_ _
  go_wp2_with fail
  obtain ⟨cs, hr, hz⟩ := HQ.out.r
  refine bodyPost_ret (resD4 rfl _ _ (w.heap.size + 1 + 1) 32 #[.slice va l2.length vc, .int .i64 q, .int .i64 (st + 1), .slice sa sl sc, .int .i64 (si + 1), .bool false] (0, 0) _ rfl (setRow_heap _ _ _ _ _ _ hr) Tryz.underlying32 rfl Tryz.sizeRD) rfl ?_
  exact ⟨_, rfl, (HL.out _).1, below_setQ HQ.out.below (by omega) _, (HL.out #[]).2⟩
set_option maxRecDepth 20000 in
set_option maxHeartbeats 2000000 in
theorem rDo_doneB (fa : Option Addr) (fl fc : Nat) (q st : Int) (g o : Nat) (sl sc : Nat) (si : Int) (kd : Int) (nm dst dat : ByteArray) (n : Int) (w : World) (hq0 : q ≠ 0) (hst0 : 0 ≤ st) (hst : st ≤ 1000000000) (hsi0 : 0 ≤ si) (hsi : si ≤ 1000000000) (h0 : 0 < (sl : Int)) (h0n : sl ≠ 0) (a : Int) (ha : (a == si + 1) = false) (hca : ∀ X, Below w.heap.size w X → X.cell? ⟨g, o, none⟩ = some (.int .i64 a)) (hrf : ∀ X, Below w.heap.size w X → Calls Tryz.prog 47 #[rdV (.slice fa fl fc) q (st + 1) (.slice (some ⟨g, o, none⟩) sl sc) (si + 1) false, opV kd nm dst dat n] X fun e w' => e = .returned (.int .i64 0) ∧ Below X.heap.size X w') (hkd : (kd == 3) = false) (l2 : List PF) (hdn : ∀ X, Below w.heap.size w X → Calls Tryz.prog 49 #[rdV (.slice fa fl fc) q (st + 1) (.slice (some ⟨g, o, none⟩) sl sc) (si + 1) false, opV kd nm dst dat n] X fun e w' => ∃ v, e = .returned v ∧ OwnF X.heap.size v l2 X w') :
    Calls Tryz.prog 16 #[rdV (.slice fa fl fc) q st (.slice (some ⟨g, o, none⟩) sl sc) si false, opV kd nm dst dat n] w fun e w' => ∃ v, e = .returned (.tuple #[rdV v q (st + 1) (.slice (some ⟨g, o, none⟩) sl sc) (si + 1) false, .string ⟨#[]⟩, .int .i64 0, .int .i64 (st + 1)]) ∧ FsAt w' v l2 ∧ Below w.heap.size w w' ∧ ∀ b, v.ownBlock = some b → w.heap.size ≤ b := by
  have HRf := Lib.hid hrf
  have HDo := Lib.hid hdn
  clear hrf hdn
  have HCa := Lib.hid hca
  clear hca
  have h3 := doAt_start w (.slice fa fl fc) q st (.slice (some ⟨g, o, none⟩) sl sc) si false kd nm dst dat n
  obtain ⟨W3, hW3⟩ : ∃ W3, ((w.alloc (.cells #[.slice fa fl fc, .int .i64 q, .int .i64 st, .slice (some ⟨g, o, none⟩) sl sc, .int .i64 si, .bool false] 32)).alloc (.cells #[.int .i64 kd, .string nm, .string dst, .string dat, .int .i64 n] 55)).alloc (.cells #[.slice none 0 0, .int .i64 0, .int .i64 0, .slice none 0 0, .int .i64 0, .bool false] 32) = W3 := ⟨_, rfl⟩
  rw [hW3] at h3
  have HW := Lib.hid hW3
  obtain ⟨x0, x1, x2, x3, x4, x5⟩ := h3.ds
  have H3 := Lib.hid h3
  have HDn := Lib.hid (fun W => rIsDown_any (.slice fa fl fc) q st (.slice (some ⟨g, o, none⟩) sl sc) si false W)
  clear h3 hW3
  rw [show (false || q == 0) = false by rw [Bool.false_or]; exact beq_eq_false_iff_ne.2 hq0] at HDn
  clear hq0
  unfold rdV opV at *
  go_enter Tryz.func16, Tryz.ntmps16
  go_upto_region 1 with fail
  rw [HW.out]
  go_upto_region 3 with (go_at_call 31; refine (HDn.out _).mono ?_; rintro e w4 ⟨rfl, hb4⟩; have HQ := Lib.hid (H3.out.on hb4); clear hb4)
  clear x0 x1 x2 x3 x4 x5
  obtain ⟨x0, x1, x2, x3, x4, x5⟩ := HQ.out.ds
  have f2 := HQ.out.df 2
  have f4 := HQ.out.df 4
  have HQ2 := Lib.hid ((HQ.out.set 2 (.int .i64 (st + 1)) _ (st + 1) _ si false rfl).set 4 (.int .i64 (si + 1)) _ _ _ (si + 1) false rfl)
  clear HQ H3 HW HDn
  go_upto_region 5 with fail
  generalize (w4.setCell ⟨w.heap.size, 2, none⟩ (.int .i64 (st + 1))).setCell ⟨w.heap.size, 4, none⟩ (.int .i64 (si + 1)) = Y at HQ2 ⊢
  clear x0 x1 x2 x3 x4 x5 f2 f4
  obtain ⟨x0, x1, x2, x3, x4, x5⟩ := HQ2.out.ds
  refine wp_region_N 13 (fun X => DoAt w (.slice fa fl fc) q (st + 1) (.slice (some ⟨g, o, none⟩) sl sc) (si + 1) false kd nm dst dat n X) (by kernel_rfl) ?_
  refine wpAnyN_take (i := 0) (oi := { dst := some 21, op := Go.Op.fieldAddr 32 (Go.Operand.tmp 2) 3, type := 0, pos := "ref.go:254", after := #[], guard := none }) (oL := { dst := some 34, op := Go.Op.pick (Go.Operand.tmp 25) (Go.Operand.tmp 33) (Go.Operand.const (Go.Value.bool false)), type := 4, pos := "ref.go:254", after := #[{ on := 4, ground := Go.Ground.data }, { on := 12, ground := Go.Ground.data }], guard := none }) (v := .pointer (some ⟨w.heap.size, 3, none⟩)) rfl rfl (by kernel_rfl) (by kernel_rfl) (by kernel_rfl) (by kernel_rfl) (fun _ _ _ h => h) (Or.inl ⟨by kernel_rfl, ?_⟩) HQ2.out.drew ?_
  · (intro X hX; obtain ⟨x0, x1, x2, x3, x4, x5⟩ := hX.ds; have c0 := HCa.out _ hX.below <;> (go_simp; (try (with_reducible rfl)); (try omega)))
  (try simp only [Act.put, List.setIfInBounds_toArray, List.set_cons_zero, List.set_cons_succ])
  refine wpAnyN_take (i := 1) (oi := { dst := some 22, op := Go.Op.load 30 (Go.Operand.tmp 21), type := 30, pos := "ref.go:254", after := #[{ on := 0, ground := Go.Ground.data }], guard := none }) (oL := { dst := some 34, op := Go.Op.pick (Go.Operand.tmp 25) (Go.Operand.tmp 33) (Go.Operand.const (Go.Value.bool false)), type := 4, pos := "ref.go:254", after := #[{ on := 4, ground := Go.Ground.data }, { on := 12, ground := Go.Ground.data }], guard := none }) (v := .slice (some ⟨g, o, none⟩) sl sc) rfl rfl (by kernel_rfl) (by kernel_rfl) (by kernel_rfl) (by kernel_rfl) (fun _ _ _ h => h) (Or.inl ⟨by kernel_rfl, ?_⟩) HQ2.out.drew ?_
  · (intro X hX; obtain ⟨x0, x1, x2, x3, x4, x5⟩ := hX.ds; have c0 := HCa.out _ hX.below <;> (go_simp; (try (with_reducible rfl)); (try omega)))
  (try simp only [Act.put, List.setIfInBounds_toArray, List.set_cons_zero, List.set_cons_succ])
  refine wpAnyN_take (i := 2) (oi := { dst := some 23, op := Go.Op.call { callee := Go.Callee.builtin Go.Builtin.len, args := #[Go.Operand.tmp 22], argTypes := #[30] }, type := 3, pos := "ref.go:254", after := #[{ on := 1, ground := Go.Ground.data }], guard := none }) (oL := { dst := some 34, op := Go.Op.pick (Go.Operand.tmp 25) (Go.Operand.tmp 33) (Go.Operand.const (Go.Value.bool false)), type := 4, pos := "ref.go:254", after := #[{ on := 4, ground := Go.Ground.data }, { on := 12, ground := Go.Ground.data }], guard := none }) (v := .int .i64 (sl : Int)) rfl rfl (by kernel_rfl) (by kernel_rfl) (by kernel_rfl) (by kernel_rfl) (fun _ _ _ h => h) (Or.inl ⟨by kernel_rfl, ?_⟩) HQ2.out.drew ?_
  · (intro X hX; obtain ⟨x0, x1, x2, x3, x4, x5⟩ := hX.ds; have c0 := HCa.out _ hX.below <;> (go_simp; (try (with_reducible rfl)); (try omega)))
  (try simp only [Act.put, List.setIfInBounds_toArray, List.set_cons_zero, List.set_cons_succ])
  refine wpAnyN_take (i := 3) (oi := { dst := some 24, op := Go.Op.binOp Go.BinOp.gtr 3 (Go.Operand.tmp 23) (Go.Operand.const (Go.Value.int Go.IntKind.i64 0)) 3, type := 4, pos := "ref.go:254", after := #[{ on := 2, ground := Go.Ground.data }], guard := none }) (oL := { dst := some 34, op := Go.Op.pick (Go.Operand.tmp 25) (Go.Operand.tmp 33) (Go.Operand.const (Go.Value.bool false)), type := 4, pos := "ref.go:254", after := #[{ on := 4, ground := Go.Ground.data }, { on := 12, ground := Go.Ground.data }], guard := none }) (v := .bool true) rfl rfl (by kernel_rfl) (by kernel_rfl) (by kernel_rfl) (by kernel_rfl) (fun _ _ _ h => h) (Or.inl ⟨by kernel_rfl, ?_⟩) HQ2.out.drew ?_
  · (intro X hX; obtain ⟨x0, x1, x2, x3, x4, x5⟩ := hX.ds; have c0 := HCa.out _ hX.below <;> (go_simp; (try (with_reducible rfl)); (try omega)))
  (try simp only [Act.put, List.setIfInBounds_toArray, List.set_cons_zero, List.set_cons_succ])
  refine wpAnyN_take (i := 4) (oi := { dst := some 25, op := Go.Op.move (Go.Operand.tmp 24), type := 4, pos := "ref.go:254", after := #[{ on := 3, ground := Go.Ground.data }], guard := none }) (oL := { dst := some 34, op := Go.Op.pick (Go.Operand.tmp 25) (Go.Operand.tmp 33) (Go.Operand.const (Go.Value.bool false)), type := 4, pos := "ref.go:254", after := #[{ on := 4, ground := Go.Ground.data }, { on := 12, ground := Go.Ground.data }], guard := none }) (v := .bool true) rfl rfl (by kernel_rfl) (by kernel_rfl) (by kernel_rfl) (by kernel_rfl) (fun _ _ _ h => h) (Or.inl ⟨by kernel_rfl, ?_⟩) HQ2.out.drew ?_
  · (intro X hX; obtain ⟨x0, x1, x2, x3, x4, x5⟩ := hX.ds; have c0 := HCa.out _ hX.below <;> (go_simp; (try (with_reducible rfl)); (try omega)))
  (try simp only [Act.put, List.setIfInBounds_toArray, List.set_cons_zero, List.set_cons_succ])
  refine wpAnyN_take (i := 5) (oi := { dst := some 26, op := Go.Op.fieldAddr 32 (Go.Operand.tmp 2) 3, type := 0, pos := "ref.go:254", after := #[{ on := 4, ground := Go.Ground.guard }], guard := some (4, true) }) (oL := { dst := some 34, op := Go.Op.pick (Go.Operand.tmp 25) (Go.Operand.tmp 33) (Go.Operand.const (Go.Value.bool false)), type := 4, pos := "ref.go:254", after := #[{ on := 4, ground := Go.Ground.data }, { on := 12, ground := Go.Ground.data }], guard := none }) (v := .pointer (some ⟨w.heap.size, 3, none⟩)) rfl rfl (by kernel_rfl) (by kernel_rfl) (by kernel_rfl) (by kernel_rfl) (fun _ _ _ h => h) (Or.inl ⟨by kernel_rfl, ?_⟩) HQ2.out.drew ?_
  · (intro X hX; obtain ⟨x0, x1, x2, x3, x4, x5⟩ := hX.ds; have c0 := HCa.out _ hX.below <;> (go_simp; (try (with_reducible rfl)); (try omega)))
  (try simp only [Act.put, List.setIfInBounds_toArray, List.set_cons_zero, List.set_cons_succ])
  refine wpAnyN_take (i := 6) (oi := { dst := some 27, op := Go.Op.load 30 (Go.Operand.tmp 26), type := 30, pos := "ref.go:254", after := #[{ on := 5, ground := Go.Ground.data }, { on := 4, ground := Go.Ground.guard }], guard := some (4, true) }) (oL := { dst := some 34, op := Go.Op.pick (Go.Operand.tmp 25) (Go.Operand.tmp 33) (Go.Operand.const (Go.Value.bool false)), type := 4, pos := "ref.go:254", after := #[{ on := 4, ground := Go.Ground.data }, { on := 12, ground := Go.Ground.data }], guard := none }) (v := .slice (some ⟨g, o, none⟩) sl sc) rfl rfl (by kernel_rfl) (by kernel_rfl) (by kernel_rfl) (by kernel_rfl) (fun _ _ _ h => h) (Or.inl ⟨by kernel_rfl, ?_⟩) HQ2.out.drew ?_
  · (intro X hX; obtain ⟨x0, x1, x2, x3, x4, x5⟩ := hX.ds; have c0 := HCa.out _ hX.below <;> (go_simp; (try (with_reducible rfl)); (try omega)))
  (try simp only [Act.put, List.setIfInBounds_toArray, List.set_cons_zero, List.set_cons_succ])
  refine wpAnyN_take (i := 7) (oi := { dst := some 28, op := Go.Op.indexAddr 30 (Go.Operand.tmp 27) (Go.Operand.const (Go.Value.int Go.IntKind.i64 0)), type := 0, pos := "ref.go:254", after := #[{ on := 6, ground := Go.Ground.data }, { on := 4, ground := Go.Ground.guard }], guard := some (4, true) }) (oL := { dst := some 34, op := Go.Op.pick (Go.Operand.tmp 25) (Go.Operand.tmp 33) (Go.Operand.const (Go.Value.bool false)), type := 4, pos := "ref.go:254", after := #[{ on := 4, ground := Go.Ground.data }, { on := 12, ground := Go.Ground.data }], guard := none }) (v := .pointer (some ⟨g, o, none⟩)) rfl rfl (by kernel_rfl) (by kernel_rfl) (by kernel_rfl) (by kernel_rfl) (fun _ _ _ h => h) (Or.inl ⟨by kernel_rfl, ?_⟩) HQ2.out.drew ?_
  · (intro X hX; obtain ⟨x0, x1, x2, x3, x4, x5⟩ := hX.ds; have c0 := HCa.out _ hX.below <;> (go_simp; (try (with_reducible rfl)); (try omega)))
  (try simp only [Act.put, List.setIfInBounds_toArray, List.set_cons_zero, List.set_cons_succ])
  refine wpAnyN_take (i := 8) (oi := { dst := some 29, op := Go.Op.fieldAddr 62 (Go.Operand.tmp 28) 0, type := 0, pos := "ref.go:254", after := #[{ on := 7, ground := Go.Ground.data }, { on := 4, ground := Go.Ground.guard }], guard := some (4, true) }) (oL := { dst := some 34, op := Go.Op.pick (Go.Operand.tmp 25) (Go.Operand.tmp 33) (Go.Operand.const (Go.Value.bool false)), type := 4, pos := "ref.go:254", after := #[{ on := 4, ground := Go.Ground.data }, { on := 12, ground := Go.Ground.data }], guard := none }) (v := .pointer (some ⟨g, o, none⟩)) rfl rfl (by kernel_rfl) (by kernel_rfl) (by kernel_rfl) (by kernel_rfl) (fun _ _ _ h => h) (Or.inl ⟨by kernel_rfl, ?_⟩) HQ2.out.drew ?_
  · (intro X hX; obtain ⟨x0, x1, x2, x3, x4, x5⟩ := hX.ds; have c0 := HCa.out _ hX.below <;> (go_simp; (try (with_reducible rfl)); (try omega)))
  (try simp only [Act.put, List.setIfInBounds_toArray, List.set_cons_zero, List.set_cons_succ])
  refine wpAnyN_take (i := 9) (oi := { dst := some 30, op := Go.Op.load 3 (Go.Operand.tmp 29), type := 3, pos := "ref.go:254", after := #[{ on := 8, ground := Go.Ground.data }, { on := 4, ground := Go.Ground.guard }], guard := some (4, true) }) (oL := { dst := some 34, op := Go.Op.pick (Go.Operand.tmp 25) (Go.Operand.tmp 33) (Go.Operand.const (Go.Value.bool false)), type := 4, pos := "ref.go:254", after := #[{ on := 4, ground := Go.Ground.data }, { on := 12, ground := Go.Ground.data }], guard := none }) (v := .int .i64 a) rfl rfl (by kernel_rfl) (by kernel_rfl) (by kernel_rfl) (by kernel_rfl) (fun _ _ _ h => h) (Or.inl ⟨by kernel_rfl, ?_⟩) HQ2.out.drew ?_
  · (intro X hX; obtain ⟨x0, x1, x2, x3, x4, x5⟩ := hX.ds; have c0 := HCa.out _ hX.below <;> (go_simp; (try (with_reducible rfl)); (try omega)))
  (try simp only [Act.put, List.setIfInBounds_toArray, List.set_cons_zero, List.set_cons_succ])
  refine wpAnyN_take (i := 10) (oi := { dst := some 31, op := Go.Op.fieldAddr 32 (Go.Operand.tmp 2) 4, type := 0, pos := "ref.go:254", after := #[{ on := 4, ground := Go.Ground.guard }], guard := some (4, true) }) (oL := { dst := some 34, op := Go.Op.pick (Go.Operand.tmp 25) (Go.Operand.tmp 33) (Go.Operand.const (Go.Value.bool false)), type := 4, pos := "ref.go:254", after := #[{ on := 4, ground := Go.Ground.data }, { on := 12, ground := Go.Ground.data }], guard := none }) (v := .pointer (some ⟨w.heap.size, 4, none⟩)) rfl rfl (by kernel_rfl) (by kernel_rfl) (by kernel_rfl) (by kernel_rfl) (fun _ _ _ h => h) (Or.inl ⟨by kernel_rfl, ?_⟩) HQ2.out.drew ?_
  · (intro X hX; obtain ⟨x0, x1, x2, x3, x4, x5⟩ := hX.ds; have c0 := HCa.out _ hX.below <;> (go_simp; (try (with_reducible rfl)); (try omega)))
  (try simp only [Act.put, List.setIfInBounds_toArray, List.set_cons_zero, List.set_cons_succ])
  refine wpAnyN_take (i := 11) (oi := { dst := some 32, op := Go.Op.load 3 (Go.Operand.tmp 31), type := 3, pos := "ref.go:254", after := #[{ on := 10, ground := Go.Ground.data }, { on := 4, ground := Go.Ground.guard }], guard := some (4, true) }) (oL := { dst := some 34, op := Go.Op.pick (Go.Operand.tmp 25) (Go.Operand.tmp 33) (Go.Operand.const (Go.Value.bool false)), type := 4, pos := "ref.go:254", after := #[{ on := 4, ground := Go.Ground.data }, { on := 12, ground := Go.Ground.data }], guard := none }) (v := .int .i64 (si + 1)) rfl rfl (by kernel_rfl) (by kernel_rfl) (by kernel_rfl) (by kernel_rfl) (fun _ _ _ h => h) (Or.inl ⟨by kernel_rfl, ?_⟩) HQ2.out.drew ?_
  · (intro X hX; obtain ⟨x0, x1, x2, x3, x4, x5⟩ := hX.ds; have c0 := HCa.out _ hX.below <;> (go_simp; (try (with_reducible rfl)); (try omega)))
  (try simp only [Act.put, List.setIfInBounds_toArray, List.set_cons_zero, List.set_cons_succ])
  refine wpAnyN_take (i := 12) (oi := { dst := some 33, op := Go.Op.binOp Go.BinOp.eql 3 (Go.Operand.tmp 30) (Go.Operand.tmp 32) 3, type := 4, pos := "ref.go:254", after := #[{ on := 9, ground := Go.Ground.data }, { on := 11, ground := Go.Ground.data }, { on := 4, ground := Go.Ground.guard }], guard := some (4, true) }) (oL := { dst := some 34, op := Go.Op.pick (Go.Operand.tmp 25) (Go.Operand.tmp 33) (Go.Operand.const (Go.Value.bool false)), type := 4, pos := "ref.go:254", after := #[{ on := 4, ground := Go.Ground.data }, { on := 12, ground := Go.Ground.data }], guard := none }) (v := .bool false) rfl rfl (by kernel_rfl) (by kernel_rfl) (by kernel_rfl) (by kernel_rfl) (fun _ _ _ h => h) (Or.inl ⟨by kernel_rfl, ?_⟩) HQ2.out.drew ?_
  · (intro X hX; obtain ⟨x0, x1, x2, x3, x4, x5⟩ := hX.ds; have c0 := HCa.out _ hX.below <;> (go_simp; (try (with_reducible rfl)); (try omega)))
  (try simp only [Act.put, List.setIfInBounds_toArray, List.set_cons_zero, List.set_cons_succ])
  refine wpAnyN_one (i := 13) (o := { dst := some 34, op := Go.Op.pick (Go.Operand.tmp 25) (Go.Operand.tmp 33) (Go.Operand.const (Go.Value.bool false)), type := 4, pos := "ref.go:254", after := #[{ on := 4, ground := Go.Ground.data }, { on := 12, ground := Go.Ground.data }], guard := none }) (by kernel_rfl) rfl (fun K hK => ?_)
  go_simp
  refine hK.out _ _ (fun e => absurd (e.symm.trans (by kernel_rfl) : false = true) Bool.false_ne_true) ?_
  clear hK K
  (try simp only [Act.put, List.setIfInBounds_toArray, List.set_cons_zero, List.set_cons_succ])
  refine wpAnyN_of_H (S' := fun _ => True) _ _ _ _ (by kernel_rfl) ?_
  refine wpAnyH_done (by kernel_rfl) ?_ _
  have HQ := Lib.hid HQ2.out.drew
  generalize Y.drew = Y2 at HQ ⊢
  clear x0 x1 x2 x3 x4 x5
  clear HQ2
  obtain ⟨x0, x1, x2, x3, x4, x5⟩ := HQ.out.ds
  obtain ⟨o0, o1, o2, o3, o4⟩ := HQ.out.os
  go_upto_region 12 with (go_at_call 47; refine (HRf.out _ HQ.out.below).mono ?_; rintro e w5 ⟨rfl, hb5⟩; have HQ5 := Lib.hid (HQ.out.on hb5); clear hb5)
  clear x0 x1 x2 x3 x4 x5 o0 o1 o2 o3 o4
  clear HQ HRf
  obtain ⟨x0, x1, x2, x3, x4, x5⟩ := HQ5.out.ds
  obtain ⟨o0, o1, o2, o3, o4⟩ := HQ5.out.os
  go_upto_region 17 with (go_at_call 49; refine (HDo.out _ HQ5.out.below).mono ?_; rintro e w6 ⟨v, rfl, hO⟩; obtain ⟨va, vc, rfl⟩ := hO.shape; have HO := Lib.hid hO; have HQ6 := Lib.hid (HQ5.out.on hO.below); obtain ⟨y0, y1, y2, y3, y4, y5⟩ := HQ6.out.ds; have f0 := HQ6.out.df 0; clear hO y1 y2 y3 y4 y5)
  clear x0 x1 x2 x3 x4 x5 o0 o1 o2 o3 o4 y0 f0
  have HQ := Lib.hid (HQ6.out.set 0 (.slice va l2.length vc) (.slice va l2.length vc) _ _ _ _ rfl).drew
  have HL : Hid (∀ cs, FsAt ((w6.setCell ⟨w.heap.size, 0, none⟩ (.slice va l2.length vc)).drew.setRow (w.heap.size + 1 + 1) cs) (.slice va l2.length vc) l2 ∧ ∀ b, (Value.slice va l2.length vc).ownBlock = some b → w.heap.size ≤ b) := Lib.hid (fun cs => HO.out.last (w := w) HQ5.out.room (by simp [World.setRow, World.setCell]) (fun b hb => by rw [setRow_other _ _ _ _ (by omega)]; exact Below.heap_setCell _ _ _ _ (by show b ≠ w.heap.size; omega)))
  clear HO HQ5 HQ6 HDo
  generalize w6.setCell ⟨w.heap.size, 0, none⟩ (.slice va l2.length vc) = Y3 at HQ HL ⊢
  refine wp_region_N 6 (fun X => DoAt w (.slice va l2.length vc) q (st + 1) (.slice (some ⟨g, o, none⟩) sl sc) (si + 1) false kd nm dst dat n X) (by kernel_rfl) ?_
  refine wpAnyN_take (i := 0) (oi := { dst := some 84, op := Go.Op.load 32 (Go.Operand.tmp 2), type := 32, pos := "ref.go:269", after := #[], guard := none }) (oL := { dst := some 7, op := Go.Op.assign (Go.Operand.tmp 86), type := 3, pos := "ref.go:269", after := #[{ on := 2, ground := Go.Ground.data }, { on := 5, ground := Go.Ground.chain }, { on := 0, ground := Go.Ground.phase }, { on := 1, ground := Go.Ground.phase }, { on := 2, ground := Go.Ground.phase }, { on := 3, ground := Go.Ground.phase }, { on := 4, ground := Go.Ground.phase }, { on := 5, ground := Go.Ground.phase }], guard := none }) (v := .agg #[.slice va l2.length vc, .int .i64 q, .int .i64 (st + 1), .slice (some ⟨g, o, none⟩) sl sc, .int .i64 (si + 1), .bool false]) rfl rfl (by kernel_rfl) (by kernel_rfl) (by kernel_rfl) (by kernel_rfl) (fun _ _ _ h => h) (Or.inl ⟨by kernel_rfl, ?_⟩) HQ.out ?_
  · (intro X hX; obtain ⟨x0, x1, x2, x3, x4, x5⟩ := hX.ds; obtain ⟨o0, o1, o2, o3, o4⟩ := hX.os <;> (go_simp; try (with_reducible rfl)))
  (try simp only [Act.put, List.setIfInBounds_toArray, List.set_cons_zero, List.set_cons_succ])
  refine wpAnyN_take (i := 1) (oi := { dst := some 85, op := Go.Op.fieldAddr 32 (Go.Operand.tmp 2) 2, type := 0, pos := "ref.go:269", after := #[{ on := 5, ground := Go.Ground.gcOnly Go.Departure.lateStores }], guard := none }) (oL := { dst := some 7, op := Go.Op.assign (Go.Operand.tmp 86), type := 3, pos := "ref.go:269", after := #[{ on := 2, ground := Go.Ground.data }, { on := 5, ground := Go.Ground.chain }, { on := 0, ground := Go.Ground.phase }, { on := 1, ground := Go.Ground.phase }, { on := 2, ground := Go.Ground.phase }, { on := 3, ground := Go.Ground.phase }, { on := 4, ground := Go.Ground.phase }, { on := 5, ground := Go.Ground.phase }], guard := none }) (v := .pointer (some ⟨w.heap.size, 2, none⟩)) rfl rfl (by kernel_rfl) (by kernel_rfl) (by kernel_rfl) (by kernel_rfl) (fun _ _ _ h => h) (Or.inl ⟨by kernel_rfl, ?_⟩) HQ.out ?_
  · (intro X hX; obtain ⟨x0, x1, x2, x3, x4, x5⟩ := hX.ds; obtain ⟨o0, o1, o2, o3, o4⟩ := hX.os <;> (go_simp; try (with_reducible rfl)))
  (try simp only [Act.put, List.setIfInBounds_toArray, List.set_cons_zero, List.set_cons_succ])
  refine wpAnyN_take (i := 2) (oi := { dst := some 86, op := Go.Op.load 3 (Go.Operand.tmp 85), type := 3, pos := "ref.go:269", after := #[{ on := 1, ground := Go.Ground.data }, { on := 5, ground := Go.Ground.gcOnly Go.Departure.lateStores }], guard := none }) (oL := { dst := some 7, op := Go.Op.assign (Go.Operand.tmp 86), type := 3, pos := "ref.go:269", after := #[{ on := 2, ground := Go.Ground.data }, { on := 5, ground := Go.Ground.chain }, { on := 0, ground := Go.Ground.phase }, { on := 1, ground := Go.Ground.phase }, { on := 2, ground := Go.Ground.phase }, { on := 3, ground := Go.Ground.phase }, { on := 4, ground := Go.Ground.phase }, { on := 5, ground := Go.Ground.phase }], guard := none }) (v := .int .i64 (st + 1)) rfl rfl (by kernel_rfl) (by kernel_rfl) (by kernel_rfl) (by kernel_rfl) (fun _ _ _ h => h) (Or.inl ⟨by kernel_rfl, ?_⟩) HQ.out ?_
  · (intro X hX; obtain ⟨x0, x1, x2, x3, x4, x5⟩ := hX.ds; obtain ⟨o0, o1, o2, o3, o4⟩ := hX.os <;> (go_simp; try (with_reducible rfl)))
  (try simp only [Act.put, List.setIfInBounds_toArray, List.set_cons_zero, List.set_cons_succ])
  refine wpAnyN_one (i := 3) (o := { dst := none, op := Go.Op.store 32 (Go.Operand.tmp 4) (Go.Operand.tmp 84), type := 0, pos := "ref.go:269", after := #[{ on := 0, ground := Go.Ground.data }, { on := 0, ground := Go.Ground.phase }, { on := 1, ground := Go.Ground.textOnly Go.Departure.lateStores }, { on := 2, ground := Go.Ground.textOnly Go.Departure.lateStores }], guard := none }) (by kernel_rfl) rfl (fun K hK => ?_)
  obtain ⟨cs, hr, hz⟩ := HQ.out.r
  refine wp_store_row 32 _ _ rfl (w.heap.size + 1 + 1) #[.slice va l2.length vc, .int .i64 q, .int .i64 (st + 1), .slice (some ⟨g, o, none⟩) sl sc, .int .i64 (si + 1), .bool false] rfl rfl 32 cs hr Tryz.sizeRD hz (by simp [Value.oneCell']) ?_
  clear hr hz
  refine hK.out _ _ (fun _ => (HQ.out.setR _ rfl)) ?_
  clear hK K
  (try simp only [Act.put])
  refine wpAnyN_take (i := 4) (oi := { dst := some 5, op := Go.Op.assign (Go.Operand.const (Go.Value.string { data := #[] })), type := 9, pos := "ref.go:269", after := #[{ on := 3, ground := Go.Ground.chain }, { on := 0, ground := Go.Ground.phase }, { on := 1, ground := Go.Ground.textOnly Go.Departure.lateStores }, { on := 2, ground := Go.Ground.textOnly Go.Departure.lateStores }, { on := 3, ground := Go.Ground.phase }], guard := none }) (oL := { dst := some 7, op := Go.Op.assign (Go.Operand.tmp 86), type := 3, pos := "ref.go:269", after := #[{ on := 2, ground := Go.Ground.data }, { on := 5, ground := Go.Ground.chain }, { on := 0, ground := Go.Ground.phase }, { on := 1, ground := Go.Ground.phase }, { on := 2, ground := Go.Ground.phase }, { on := 3, ground := Go.Ground.phase }, { on := 4, ground := Go.Ground.phase }, { on := 5, ground := Go.Ground.phase }], guard := none }) (v := .string ⟨#[]⟩) rfl rfl (by kernel_rfl) (by kernel_rfl) (by kernel_rfl) (by kernel_rfl) (fun _ _ _ h => h) (Or.inl ⟨by kernel_rfl, ?_⟩) (HQ.out.setR _ rfl) ?_
  · (intro X hX; obtain ⟨x0, x1, x2, x3, x4, x5⟩ := hX.ds; obtain ⟨o0, o1, o2, o3, o4⟩ := hX.os <;> (go_simp; try (with_reducible rfl)))
  (try simp only [Act.put, List.setIfInBounds_toArray, List.set_cons_zero, List.set_cons_succ])
  refine wpAnyN_take (i := 5) (oi := { dst := some 6, op := Go.Op.assign (Go.Operand.const (Go.Value.int Go.IntKind.i64 0)), type := 3, pos := "ref.go:269", after := #[{ on := 4, ground := Go.Ground.chain }, { on := 0, ground := Go.Ground.phase }, { on := 1, ground := Go.Ground.textOnly Go.Departure.lateStores }, { on := 2, ground := Go.Ground.textOnly Go.Departure.lateStores }, { on := 3, ground := Go.Ground.phase }, { on := 4, ground := Go.Ground.phase }], guard := none }) (oL := { dst := some 7, op := Go.Op.assign (Go.Operand.tmp 86), type := 3, pos := "ref.go:269", after := #[{ on := 2, ground := Go.Ground.data }, { on := 5, ground := Go.Ground.chain }, { on := 0, ground := Go.Ground.phase }, { on := 1, ground := Go.Ground.phase }, { on := 2, ground := Go.Ground.phase }, { on := 3, ground := Go.Ground.phase }, { on := 4, ground := Go.Ground.phase }, { on := 5, ground := Go.Ground.phase }], guard := none }) (v := .int .i64 0) rfl rfl (by kernel_rfl) (by kernel_rfl) (by kernel_rfl) (by kernel_rfl) (fun _ _ _ h => h) (Or.inl ⟨by kernel_rfl, ?_⟩) (HQ.out.setR _ rfl) ?_
  · (intro X hX; obtain ⟨x0, x1, x2, x3, x4, x5⟩ := hX.ds; obtain ⟨o0, o1, o2, o3, o4⟩ := hX.os <;> (go_simp; try (with_reducible rfl)))
  (try simp only [Act.put, List.setIfInBounds_toArray, List.set_cons_zero, List.set_cons_succ])
  refine wpAnyN_one (i := 6) (o := { dst := some 7, op := Go.Op.assign (Go.Operand.tmp 86), type := 3, pos := "ref.go:269", after := #[{ on := 2, ground := Go.Ground.data }, { on := 5, ground := Go.Ground.chain }, { on := 0, ground := Go.Ground.phase }, { on := 1, ground := Go.Ground.phase }, { on := 2, ground := Go.Ground.phase }, { on := 3, ground := Go.Ground.phase }, { on := 4, ground := Go.Ground.phase }, { on := 5, ground := Go.Ground.phase }], guard := none }) (by kernel_rfl) rfl (fun K hK => ?_)
  go_simp
  refine hK.out _ _ (fun e => absurd (e.symm.trans (by kernel_rfl) : false = true) Bool.false_ne_true) ?_
  clear hK K
  (try simp only [Act.put, List.setIfInBounds_toArray, List.set_cons_zero, List.set_cons_succ])
  refine wpAnyN_of_H (S' := fun _ => True) _ _ _ _ (by kernel_rfl) ?_
  refine wpAnyH_done (by kernel_rfl) ?_ _
  go_wp2_with fail
  obtain ⟨cs, hr, hz⟩ := HQ.out.r
  refine bodyPost_ret (resD4 rfl _ _ (w.heap.size + 1 + 1) 32 #[.slice va l2.length vc, .int .i64 q, .int .i64 (st + 1), .slice (some ⟨g, o, none⟩) sl sc, .int .i64 (si + 1), .bool false] (0, 0) _ rfl (setRow_heap _ _ _ _ _ _ hr) Tryz.underlying32 rfl Tryz.sizeRD) rfl ?_
  exact ⟨_, rfl, (HL.out _).1, below_setQ HQ.out.below (by omega) _, (HL.out #[]).2⟩
end Go.Proofs.YtgafomknpdnfcaaGreatDoor

/- step: Seq, Gone, Recent. -/
import Derived.Test.YtflkhnmggmfhfaaGreatZ16c
namespace Go.Proofs.YtflkhnmggmfhfaaGreat
open Go.RowKit

variable {W w : World} {K : List (Nat × Obj)} {vp : Value} {Q D : Nat}
abbrev opZ19 : Oper := { dst := some 10, op := Go.Op.assign (Go.Operand.tmp 197), type := 4, pos := "law.go:279", after := #[{ on := 43, ground := Go.Ground.data }, { on := 41, ground := Go.Ground.chain }, { on := 0, ground := Go.Ground.phase }, { on := 1, ground := Go.Ground.phase }, { on := 2, ground := Go.Ground.phase }, { on := 3, ground := Go.Ground.phase }, { on := 4, ground := Go.Ground.phase }, { on := 5, ground := Go.Ground.phase }, { on := 6, ground := Go.Ground.phase }, { on := 7, ground := Go.Ground.phase }, { on := 8, ground := Go.Ground.phase }, { on := 9, ground := Go.Ground.phase }, { on := 10, ground := Go.Ground.phase }, { on := 11, ground := Go.Ground.phase }, { on := 12, ground := Go.Ground.phase }, { on := 13, ground := Go.Ground.phase }, { on := 14, ground := Go.Ground.phase }, { on := 15, ground := Go.Ground.phase }, { on := 16, ground := Go.Ground.phase }, { on := 17, ground := Go.Ground.phase }, { on := 18, ground := Go.Ground.phase }, { on := 19, ground := Go.Ground.phase }, { on := 20, ground := Go.Ground.phase }, { on := 21, ground := Go.Ground.phase }, { on := 22, ground := Go.Ground.phase }, { on := 23, ground := Go.Ground.phase }, { on := 24, ground := Go.Ground.phase }, { on := 25, ground := Go.Ground.phase }, { on := 26, ground := Go.Ground.phase }, { on := 27, ground := Go.Ground.phase }, { on := 28, ground := Go.Ground.phase }, { on := 29, ground := Go.Ground.phase }, { on := 30, ground := Go.Ground.phase }, { on := 31, ground := Go.Ground.phase }, { on := 32, ground := Go.Ground.phase }, { on := 33, ground := Go.Ground.phase }, { on := 34, ground := Go.Ground.phase }, { on := 35, ground := Go.Ground.phase }, { on := 36, ground := Go.Ground.phase }, { on := 37, ground := Go.Ground.phase }, { on := 38, ground := Go.Ground.phase }, { on := 39, ground := Go.Ground.phase }, { on := 40, ground := Go.Ground.phase }, { on := 41, ground := Go.Ground.phase }, { on := 42, ground := Go.Ground.phase }, { on := 43, ground := Go.Ground.phase }], guard := none }
set_option maxRecDepth 100000 in
set_option maxHeartbeats 16000000 in
theorem zstep_tell (h : ZHH W K vp Q D w) (s : ST) (ho : StOK W s) (hs : StShort s) (lk : Int) (k4 : s.kind = 4) (b8 : Bool) (q1 : ((lk.tdiv 8).tmod 2 == 0) = b8) (q0 : IntKind.i64.wrap (lk.tdiv 8) = lk.tdiv 8) :
    Calls Tryz.prog 6 #[vp, .pointer (some ⟨Q, 0, none⟩), .pointer (some ⟨D, 0, none⟩), .agg (stL s).toArray, .int .i64 lk] w fun e w' => e = .returned (.bool true) ∧ ZHH W K vp Q D w' := by
  obtain ⟨W1, hW1⟩ : ∃ W1, w.alloc (.cells (stL s).toArray 47) = W1 := ⟨_, rfl⟩
  have h1 : W1.heap[w.heap.size]? = some (.cells (stL s).toArray 47 (0, 0)) := by rw [← hW1]; exact heap_new _ _
  have hb1 : Below w.heap.size w W1 := by rw [← hW1]; exact (Below.refl _ _).alloc (Nat.le_refl _) _
  have h2 : ZHH W (SBx w.heap.size s :: K) vp Q D W1 := h.add hb1 (Nat.le_refl _) h1
  obtain ⟨c0, c20, c21, c22, c23, c24, cr⟩ := stL_at h1
  rw [k4] at c0
  have hall := And.intro ho hs
  clear hall
  have c25 := stL_n h1
  have hul : (uidsP VZ).length ≤ 1000000 := by simp [VZ, uidsP]
  obtain ⟨si, hsi⟩ : ∃ si, seqI (uidsP VZ) s.n = si := ⟨_, rfl⟩
  obtain ⟨se, hse⟩ : ∃ se, seqE (uidsP VZ) s.n = se := ⟨_, rfl⟩
  obtain ⟨gb, hgb⟩ : ∃ gb, (atP VZ s.n).gone = gb := ⟨_, rfl⟩
  obtain ⟨rb, hrb⟩ : ∃ rb, (atP VZ s.n).rct = rb := ⟨_, rfl⟩
  obtain ⟨L, hL⟩ : ∃ L, uidsP VZ = L := ⟨_, rfl⟩
  rw [hL] at hul
  have HRS : Hid (Calls Tryz.prog 24 #[.pointer (some ⟨Q, 0, none⟩), .int .i64 s.n] W1 fun r w' => r = .returned (.tuple #[.int .i64 si, .int .i64 se]) ∧ w' = W1) := Lib.hid (by rw [← hsi, ← hse]; exact rSeq_Z h2 s.n)
  have HVS : Hid (Calls Tryz.prog 25 #[vp, .int .i64 s.n] W1 fun r w' => r = .returned (.tuple #[.int .i64 si, .int .i64 se]) ∧ ZHH W (SBx w.heap.size s :: K) vp Q D w') := Lib.hid (by rw [← hsi, ← hse]; exact vSeq_Z h2 s.n)
  have HGo : Hid (∀ X, ZHH W (SBx w.heap.size s :: K) vp Q D X → Calls Tryz.prog 26 #[vp, .int .i64 s.n] X fun r w' => r = .returned (.bool gb) ∧ ZHH W (SBx w.heap.size s :: K) vp Q D w') := Lib.hid (fun X q => by rw [← hgb]; exact vGone_Z q s.n)
  have HRe : Hid (∀ X, ZHH W (SBx w.heap.size s :: K) vp Q D X → Calls Tryz.prog 28 #[vp, .int .i64 s.n] X fun r w' => r = .returned (.bool rb) ∧ ZHH W (SBx w.heap.size s :: K) vp Q D w') := Lib.hid (fun X q => by rw [← hrb]; exact vRecent_Z q s.n)
  have HRGo : Hid (∀ X, ZHH W (SBx w.heap.size s :: K) vp Q D X → Calls Tryz.prog 27 #[.pointer (some ⟨Q, 0, none⟩), .int .i64 s.n] X fun r w' => r = .returned (.bool gb) ∧ w' = X) := Lib.hid (fun X q => by rw [← hgb]; exact rGone_Z q s.n)
  have HRRe : Hid (∀ X, ZHH W (SBx w.heap.size s :: K) vp Q D X → Calls Tryz.prog 29 #[.pointer (some ⟨Q, 0, none⟩), .int .i64 s.n] X fun r w' => r = .returned (.bool rb) ∧ w' = X) := Lib.hid (fun X q => by rw [← hrb]; exact rRecent_Z q s.n)
  have HU : Hid (∀ X, ZHH W (SBx w.heap.size s :: K) vp Q D X → Calls Tryz.prog 7 #[vp] X fun r w' => ∃ ua un uc, r = .returned (.slice ua un uc) ∧ ZHH W (SBx w.heap.size s :: K) vp Q D w' ∧ Nms w' (.slice ua un uc) L) := Lib.hid (fun X q => by
    refine (vUids_Z q).mono ?_
    rw [hL]
    rintro r w' ⟨v', rfl, q1, q2, _⟩
    obtain ⟨a, c, e, q⟩ := q2
    subst e
    exact ⟨a, _, c, rfl, q1, a, c, rfl, q⟩)
  have HRU : Hid (∀ X bv, ZHH W (SBx w.heap.size s :: K) vp Q D X ∧ Nms X bv L → Calls Tryz.prog 30 #[.pointer (some ⟨Q, 0, none⟩)] X fun r w' => ∃ ua un uc, r = .returned (.slice ua un uc) ∧ ZHH W (SBx w.heap.size s :: K) vp Q D w' ∧ Nms w' bv L ∧ Nms w' (.slice ua un uc) L) := Lib.hid (fun X bv q => by
    refine (rUids_Z q.1).mono ?_
    rw [hL]
    rintro r w' ⟨v', rfl, q1, q2, q3⟩
    obtain ⟨a, c, e, q4⟩ := q2
    subst e
    exact ⟨a, _, c, rfl, q1, q.2.on q3, a, c, rfl, q4⟩)
  have HAl : Hid (∀ X a b, ZHH W (SBx w.heap.size s :: K) vp Q D X → Nms X a L → Nms X b L → Calls Tryz.prog 22 #[a, b] X fun e w' => e = .returned (.bool true) ∧ ZHH W (SBx w.heap.size s :: K) vp Q D w') := Lib.hid (fun X a b q1 q2 q3 => alike_Z q1 q2 q3 hul)
  have HNum := Lib.hid (num_any se)
  have e1 : (si == si) = true := by simp
  have e2 : (se == se) = true := by simp
  have e3 : (gb == gb) = true := by simp
  have e4 : (rb == rb) = true := by simp
  clear h h1 hb1 h2 ho hs cr k4 hsi hse hgb hrb hL hul
  go_enter Tryz.func6, Tryz.ntmps6
  go_upto_region 1 with fail
  (try rw [hW1])
  clear hW1
  go_upto_region 18 with (go_at_call 24; refine HRS.out.mono ?_; rintro r w2 ⟨rfl, hv⟩; subst w2)
  go_upto_region 19 with (go_at_call 25; refine HVS.out.mono ?_; rintro r w3 ⟨rfl, hv⟩; have H3d := Lib.hid hv.drew; clear hv)
  clear c0 c20 c21 c22 c23 c24 c25 HRS HVS
  cases b8 with
  | true =>
    clear e1 e2 e3 e4
    refine wp_region_N 44 (fun X => ZHH W (SBx w.heap.size s :: K) vp Q D X) (by kernel_rfl) ?_
    refine wpAnyN_take (i := 0) (oi := { dst := some 154, op := Go.Op.move (Go.Operand.tmp 4), type := 3, pos := "law.go:279", after := #[], guard := none }) (oL := opZ19) (v := .int .i64 lk) rfl rfl (by kernel_rfl) (by kernel_rfl) (by kernel_rfl) (by kernel_rfl) (fun _ _ _ h => h) (Or.inl ⟨by kernel_rfl, ?_⟩) H3d.out ?_
    · (intro X hX; have hX' := hX.box; have z25 := stL_n (s := s) (b := w.heap.size) (t := 47) hX' <;> (go_simp; try (with_reducible rfl)))
    (try simp only [Act.put, List.setIfInBounds_toArray, List.set_cons_zero, List.set_cons_succ])
    refine wpAnyN_take (i := 1) (oi := { dst := some 155, op := Go.Op.binOp Go.BinOp.quo 3 (Go.Operand.tmp 154) (Go.Operand.const (Go.Value.int Go.IntKind.i64 8)) 3, type := 3, pos := "law.go:279", after := #[{ on := 0, ground := Go.Ground.data }], guard := none }) (oL := opZ19) (v := .int .i64 (lk.tdiv 8)) rfl rfl (by kernel_rfl) (by kernel_rfl) (by kernel_rfl) (by kernel_rfl) (fun _ _ _ h => h) (Or.inl ⟨by kernel_rfl, ?_⟩) H3d.out ?_
    · (intro X hX; have hX' := hX.box; have z25 := stL_n (s := s) (b := w.heap.size) (t := 47) hX' <;> (go_simp; try (with_reducible rfl)))
    (try simp only [Act.put, List.setIfInBounds_toArray, List.set_cons_zero, List.set_cons_succ])
    refine wpAnyN_take (i := 2) (oi := { dst := some 156, op := Go.Op.binOp Go.BinOp.rem 3 (Go.Operand.tmp 155) (Go.Operand.const (Go.Value.int Go.IntKind.i64 2)) 3, type := 3, pos := "law.go:279", after := #[{ on := 1, ground := Go.Ground.data }], guard := none }) (oL := opZ19) (v := .int .i64 ((lk.tdiv 8).tmod 2)) rfl rfl (by kernel_rfl) (by kernel_rfl) (by kernel_rfl) (by kernel_rfl) (fun _ _ _ h => h) (Or.inl ⟨by kernel_rfl, ?_⟩) H3d.out ?_
    · (intro X hX; have hX' := hX.box; have z25 := stL_n (s := s) (b := w.heap.size) (t := 47) hX' <;> (go_simp; try (with_reducible rfl)))
    (try simp only [Act.put, List.setIfInBounds_toArray, List.set_cons_zero, List.set_cons_succ])
    refine wpAnyN_take (i := 3) (oi := { dst := some 157, op := Go.Op.binOp Go.BinOp.eql 3 (Go.Operand.tmp 156) (Go.Operand.const (Go.Value.int Go.IntKind.i64 0)) 3, type := 4, pos := "law.go:279", after := #[{ on := 2, ground := Go.Ground.data }], guard := none }) (oL := opZ19) (v := .bool true) rfl rfl (by kernel_rfl) (by kernel_rfl) (by kernel_rfl) (by kernel_rfl) (fun _ _ _ h => h) (Or.inl ⟨by kernel_rfl, ?_⟩) H3d.out ?_
    · (intro X hX; have hX' := hX.box; have z25 := stL_n (s := s) (b := w.heap.size) (t := 47) hX' <;> (go_simp; try (with_reducible rfl)))
    (try simp only [Act.put, List.setIfInBounds_toArray, List.set_cons_zero, List.set_cons_succ])
    refine wpAnyN_take (i := 4) (oi := { dst := some 158, op := Go.Op.move (Go.Operand.tmp 157), type := 4, pos := "law.go:279", after := #[{ on := 3, ground := Go.Ground.data }], guard := none }) (oL := opZ19) (v := .bool true) rfl rfl (by kernel_rfl) (by kernel_rfl) (by kernel_rfl) (by kernel_rfl) (fun _ _ _ h => h) (Or.inl ⟨by kernel_rfl, ?_⟩) H3d.out ?_
    · (intro X hX; have hX' := hX.box; have z25 := stL_n (s := s) (b := w.heap.size) (t := 47) hX' <;> (go_simp; try (with_reducible rfl)))
    (try simp only [Act.put, List.setIfInBounds_toArray, List.set_cons_zero, List.set_cons_succ])
    refine wpAnyN_take (i := 5) (oi := { dst := some 159, op := Go.Op.move (Go.Operand.tmp 22), type := 3, pos := "law.go:279", after := #[{ on := 4, ground := Go.Ground.guard }], guard := some (4, false) }) (oL := opZ19) (v := undef) rfl rfl (by kernel_rfl) (by kernel_rfl) (by kernel_rfl) (by kernel_rfl) (fun _ _ _ h => h) (Or.inr ⟨by kernel_rfl, rfl⟩) H3d.out ?_
    (try simp only [Act.put, List.setIfInBounds_toArray, List.set_cons_zero, List.set_cons_succ])
    refine wpAnyN_take (i := 6) (oi := { dst := some 160, op := Go.Op.move (Go.Operand.tmp 20), type := 3, pos := "law.go:279", after := #[{ on := 4, ground := Go.Ground.guard }], guard := some (4, false) }) (oL := opZ19) (v := undef) rfl rfl (by kernel_rfl) (by kernel_rfl) (by kernel_rfl) (by kernel_rfl) (fun _ _ _ h => h) (Or.inr ⟨by kernel_rfl, rfl⟩) H3d.out ?_
    (try simp only [Act.put, List.setIfInBounds_toArray, List.set_cons_zero, List.set_cons_succ])
    refine wpAnyN_take (i := 7) (oi := { dst := some 161, op := Go.Op.binOp Go.BinOp.eql 3 (Go.Operand.tmp 159) (Go.Operand.tmp 160) 3, type := 4, pos := "law.go:279", after := #[{ on := 5, ground := Go.Ground.data }, { on := 6, ground := Go.Ground.data }, { on := 4, ground := Go.Ground.guard }], guard := some (4, false) }) (oL := opZ19) (v := undef) rfl rfl (by kernel_rfl) (by kernel_rfl) (by kernel_rfl) (by kernel_rfl) (fun _ _ _ h => h) (Or.inr ⟨by kernel_rfl, rfl⟩) H3d.out ?_
    (try simp only [Act.put, List.setIfInBounds_toArray, List.set_cons_zero, List.set_cons_succ])
    refine wpAnyN_take (i := 8) (oi := { dst := some 162, op := Go.Op.move (Go.Operand.tmp 161), type := 4, pos := "law.go:279", after := #[{ on := 7, ground := Go.Ground.data }, { on := 4, ground := Go.Ground.chain }, { on := 4, ground := Go.Ground.guard }], guard := some (4, false) }) (oL := opZ19) (v := undef) rfl rfl (by kernel_rfl) (by kernel_rfl) (by kernel_rfl) (by kernel_rfl) (fun _ _ _ h => h) (Or.inr ⟨by kernel_rfl, rfl⟩) H3d.out ?_
    (try simp only [Act.put, List.setIfInBounds_toArray, List.set_cons_zero, List.set_cons_succ])
    refine wpAnyN_take (i := 9) (oi := { dst := some 163, op := Go.Op.move (Go.Operand.tmp 23), type := 66, pos := "law.go:279", after := #[{ on := 8, ground := Go.Ground.guard }], guard := some (8, true) }) (oL := opZ19) (v := undef) rfl rfl (by kernel_rfl) (by kernel_rfl) (by kernel_rfl) (by kernel_rfl) (fun _ _ _ h => h) (Or.inr ⟨by kernel_rfl, rfl⟩) H3d.out ?_
    (try simp only [Act.put, List.setIfInBounds_toArray, List.set_cons_zero, List.set_cons_succ])
    refine wpAnyN_take (i := 10) (oi := { dst := some 164, op := Go.Op.call { callee := Go.Callee.value (Go.Operand.func 23), args := #[Go.Operand.tmp 163], argTypes := #[66] }, type := 3, pos := "law.go:279", after := #[{ on := 9, ground := Go.Ground.data }, { on := 8, ground := Go.Ground.chain }, { on := 8, ground := Go.Ground.guard }], guard := some (8, true) }) (oL := opZ19) (v := undef) rfl rfl (by kernel_rfl) (by kernel_rfl) (by kernel_rfl) (by kernel_rfl) (fun _ _ _ h => h) (Or.inr ⟨by kernel_rfl, rfl⟩) H3d.out ?_
    (try simp only [Act.put, List.setIfInBounds_toArray, List.set_cons_zero, List.set_cons_succ])
    refine wpAnyN_take (i := 11) (oi := { dst := some 165, op := Go.Op.move (Go.Operand.tmp 21), type := 3, pos := "law.go:279", after := #[{ on := 8, ground := Go.Ground.guard }], guard := some (8, true) }) (oL := opZ19) (v := undef) rfl rfl (by kernel_rfl) (by kernel_rfl) (by kernel_rfl) (by kernel_rfl) (fun _ _ _ h => h) (Or.inr ⟨by kernel_rfl, rfl⟩) H3d.out ?_
    (try simp only [Act.put, List.setIfInBounds_toArray, List.set_cons_zero, List.set_cons_succ])
    refine wpAnyN_take (i := 12) (oi := { dst := some 166, op := Go.Op.binOp Go.BinOp.eql 3 (Go.Operand.tmp 164) (Go.Operand.tmp 165) 3, type := 4, pos := "law.go:279", after := #[{ on := 10, ground := Go.Ground.data }, { on := 11, ground := Go.Ground.data }, { on := 8, ground := Go.Ground.guard }], guard := some (8, true) }) (oL := opZ19) (v := undef) rfl rfl (by kernel_rfl) (by kernel_rfl) (by kernel_rfl) (by kernel_rfl) (fun _ _ _ h => h) (Or.inr ⟨by kernel_rfl, rfl⟩) H3d.out ?_
    (try simp only [Act.put, List.setIfInBounds_toArray, List.set_cons_zero, List.set_cons_succ])
    refine wpAnyN_take (i := 13) (oi := { dst := some 167, op := Go.Op.pick (Go.Operand.tmp 162) (Go.Operand.tmp 166) (Go.Operand.const (Go.Value.bool false)), type := 4, pos := "law.go:279", after := #[{ on := 8, ground := Go.Ground.data }, { on := 12, ground := Go.Ground.data }, { on := 4, ground := Go.Ground.guard }], guard := some (4, false) }) (oL := opZ19) (v := undef) rfl rfl (by kernel_rfl) (by kernel_rfl) (by kernel_rfl) (by kernel_rfl) (fun _ _ _ h => h) (Or.inr ⟨by kernel_rfl, rfl⟩) H3d.out ?_
    (try simp only [Act.put, List.setIfInBounds_toArray, List.set_cons_zero, List.set_cons_succ])
    refine wpAnyN_take (i := 14) (oi := { dst := some 168, op := Go.Op.move (Go.Operand.tmp 167), type := 4, pos := "law.go:279", after := #[{ on := 13, ground := Go.Ground.data }, { on := 10, ground := Go.Ground.chain }, { on := 4, ground := Go.Ground.guard }], guard := some (4, false) }) (oL := opZ19) (v := undef) rfl rfl (by kernel_rfl) (by kernel_rfl) (by kernel_rfl) (by kernel_rfl) (fun _ _ _ h => h) (Or.inr ⟨by kernel_rfl, rfl⟩) H3d.out ?_
    (try simp only [Act.put, List.setIfInBounds_toArray, List.set_cons_zero, List.set_cons_succ])
    refine wpAnyN_take (i := 15) (oi := { dst := some 169, op := Go.Op.move (Go.Operand.tmp 0), type := 24, pos := "law.go:279", after := #[{ on := 14, ground := Go.Ground.guard }], guard := some (14, true) }) (oL := opZ19) (v := undef) rfl rfl (by kernel_rfl) (by kernel_rfl) (by kernel_rfl) (by kernel_rfl) (fun _ _ _ h => h) (Or.inr ⟨by kernel_rfl, rfl⟩) H3d.out ?_
    (try simp only [Act.put, List.setIfInBounds_toArray, List.set_cons_zero, List.set_cons_succ])
    refine wpAnyN_take (i := 16) (oi := { dst := some 170, op := Go.Op.fieldAddr 47 (Go.Operand.tmp 8) 8, type := 0, pos := "law.go:279", after := #[{ on := 14, ground := Go.Ground.guard }], guard := some (14, true) }) (oL := opZ19) (v := undef) rfl rfl (by kernel_rfl) (by kernel_rfl) (by kernel_rfl) (by kernel_rfl) (fun _ _ _ h => h) (Or.inr ⟨by kernel_rfl, rfl⟩) H3d.out ?_
    (try simp only [Act.put, List.setIfInBounds_toArray, List.set_cons_zero, List.set_cons_succ])
    refine wpAnyN_take (i := 17) (oi := { dst := some 171, op := Go.Op.load 3 (Go.Operand.tmp 170), type := 3, pos := "law.go:279", after := #[{ on := 16, ground := Go.Ground.data }, { on := 14, ground := Go.Ground.guard }], guard := some (14, true) }) (oL := opZ19) (v := undef) rfl rfl (by kernel_rfl) (by kernel_rfl) (by kernel_rfl) (by kernel_rfl) (fun _ _ _ h => h) (Or.inr ⟨by kernel_rfl, rfl⟩) H3d.out ?_
    (try simp only [Act.put, List.setIfInBounds_toArray, List.set_cons_zero, List.set_cons_succ])
    refine wpAnyN_take (i := 18) (oi := { dst := some 172, op := Go.Op.call { callee := Go.Callee.value (Go.Operand.func 26), args := #[Go.Operand.tmp 169, Go.Operand.tmp 171], argTypes := #[24, 3] }, type := 4, pos := "law.go:279", after := #[{ on := 15, ground := Go.Ground.data }, { on := 17, ground := Go.Ground.data }, { on := 14, ground := Go.Ground.chain }, { on := 14, ground := Go.Ground.guard }], guard := some (14, true) }) (oL := opZ19) (v := undef) rfl rfl (by kernel_rfl) (by kernel_rfl) (by kernel_rfl) (by kernel_rfl) (fun _ _ _ h => h) (Or.inr ⟨by kernel_rfl, rfl⟩) H3d.out ?_
    (try simp only [Act.put, List.setIfInBounds_toArray, List.set_cons_zero, List.set_cons_succ])
    refine wpAnyN_take (i := 19) (oi := { dst := some 173, op := Go.Op.move (Go.Operand.tmp 1), type := 36, pos := "law.go:279", after := #[{ on := 14, ground := Go.Ground.guard }], guard := some (14, true) }) (oL := opZ19) (v := undef) rfl rfl (by kernel_rfl) (by kernel_rfl) (by kernel_rfl) (by kernel_rfl) (fun _ _ _ h => h) (Or.inr ⟨by kernel_rfl, rfl⟩) H3d.out ?_
    (try simp only [Act.put, List.setIfInBounds_toArray, List.set_cons_zero, List.set_cons_succ])
    refine wpAnyN_take (i := 20) (oi := { dst := some 174, op := Go.Op.fieldAddr 47 (Go.Operand.tmp 8) 8, type := 0, pos := "law.go:279", after := #[{ on := 14, ground := Go.Ground.guard }], guard := some (14, true) }) (oL := opZ19) (v := undef) rfl rfl (by kernel_rfl) (by kernel_rfl) (by kernel_rfl) (by kernel_rfl) (fun _ _ _ h => h) (Or.inr ⟨by kernel_rfl, rfl⟩) H3d.out ?_
    (try simp only [Act.put, List.setIfInBounds_toArray, List.set_cons_zero, List.set_cons_succ])
    refine wpAnyN_take (i := 21) (oi := { dst := some 175, op := Go.Op.load 3 (Go.Operand.tmp 174), type := 3, pos := "law.go:279", after := #[{ on := 20, ground := Go.Ground.data }, { on := 14, ground := Go.Ground.guard }], guard := some (14, true) }) (oL := opZ19) (v := undef) rfl rfl (by kernel_rfl) (by kernel_rfl) (by kernel_rfl) (by kernel_rfl) (fun _ _ _ h => h) (Or.inr ⟨by kernel_rfl, rfl⟩) H3d.out ?_
    (try simp only [Act.put, List.setIfInBounds_toArray, List.set_cons_zero, List.set_cons_succ])
    refine wpAnyN_take (i := 22) (oi := { dst := some 176, op := Go.Op.call { callee := Go.Callee.value (Go.Operand.func 27), args := #[Go.Operand.tmp 173, Go.Operand.tmp 175], argTypes := #[36, 3] }, type := 4, pos := "law.go:279", after := #[{ on := 19, ground := Go.Ground.data }, { on := 21, ground := Go.Ground.data }, { on := 18, ground := Go.Ground.chain }, { on := 14, ground := Go.Ground.guard }], guard := some (14, true) }) (oL := opZ19) (v := undef) rfl rfl (by kernel_rfl) (by kernel_rfl) (by kernel_rfl) (by kernel_rfl) (fun _ _ _ h => h) (Or.inr ⟨by kernel_rfl, rfl⟩) H3d.out ?_
    (try simp only [Act.put, List.setIfInBounds_toArray, List.set_cons_zero, List.set_cons_succ])
    refine wpAnyN_take (i := 23) (oi := { dst := some 177, op := Go.Op.binOp Go.BinOp.eql 4 (Go.Operand.tmp 172) (Go.Operand.tmp 176) 4, type := 4, pos := "law.go:279", after := #[{ on := 18, ground := Go.Ground.data }, { on := 22, ground := Go.Ground.data }, { on := 14, ground := Go.Ground.guard }], guard := some (14, true) }) (oL := opZ19) (v := undef) rfl rfl (by kernel_rfl) (by kernel_rfl) (by kernel_rfl) (by kernel_rfl) (fun _ _ _ h => h) (Or.inr ⟨by kernel_rfl, rfl⟩) H3d.out ?_
    (try simp only [Act.put, List.setIfInBounds_toArray, List.set_cons_zero, List.set_cons_succ])
    refine wpAnyN_take (i := 24) (oi := { dst := some 178, op := Go.Op.pick (Go.Operand.tmp 168) (Go.Operand.tmp 177) (Go.Operand.const (Go.Value.bool false)), type := 4, pos := "law.go:279", after := #[{ on := 14, ground := Go.Ground.data }, { on := 23, ground := Go.Ground.data }, { on := 4, ground := Go.Ground.guard }], guard := some (4, false) }) (oL := opZ19) (v := undef) rfl rfl (by kernel_rfl) (by kernel_rfl) (by kernel_rfl) (by kernel_rfl) (fun _ _ _ h => h) (Or.inr ⟨by kernel_rfl, rfl⟩) H3d.out ?_
    (try simp only [Act.put, List.setIfInBounds_toArray, List.set_cons_zero, List.set_cons_succ])
    refine wpAnyN_take (i := 25) (oi := { dst := some 179, op := Go.Op.move (Go.Operand.tmp 178), type := 4, pos := "law.go:279", after := #[{ on := 24, ground := Go.Ground.data }, { on := 22, ground := Go.Ground.chain }, { on := 4, ground := Go.Ground.guard }], guard := some (4, false) }) (oL := opZ19) (v := undef) rfl rfl (by kernel_rfl) (by kernel_rfl) (by kernel_rfl) (by kernel_rfl) (fun _ _ _ h => h) (Or.inr ⟨by kernel_rfl, rfl⟩) H3d.out ?_
    (try simp only [Act.put, List.setIfInBounds_toArray, List.set_cons_zero, List.set_cons_succ])
    refine wpAnyN_take (i := 26) (oi := { dst := some 180, op := Go.Op.move (Go.Operand.tmp 0), type := 24, pos := "law.go:279", after := #[{ on := 25, ground := Go.Ground.guard }], guard := some (25, true) }) (oL := opZ19) (v := undef) rfl rfl (by kernel_rfl) (by kernel_rfl) (by kernel_rfl) (by kernel_rfl) (fun _ _ _ h => h) (Or.inr ⟨by kernel_rfl, rfl⟩) H3d.out ?_
    (try simp only [Act.put, List.setIfInBounds_toArray, List.set_cons_zero, List.set_cons_succ])
    refine wpAnyN_take (i := 27) (oi := { dst := some 181, op := Go.Op.fieldAddr 47 (Go.Operand.tmp 8) 8, type := 0, pos := "law.go:279", after := #[{ on := 25, ground := Go.Ground.guard }], guard := some (25, true) }) (oL := opZ19) (v := undef) rfl rfl (by kernel_rfl) (by kernel_rfl) (by kernel_rfl) (by kernel_rfl) (fun _ _ _ h => h) (Or.inr ⟨by kernel_rfl, rfl⟩) H3d.out ?_
    (try simp only [Act.put, List.setIfInBounds_toArray, List.set_cons_zero, List.set_cons_succ])
    refine wpAnyN_take (i := 28) (oi := { dst := some 182, op := Go.Op.load 3 (Go.Operand.tmp 181), type := 3, pos := "law.go:279", after := #[{ on := 27, ground := Go.Ground.data }, { on := 25, ground := Go.Ground.guard }], guard := some (25, true) }) (oL := opZ19) (v := undef) rfl rfl (by kernel_rfl) (by kernel_rfl) (by kernel_rfl) (by kernel_rfl) (fun _ _ _ h => h) (Or.inr ⟨by kernel_rfl, rfl⟩) H3d.out ?_
    (try simp only [Act.put, List.setIfInBounds_toArray, List.set_cons_zero, List.set_cons_succ])
    refine wpAnyN_take (i := 29) (oi := { dst := some 183, op := Go.Op.call { callee := Go.Callee.value (Go.Operand.func 28), args := #[Go.Operand.tmp 180, Go.Operand.tmp 182], argTypes := #[24, 3] }, type := 4, pos := "law.go:279", after := #[{ on := 26, ground := Go.Ground.data }, { on := 28, ground := Go.Ground.data }, { on := 25, ground := Go.Ground.chain }, { on := 25, ground := Go.Ground.guard }], guard := some (25, true) }) (oL := opZ19) (v := undef) rfl rfl (by kernel_rfl) (by kernel_rfl) (by kernel_rfl) (by kernel_rfl) (fun _ _ _ h => h) (Or.inr ⟨by kernel_rfl, rfl⟩) H3d.out ?_
    (try simp only [Act.put, List.setIfInBounds_toArray, List.set_cons_zero, List.set_cons_succ])
    refine wpAnyN_take (i := 30) (oi := { dst := some 184, op := Go.Op.move (Go.Operand.tmp 1), type := 36, pos := "law.go:279", after := #[{ on := 25, ground := Go.Ground.guard }], guard := some (25, true) }) (oL := opZ19) (v := undef) rfl rfl (by kernel_rfl) (by kernel_rfl) (by kernel_rfl) (by kernel_rfl) (fun _ _ _ h => h) (Or.inr ⟨by kernel_rfl, rfl⟩) H3d.out ?_
    (try simp only [Act.put, List.setIfInBounds_toArray, List.set_cons_zero, List.set_cons_succ])
    refine wpAnyN_take (i := 31) (oi := { dst := some 185, op := Go.Op.fieldAddr 47 (Go.Operand.tmp 8) 8, type := 0, pos := "law.go:279", after := #[{ on := 25, ground := Go.Ground.guard }], guard := some (25, true) }) (oL := opZ19) (v := undef) rfl rfl (by kernel_rfl) (by kernel_rfl) (by kernel_rfl) (by kernel_rfl) (fun _ _ _ h => h) (Or.inr ⟨by kernel_rfl, rfl⟩) H3d.out ?_
    (try simp only [Act.put, List.setIfInBounds_toArray, List.set_cons_zero, List.set_cons_succ])
    refine wpAnyN_take (i := 32) (oi := { dst := some 186, op := Go.Op.load 3 (Go.Operand.tmp 185), type := 3, pos := "law.go:279", after := #[{ on := 31, ground := Go.Ground.data }, { on := 25, ground := Go.Ground.guard }], guard := some (25, true) }) (oL := opZ19) (v := undef) rfl rfl (by kernel_rfl) (by kernel_rfl) (by kernel_rfl) (by kernel_rfl) (fun _ _ _ h => h) (Or.inr ⟨by kernel_rfl, rfl⟩) H3d.out ?_
    (try simp only [Act.put, List.setIfInBounds_toArray, List.set_cons_zero, List.set_cons_succ])
    refine wpAnyN_take (i := 33) (oi := { dst := some 187, op := Go.Op.call { callee := Go.Callee.value (Go.Operand.func 29), args := #[Go.Operand.tmp 184, Go.Operand.tmp 186], argTypes := #[36, 3] }, type := 4, pos := "law.go:279", after := #[{ on := 30, ground := Go.Ground.data }, { on := 32, ground := Go.Ground.data }, { on := 29, ground := Go.Ground.chain }, { on := 25, ground := Go.Ground.guard }], guard := some (25, true) }) (oL := opZ19) (v := undef) rfl rfl (by kernel_rfl) (by kernel_rfl) (by kernel_rfl) (by kernel_rfl) (fun _ _ _ h => h) (Or.inr ⟨by kernel_rfl, rfl⟩) H3d.out ?_
    (try simp only [Act.put, List.setIfInBounds_toArray, List.set_cons_zero, List.set_cons_succ])
    refine wpAnyN_take (i := 34) (oi := { dst := some 188, op := Go.Op.binOp Go.BinOp.eql 4 (Go.Operand.tmp 183) (Go.Operand.tmp 187) 4, type := 4, pos := "law.go:279", after := #[{ on := 29, ground := Go.Ground.data }, { on := 33, ground := Go.Ground.data }, { on := 25, ground := Go.Ground.guard }], guard := some (25, true) }) (oL := opZ19) (v := undef) rfl rfl (by kernel_rfl) (by kernel_rfl) (by kernel_rfl) (by kernel_rfl) (fun _ _ _ h => h) (Or.inr ⟨by kernel_rfl, rfl⟩) H3d.out ?_
    (try simp only [Act.put, List.setIfInBounds_toArray, List.set_cons_zero, List.set_cons_succ])
    refine wpAnyN_take (i := 35) (oi := { dst := some 189, op := Go.Op.pick (Go.Operand.tmp 179) (Go.Operand.tmp 188) (Go.Operand.const (Go.Value.bool false)), type := 4, pos := "law.go:279", after := #[{ on := 25, ground := Go.Ground.data }, { on := 34, ground := Go.Ground.data }, { on := 4, ground := Go.Ground.guard }], guard := some (4, false) }) (oL := opZ19) (v := undef) rfl rfl (by kernel_rfl) (by kernel_rfl) (by kernel_rfl) (by kernel_rfl) (fun _ _ _ h => h) (Or.inr ⟨by kernel_rfl, rfl⟩) H3d.out ?_
    (try simp only [Act.put, List.setIfInBounds_toArray, List.set_cons_zero, List.set_cons_succ])
    refine wpAnyN_take (i := 36) (oi := { dst := some 190, op := Go.Op.move (Go.Operand.tmp 189), type := 4, pos := "law.go:279", after := #[{ on := 35, ground := Go.Ground.data }, { on := 33, ground := Go.Ground.chain }, { on := 4, ground := Go.Ground.guard }], guard := some (4, false) }) (oL := opZ19) (v := undef) rfl rfl (by kernel_rfl) (by kernel_rfl) (by kernel_rfl) (by kernel_rfl) (fun _ _ _ h => h) (Or.inr ⟨by kernel_rfl, rfl⟩) H3d.out ?_
    (try simp only [Act.put, List.setIfInBounds_toArray, List.set_cons_zero, List.set_cons_succ])
    refine wpAnyN_take (i := 37) (oi := { dst := some 191, op := Go.Op.move (Go.Operand.tmp 0), type := 24, pos := "law.go:279", after := #[{ on := 36, ground := Go.Ground.guard }], guard := some (36, true) }) (oL := opZ19) (v := undef) rfl rfl (by kernel_rfl) (by kernel_rfl) (by kernel_rfl) (by kernel_rfl) (fun _ _ _ h => h) (Or.inr ⟨by kernel_rfl, rfl⟩) H3d.out ?_
    (try simp only [Act.put, List.setIfInBounds_toArray, List.set_cons_zero, List.set_cons_succ])
    refine wpAnyN_take (i := 38) (oi := { dst := some 192, op := Go.Op.call { callee := Go.Callee.value (Go.Operand.func 7), args := #[Go.Operand.tmp 191], argTypes := #[24] }, type := 26, pos := "law.go:279", after := #[{ on := 37, ground := Go.Ground.data }, { on := 36, ground := Go.Ground.chain }, { on := 36, ground := Go.Ground.guard }], guard := some (36, true) }) (oL := opZ19) (v := undef) rfl rfl (by kernel_rfl) (by kernel_rfl) (by kernel_rfl) (by kernel_rfl) (fun _ _ _ h => h) (Or.inr ⟨by kernel_rfl, rfl⟩) H3d.out ?_
    (try simp only [Act.put, List.setIfInBounds_toArray, List.set_cons_zero, List.set_cons_succ])
    refine wpAnyN_take (i := 39) (oi := { dst := some 193, op := Go.Op.move (Go.Operand.tmp 1), type := 36, pos := "law.go:279", after := #[{ on := 36, ground := Go.Ground.guard }], guard := some (36, true) }) (oL := opZ19) (v := undef) rfl rfl (by kernel_rfl) (by kernel_rfl) (by kernel_rfl) (by kernel_rfl) (fun _ _ _ h => h) (Or.inr ⟨by kernel_rfl, rfl⟩) H3d.out ?_
    (try simp only [Act.put, List.setIfInBounds_toArray, List.set_cons_zero, List.set_cons_succ])
    refine wpAnyN_take (i := 40) (oi := { dst := some 194, op := Go.Op.call { callee := Go.Callee.value (Go.Operand.func 30), args := #[Go.Operand.tmp 193], argTypes := #[36] }, type := 26, pos := "law.go:279", after := #[{ on := 39, ground := Go.Ground.data }, { on := 38, ground := Go.Ground.chain }, { on := 36, ground := Go.Ground.guard }], guard := some (36, true) }) (oL := opZ19) (v := undef) rfl rfl (by kernel_rfl) (by kernel_rfl) (by kernel_rfl) (by kernel_rfl) (fun _ _ _ h => h) (Or.inr ⟨by kernel_rfl, rfl⟩) H3d.out ?_
    (try simp only [Act.put, List.setIfInBounds_toArray, List.set_cons_zero, List.set_cons_succ])
    refine wpAnyN_take (i := 41) (oi := { dst := some 195, op := Go.Op.call { callee := Go.Callee.value (Go.Operand.func 22), args := #[Go.Operand.tmp 192, Go.Operand.tmp 194], argTypes := #[26, 26] }, type := 4, pos := "law.go:279", after := #[{ on := 38, ground := Go.Ground.data }, { on := 40, ground := Go.Ground.data }, { on := 40, ground := Go.Ground.chain }, { on := 36, ground := Go.Ground.guard }], guard := some (36, true) }) (oL := opZ19) (v := undef) rfl rfl (by kernel_rfl) (by kernel_rfl) (by kernel_rfl) (by kernel_rfl) (fun _ _ _ h => h) (Or.inr ⟨by kernel_rfl, rfl⟩) H3d.out ?_
    (try simp only [Act.put, List.setIfInBounds_toArray, List.set_cons_zero, List.set_cons_succ])
    refine wpAnyN_take (i := 42) (oi := { dst := some 196, op := Go.Op.pick (Go.Operand.tmp 190) (Go.Operand.tmp 195) (Go.Operand.const (Go.Value.bool false)), type := 4, pos := "law.go:279", after := #[{ on := 36, ground := Go.Ground.data }, { on := 41, ground := Go.Ground.data }, { on := 4, ground := Go.Ground.guard }], guard := some (4, false) }) (oL := opZ19) (v := undef) rfl rfl (by kernel_rfl) (by kernel_rfl) (by kernel_rfl) (by kernel_rfl) (fun _ _ _ h => h) (Or.inr ⟨by kernel_rfl, rfl⟩) H3d.out ?_
    (try simp only [Act.put, List.setIfInBounds_toArray, List.set_cons_zero, List.set_cons_succ])
    refine wpAnyN_take (i := 43) (oi := { dst := some 197, op := Go.Op.pick (Go.Operand.tmp 158) (Go.Operand.const (Go.Value.bool true)) (Go.Operand.tmp 196), type := 4, pos := "law.go:279", after := #[{ on := 4, ground := Go.Ground.data }, { on := 42, ground := Go.Ground.data }], guard := none }) (oL := opZ19) (v := .bool true) rfl rfl (by kernel_rfl) (by kernel_rfl) (by kernel_rfl) (by kernel_rfl) (fun _ _ _ h => h) (Or.inl ⟨by kernel_rfl, ?_⟩) H3d.out ?_
    · (intro X hX; have hX' := hX.box; have z25 := stL_n (s := s) (b := w.heap.size) (t := 47) hX' <;> (go_simp; try (with_reducible rfl)))
    (try simp only [Act.put, List.setIfInBounds_toArray, List.set_cons_zero, List.set_cons_succ])
    refine wpAnyN_one (i := 44) (o := { dst := some 10, op := Go.Op.assign (Go.Operand.tmp 197), type := 4, pos := "law.go:279", after := #[{ on := 43, ground := Go.Ground.data }, { on := 41, ground := Go.Ground.chain }, { on := 0, ground := Go.Ground.phase }, { on := 1, ground := Go.Ground.phase }, { on := 2, ground := Go.Ground.phase }, { on := 3, ground := Go.Ground.phase }, { on := 4, ground := Go.Ground.phase }, { on := 5, ground := Go.Ground.phase }, { on := 6, ground := Go.Ground.phase }, { on := 7, ground := Go.Ground.phase }, { on := 8, ground := Go.Ground.phase }, { on := 9, ground := Go.Ground.phase }, { on := 10, ground := Go.Ground.phase }, { on := 11, ground := Go.Ground.phase }, { on := 12, ground := Go.Ground.phase }, { on := 13, ground := Go.Ground.phase }, { on := 14, ground := Go.Ground.phase }, { on := 15, ground := Go.Ground.phase }, { on := 16, ground := Go.Ground.phase }, { on := 17, ground := Go.Ground.phase }, { on := 18, ground := Go.Ground.phase }, { on := 19, ground := Go.Ground.phase }, { on := 20, ground := Go.Ground.phase }, { on := 21, ground := Go.Ground.phase }, { on := 22, ground := Go.Ground.phase }, { on := 23, ground := Go.Ground.phase }, { on := 24, ground := Go.Ground.phase }, { on := 25, ground := Go.Ground.phase }, { on := 26, ground := Go.Ground.phase }, { on := 27, ground := Go.Ground.phase }, { on := 28, ground := Go.Ground.phase }, { on := 29, ground := Go.Ground.phase }, { on := 30, ground := Go.Ground.phase }, { on := 31, ground := Go.Ground.phase }, { on := 32, ground := Go.Ground.phase }, { on := 33, ground := Go.Ground.phase }, { on := 34, ground := Go.Ground.phase }, { on := 35, ground := Go.Ground.phase }, { on := 36, ground := Go.Ground.phase }, { on := 37, ground := Go.Ground.phase }, { on := 38, ground := Go.Ground.phase }, { on := 39, ground := Go.Ground.phase }, { on := 40, ground := Go.Ground.phase }, { on := 41, ground := Go.Ground.phase }, { on := 42, ground := Go.Ground.phase }, { on := 43, ground := Go.Ground.phase }], guard := none }) (by kernel_rfl) rfl (fun K hK => ?_)
    go_simp
    refine hK.out _ _ (fun e => absurd (e.symm.trans (by kernel_rfl) : false = true) Bool.false_ne_true) ?_
    clear hK K
    (try simp only [Act.put, List.setIfInBounds_toArray, List.set_cons_zero, List.set_cons_succ])
    refine wpAnyN_of_H (S' := fun _ => True) _ _ _ _ (by kernel_rfl) ?_
    refine wpAnyH_done (by kernel_rfl) ?_ _
    go_wp2_with fail
    go_ret
    exact ⟨rfl, H3d.out.drop⟩
  | false =>
    refine wp_region_N 44 (fun X => ZHH W (SBx w.heap.size s :: K) vp Q D X) (by kernel_rfl) ?_
    refine wpAnyN_take (i := 0) (oi := { dst := some 154, op := Go.Op.move (Go.Operand.tmp 4), type := 3, pos := "law.go:279", after := #[], guard := none }) (oL := opZ19) (v := .int .i64 lk) rfl rfl (by kernel_rfl) (by kernel_rfl) (by kernel_rfl) (by kernel_rfl) (fun _ _ _ h => h) (Or.inl ⟨by kernel_rfl, ?_⟩) H3d.out ?_
    · (intro X hX; have hX' := hX.box; have z25 := stL_n (s := s) (b := w.heap.size) (t := 47) hX' <;> (go_simp; try (with_reducible rfl)))
    (try simp only [Act.put, List.setIfInBounds_toArray, List.set_cons_zero, List.set_cons_succ])
    refine wpAnyN_take (i := 1) (oi := { dst := some 155, op := Go.Op.binOp Go.BinOp.quo 3 (Go.Operand.tmp 154) (Go.Operand.const (Go.Value.int Go.IntKind.i64 8)) 3, type := 3, pos := "law.go:279", after := #[{ on := 0, ground := Go.Ground.data }], guard := none }) (oL := opZ19) (v := .int .i64 (lk.tdiv 8)) rfl rfl (by kernel_rfl) (by kernel_rfl) (by kernel_rfl) (by kernel_rfl) (fun _ _ _ h => h) (Or.inl ⟨by kernel_rfl, ?_⟩) H3d.out ?_
    · (intro X hX; have hX' := hX.box; have z25 := stL_n (s := s) (b := w.heap.size) (t := 47) hX' <;> (go_simp; try (with_reducible rfl)))
    (try simp only [Act.put, List.setIfInBounds_toArray, List.set_cons_zero, List.set_cons_succ])
    refine wpAnyN_take (i := 2) (oi := { dst := some 156, op := Go.Op.binOp Go.BinOp.rem 3 (Go.Operand.tmp 155) (Go.Operand.const (Go.Value.int Go.IntKind.i64 2)) 3, type := 3, pos := "law.go:279", after := #[{ on := 1, ground := Go.Ground.data }], guard := none }) (oL := opZ19) (v := .int .i64 ((lk.tdiv 8).tmod 2)) rfl rfl (by kernel_rfl) (by kernel_rfl) (by kernel_rfl) (by kernel_rfl) (fun _ _ _ h => h) (Or.inl ⟨by kernel_rfl, ?_⟩) H3d.out ?_
    · (intro X hX; have hX' := hX.box; have z25 := stL_n (s := s) (b := w.heap.size) (t := 47) hX' <;> (go_simp; try (with_reducible rfl)))
    (try simp only [Act.put, List.setIfInBounds_toArray, List.set_cons_zero, List.set_cons_succ])
    refine wpAnyN_take (i := 3) (oi := { dst := some 157, op := Go.Op.binOp Go.BinOp.eql 3 (Go.Operand.tmp 156) (Go.Operand.const (Go.Value.int Go.IntKind.i64 0)) 3, type := 4, pos := "law.go:279", after := #[{ on := 2, ground := Go.Ground.data }], guard := none }) (oL := opZ19) (v := .bool false) rfl rfl (by kernel_rfl) (by kernel_rfl) (by kernel_rfl) (by kernel_rfl) (fun _ _ _ h => h) (Or.inl ⟨by kernel_rfl, ?_⟩) H3d.out ?_
    · (intro X hX; have hX' := hX.box; have z25 := stL_n (s := s) (b := w.heap.size) (t := 47) hX' <;> (go_simp; try (with_reducible rfl)))
    (try simp only [Act.put, List.setIfInBounds_toArray, List.set_cons_zero, List.set_cons_succ])
    refine wpAnyN_take (i := 4) (oi := { dst := some 158, op := Go.Op.move (Go.Operand.tmp 157), type := 4, pos := "law.go:279", after := #[{ on := 3, ground := Go.Ground.data }], guard := none }) (oL := opZ19) (v := .bool false) rfl rfl (by kernel_rfl) (by kernel_rfl) (by kernel_rfl) (by kernel_rfl) (fun _ _ _ h => h) (Or.inl ⟨by kernel_rfl, ?_⟩) H3d.out ?_
    · (intro X hX; have hX' := hX.box; have z25 := stL_n (s := s) (b := w.heap.size) (t := 47) hX' <;> (go_simp; try (with_reducible rfl)))
    (try simp only [Act.put, List.setIfInBounds_toArray, List.set_cons_zero, List.set_cons_succ])
    refine wpAnyN_take (i := 5) (oi := { dst := some 159, op := Go.Op.move (Go.Operand.tmp 22), type := 3, pos := "law.go:279", after := #[{ on := 4, ground := Go.Ground.guard }], guard := some (4, false) }) (oL := opZ19) (v := .int .i64 si) rfl rfl (by kernel_rfl) (by kernel_rfl) (by kernel_rfl) (by kernel_rfl) (fun _ _ _ h => h) (Or.inl ⟨by kernel_rfl, ?_⟩) H3d.out ?_
    · (intro X hX; have hX' := hX.box; have z25 := stL_n (s := s) (b := w.heap.size) (t := 47) hX' <;> (go_simp; try (with_reducible rfl)))
    (try simp only [Act.put, List.setIfInBounds_toArray, List.set_cons_zero, List.set_cons_succ])
    refine wpAnyN_take (i := 6) (oi := { dst := some 160, op := Go.Op.move (Go.Operand.tmp 20), type := 3, pos := "law.go:279", after := #[{ on := 4, ground := Go.Ground.guard }], guard := some (4, false) }) (oL := opZ19) (v := .int .i64 si) rfl rfl (by kernel_rfl) (by kernel_rfl) (by kernel_rfl) (by kernel_rfl) (fun _ _ _ h => h) (Or.inl ⟨by kernel_rfl, ?_⟩) H3d.out ?_
    · (intro X hX; have hX' := hX.box; have z25 := stL_n (s := s) (b := w.heap.size) (t := 47) hX' <;> (go_simp; try (with_reducible rfl)))
    (try simp only [Act.put, List.setIfInBounds_toArray, List.set_cons_zero, List.set_cons_succ])
    refine wpAnyN_take (i := 7) (oi := { dst := some 161, op := Go.Op.binOp Go.BinOp.eql 3 (Go.Operand.tmp 159) (Go.Operand.tmp 160) 3, type := 4, pos := "law.go:279", after := #[{ on := 5, ground := Go.Ground.data }, { on := 6, ground := Go.Ground.data }, { on := 4, ground := Go.Ground.guard }], guard := some (4, false) }) (oL := opZ19) (v := .bool true) rfl rfl (by kernel_rfl) (by kernel_rfl) (by kernel_rfl) (by kernel_rfl) (fun _ _ _ h => h) (Or.inl ⟨by kernel_rfl, ?_⟩) H3d.out ?_
    · (intro X hX; have hX' := hX.box; have z25 := stL_n (s := s) (b := w.heap.size) (t := 47) hX' <;> (go_simp; try (with_reducible rfl)))
    (try simp only [Act.put, List.setIfInBounds_toArray, List.set_cons_zero, List.set_cons_succ])
    refine wpAnyN_take (i := 8) (oi := { dst := some 162, op := Go.Op.move (Go.Operand.tmp 161), type := 4, pos := "law.go:279", after := #[{ on := 7, ground := Go.Ground.data }, { on := 4, ground := Go.Ground.chain }, { on := 4, ground := Go.Ground.guard }], guard := some (4, false) }) (oL := opZ19) (v := .bool true) rfl rfl (by kernel_rfl) (by kernel_rfl) (by kernel_rfl) (by kernel_rfl) (fun _ _ _ h => h) (Or.inl ⟨by kernel_rfl, ?_⟩) H3d.out ?_
    · (intro X hX; have hX' := hX.box; have z25 := stL_n (s := s) (b := w.heap.size) (t := 47) hX' <;> (go_simp; try (with_reducible rfl)))
    (try simp only [Act.put, List.setIfInBounds_toArray, List.set_cons_zero, List.set_cons_succ])
    refine wpAnyN_take (i := 9) (oi := { dst := some 163, op := Go.Op.move (Go.Operand.tmp 23), type := 66, pos := "law.go:279", after := #[{ on := 8, ground := Go.Ground.guard }], guard := some (8, true) }) (oL := opZ19) (v := .int .i64 se) rfl rfl (by kernel_rfl) (by kernel_rfl) (by kernel_rfl) (by kernel_rfl) (fun _ _ _ h => h) (Or.inl ⟨by kernel_rfl, ?_⟩) H3d.out ?_
    · (intro X hX; have hX' := hX.box; have z25 := stL_n (s := s) (b := w.heap.size) (t := 47) hX' <;> (go_simp; try (with_reducible rfl)))
    (try simp only [Act.put, List.setIfInBounds_toArray, List.set_cons_zero, List.set_cons_succ])
    refine wpAnyN_take (i := 11) (oi := { dst := some 165, op := Go.Op.move (Go.Operand.tmp 21), type := 3, pos := "law.go:279", after := #[{ on := 8, ground := Go.Ground.guard }], guard := some (8, true) }) (oL := opZ19) (v := .int .i64 se) rfl rfl (by kernel_rfl) (by kernel_rfl) (by kernel_rfl) (by kernel_rfl) (fun _ _ _ h => h) (Or.inl ⟨by kernel_rfl, ?_⟩) H3d.out ?_
    · (intro X hX; have hX' := hX.box; have z25 := stL_n (s := s) (b := w.heap.size) (t := 47) hX' <;> (go_simp; try (with_reducible rfl)))
    (try simp only [Act.put, List.setIfInBounds_toArray, List.set_cons_zero, List.set_cons_succ])
    refine wpAnyN_one (i := 10) (o := { dst := some 164, op := Go.Op.call { callee := Go.Callee.value (Go.Operand.func 23), args := #[Go.Operand.tmp 163], argTypes := #[66] }, type := 3, pos := "law.go:279", after := #[{ on := 9, ground := Go.Ground.data }, { on := 8, ground := Go.Ground.chain }, { on := 8, ground := Go.Ground.guard }], guard := some (8, true) }) (by kernel_rfl) rfl (fun K hK => ?_)
    go_simp
    refine (HNum.out _).mono ?_
    rintro r w5 ⟨rfl, hv⟩
    subst w5
    refine hK.out _ _ (fun _ => H3d.out) ?_
    clear hK K
    (try simp only [Act.put, List.setIfInBounds_toArray, List.set_cons_zero, List.set_cons_succ])
    refine wpAnyN_take (i := 12) (oi := { dst := some 166, op := Go.Op.binOp Go.BinOp.eql 3 (Go.Operand.tmp 164) (Go.Operand.tmp 165) 3, type := 4, pos := "law.go:279", after := #[{ on := 10, ground := Go.Ground.data }, { on := 11, ground := Go.Ground.data }, { on := 8, ground := Go.Ground.guard }], guard := some (8, true) }) (oL := opZ19) (v := .bool true) rfl rfl (by kernel_rfl) (by kernel_rfl) (by kernel_rfl) (by kernel_rfl) (fun _ _ _ h => h) (Or.inl ⟨by kernel_rfl, ?_⟩) H3d.out ?_
    · (intro X hX; have hX' := hX.box; have z25 := stL_n (s := s) (b := w.heap.size) (t := 47) hX' <;> (go_simp; try (with_reducible rfl)))
    (try simp only [Act.put, List.setIfInBounds_toArray, List.set_cons_zero, List.set_cons_succ])
    refine wpAnyN_take (i := 13) (oi := { dst := some 167, op := Go.Op.pick (Go.Operand.tmp 162) (Go.Operand.tmp 166) (Go.Operand.const (Go.Value.bool false)), type := 4, pos := "law.go:279", after := #[{ on := 8, ground := Go.Ground.data }, { on := 12, ground := Go.Ground.data }, { on := 4, ground := Go.Ground.guard }], guard := some (4, false) }) (oL := opZ19) (v := .bool true) rfl rfl (by kernel_rfl) (by kernel_rfl) (by kernel_rfl) (by kernel_rfl) (fun _ _ _ h => h) (Or.inl ⟨by kernel_rfl, ?_⟩) H3d.out ?_
    · (intro X hX; have hX' := hX.box; have z25 := stL_n (s := s) (b := w.heap.size) (t := 47) hX' <;> (go_simp; try (with_reducible rfl)))
    (try simp only [Act.put, List.setIfInBounds_toArray, List.set_cons_zero, List.set_cons_succ])
    refine wpAnyN_take (i := 14) (oi := { dst := some 168, op := Go.Op.move (Go.Operand.tmp 167), type := 4, pos := "law.go:279", after := #[{ on := 13, ground := Go.Ground.data }, { on := 10, ground := Go.Ground.chain }, { on := 4, ground := Go.Ground.guard }], guard := some (4, false) }) (oL := opZ19) (v := .bool true) rfl rfl (by kernel_rfl) (by kernel_rfl) (by kernel_rfl) (by kernel_rfl) (fun _ _ _ h => h) (Or.inl ⟨by kernel_rfl, ?_⟩) H3d.out ?_
    · (intro X hX; have hX' := hX.box; have z25 := stL_n (s := s) (b := w.heap.size) (t := 47) hX' <;> (go_simp; try (with_reducible rfl)))
    (try simp only [Act.put, List.setIfInBounds_toArray, List.set_cons_zero, List.set_cons_succ])
    refine wpAnyN_take (i := 15) (oi := { dst := some 169, op := Go.Op.move (Go.Operand.tmp 0), type := 24, pos := "law.go:279", after := #[{ on := 14, ground := Go.Ground.guard }], guard := some (14, true) }) (oL := opZ19) (v := vp) rfl rfl (by kernel_rfl) (by kernel_rfl) (by kernel_rfl) (by kernel_rfl) (fun _ _ _ h => h) (Or.inl ⟨by kernel_rfl, ?_⟩) H3d.out ?_
    · (intro X hX; have hX' := hX.box; have z25 := stL_n (s := s) (b := w.heap.size) (t := 47) hX' <;> (go_simp; try (with_reducible rfl)))
    (try simp only [Act.put, List.setIfInBounds_toArray, List.set_cons_zero, List.set_cons_succ])
    refine wpAnyN_take (i := 16) (oi := { dst := some 170, op := Go.Op.fieldAddr 47 (Go.Operand.tmp 8) 8, type := 0, pos := "law.go:279", after := #[{ on := 14, ground := Go.Ground.guard }], guard := some (14, true) }) (oL := opZ19) (v := .pointer (some ⟨w.heap.size, 25, none⟩)) rfl rfl (by kernel_rfl) (by kernel_rfl) (by kernel_rfl) (by kernel_rfl) (fun _ _ _ h => h) (Or.inl ⟨by kernel_rfl, ?_⟩) H3d.out ?_
    · (intro X hX; have hX' := hX.box; have z25 := stL_n (s := s) (b := w.heap.size) (t := 47) hX' <;> (go_simp; try (with_reducible rfl)))
    (try simp only [Act.put, List.setIfInBounds_toArray, List.set_cons_zero, List.set_cons_succ])
    refine wpAnyN_take (i := 17) (oi := { dst := some 171, op := Go.Op.load 3 (Go.Operand.tmp 170), type := 3, pos := "law.go:279", after := #[{ on := 16, ground := Go.Ground.data }, { on := 14, ground := Go.Ground.guard }], guard := some (14, true) }) (oL := opZ19) (v := .int .i64 s.n) rfl rfl (by kernel_rfl) (by kernel_rfl) (by kernel_rfl) (by kernel_rfl) (fun _ _ _ h => h) (Or.inl ⟨by kernel_rfl, ?_⟩) H3d.out ?_
    · (intro X hX; have hX' := hX.box; have z25 := stL_n (s := s) (b := w.heap.size) (t := 47) hX' <;> (go_simp; try (with_reducible rfl)))
    (try simp only [Act.put, List.setIfInBounds_toArray, List.set_cons_zero, List.set_cons_succ])
    refine wpAnyN_take (i := 19) (oi := { dst := some 173, op := Go.Op.move (Go.Operand.tmp 1), type := 36, pos := "law.go:279", after := #[{ on := 14, ground := Go.Ground.guard }], guard := some (14, true) }) (oL := opZ19) (v := .pointer (some ⟨Q, 0, none⟩)) rfl rfl (by kernel_rfl) (by kernel_rfl) (by kernel_rfl) (by kernel_rfl) (fun _ _ _ h => h) (Or.inl ⟨by kernel_rfl, ?_⟩) H3d.out ?_
    · (intro X hX; have hX' := hX.box; have z25 := stL_n (s := s) (b := w.heap.size) (t := 47) hX' <;> (go_simp; try (with_reducible rfl)))
    (try simp only [Act.put, List.setIfInBounds_toArray, List.set_cons_zero, List.set_cons_succ])
    refine wpAnyN_take (i := 20) (oi := { dst := some 174, op := Go.Op.fieldAddr 47 (Go.Operand.tmp 8) 8, type := 0, pos := "law.go:279", after := #[{ on := 14, ground := Go.Ground.guard }], guard := some (14, true) }) (oL := opZ19) (v := .pointer (some ⟨w.heap.size, 25, none⟩)) rfl rfl (by kernel_rfl) (by kernel_rfl) (by kernel_rfl) (by kernel_rfl) (fun _ _ _ h => h) (Or.inl ⟨by kernel_rfl, ?_⟩) H3d.out ?_
    · (intro X hX; have hX' := hX.box; have z25 := stL_n (s := s) (b := w.heap.size) (t := 47) hX' <;> (go_simp; try (with_reducible rfl)))
    (try simp only [Act.put, List.setIfInBounds_toArray, List.set_cons_zero, List.set_cons_succ])
    refine wpAnyN_take (i := 21) (oi := { dst := some 175, op := Go.Op.load 3 (Go.Operand.tmp 174), type := 3, pos := "law.go:279", after := #[{ on := 20, ground := Go.Ground.data }, { on := 14, ground := Go.Ground.guard }], guard := some (14, true) }) (oL := opZ19) (v := .int .i64 s.n) rfl rfl (by kernel_rfl) (by kernel_rfl) (by kernel_rfl) (by kernel_rfl) (fun _ _ _ h => h) (Or.inl ⟨by kernel_rfl, ?_⟩) H3d.out ?_
    · (intro X hX; have hX' := hX.box; have z25 := stL_n (s := s) (b := w.heap.size) (t := 47) hX' <;> (go_simp; try (with_reducible rfl)))
    (try simp only [Act.put, List.setIfInBounds_toArray, List.set_cons_zero, List.set_cons_succ])
    refine wpAnyN_one (i := 18) (o := { dst := some 172, op := Go.Op.call { callee := Go.Callee.value (Go.Operand.func 26), args := #[Go.Operand.tmp 169, Go.Operand.tmp 171], argTypes := #[24, 3] }, type := 4, pos := "law.go:279", after := #[{ on := 15, ground := Go.Ground.data }, { on := 17, ground := Go.Ground.data }, { on := 14, ground := Go.Ground.chain }, { on := 14, ground := Go.Ground.guard }], guard := some (14, true) }) (by kernel_rfl) rfl (fun K hK => ?_)
    go_simp
    refine (HGo.out _ H3d.out).mono ?_
    rintro r w6 ⟨rfl, hv⟩
    have Hw6 := Lib.hid hv
    clear hv
    refine hK.out _ _ (fun _ => Hw6.out) ?_
    clear hK K
    (try simp only [Act.put, List.setIfInBounds_toArray, List.set_cons_zero, List.set_cons_succ])
    refine wpAnyN_one (i := 22) (o := { dst := some 176, op := Go.Op.call { callee := Go.Callee.value (Go.Operand.func 27), args := #[Go.Operand.tmp 173, Go.Operand.tmp 175], argTypes := #[36, 3] }, type := 4, pos := "law.go:279", after := #[{ on := 19, ground := Go.Ground.data }, { on := 21, ground := Go.Ground.data }, { on := 18, ground := Go.Ground.chain }, { on := 14, ground := Go.Ground.guard }], guard := some (14, true) }) (by kernel_rfl) rfl (fun K hK => ?_)
    go_simp
    refine (HRGo.out _ Hw6.out).mono ?_
    rintro r w7 ⟨rfl, hv⟩
    subst w7
    refine hK.out _ _ (fun _ => Hw6.out) ?_
    clear hK K
    (try simp only [Act.put, List.setIfInBounds_toArray, List.set_cons_zero, List.set_cons_succ])
    refine wpAnyN_take (i := 23) (oi := { dst := some 177, op := Go.Op.binOp Go.BinOp.eql 4 (Go.Operand.tmp 172) (Go.Operand.tmp 176) 4, type := 4, pos := "law.go:279", after := #[{ on := 18, ground := Go.Ground.data }, { on := 22, ground := Go.Ground.data }, { on := 14, ground := Go.Ground.guard }], guard := some (14, true) }) (oL := opZ19) (v := .bool true) rfl rfl (by kernel_rfl) (by kernel_rfl) (by kernel_rfl) (by kernel_rfl) (fun _ _ _ h => h) (Or.inl ⟨by kernel_rfl, ?_⟩) Hw6.out ?_
    · (intro X hX; have hX' := hX.box; have z25 := stL_n (s := s) (b := w.heap.size) (t := 47) hX' <;> (go_simp; try (with_reducible rfl)))
    (try simp only [Act.put, List.setIfInBounds_toArray, List.set_cons_zero, List.set_cons_succ])
    refine wpAnyN_take (i := 24) (oi := { dst := some 178, op := Go.Op.pick (Go.Operand.tmp 168) (Go.Operand.tmp 177) (Go.Operand.const (Go.Value.bool false)), type := 4, pos := "law.go:279", after := #[{ on := 14, ground := Go.Ground.data }, { on := 23, ground := Go.Ground.data }, { on := 4, ground := Go.Ground.guard }], guard := some (4, false) }) (oL := opZ19) (v := .bool true) rfl rfl (by kernel_rfl) (by kernel_rfl) (by kernel_rfl) (by kernel_rfl) (fun _ _ _ h => h) (Or.inl ⟨by kernel_rfl, ?_⟩) Hw6.out ?_
    · (intro X hX; have hX' := hX.box; have z25 := stL_n (s := s) (b := w.heap.size) (t := 47) hX' <;> (go_simp; try (with_reducible rfl)))
    (try simp only [Act.put, List.setIfInBounds_toArray, List.set_cons_zero, List.set_cons_succ])
    refine wpAnyN_take (i := 25) (oi := { dst := some 179, op := Go.Op.move (Go.Operand.tmp 178), type := 4, pos := "law.go:279", after := #[{ on := 24, ground := Go.Ground.data }, { on := 22, ground := Go.Ground.chain }, { on := 4, ground := Go.Ground.guard }], guard := some (4, false) }) (oL := opZ19) (v := .bool true) rfl rfl (by kernel_rfl) (by kernel_rfl) (by kernel_rfl) (by kernel_rfl) (fun _ _ _ h => h) (Or.inl ⟨by kernel_rfl, ?_⟩) Hw6.out ?_
    · (intro X hX; have hX' := hX.box; have z25 := stL_n (s := s) (b := w.heap.size) (t := 47) hX' <;> (go_simp; try (with_reducible rfl)))
    (try simp only [Act.put, List.setIfInBounds_toArray, List.set_cons_zero, List.set_cons_succ])
    refine wpAnyN_take (i := 26) (oi := { dst := some 180, op := Go.Op.move (Go.Operand.tmp 0), type := 24, pos := "law.go:279", after := #[{ on := 25, ground := Go.Ground.guard }], guard := some (25, true) }) (oL := opZ19) (v := vp) rfl rfl (by kernel_rfl) (by kernel_rfl) (by kernel_rfl) (by kernel_rfl) (fun _ _ _ h => h) (Or.inl ⟨by kernel_rfl, ?_⟩) Hw6.out ?_
    · (intro X hX; have hX' := hX.box; have z25 := stL_n (s := s) (b := w.heap.size) (t := 47) hX' <;> (go_simp; try (with_reducible rfl)))
    (try simp only [Act.put, List.setIfInBounds_toArray, List.set_cons_zero, List.set_cons_succ])
    refine wpAnyN_take (i := 27) (oi := { dst := some 181, op := Go.Op.fieldAddr 47 (Go.Operand.tmp 8) 8, type := 0, pos := "law.go:279", after := #[{ on := 25, ground := Go.Ground.guard }], guard := some (25, true) }) (oL := opZ19) (v := .pointer (some ⟨w.heap.size, 25, none⟩)) rfl rfl (by kernel_rfl) (by kernel_rfl) (by kernel_rfl) (by kernel_rfl) (fun _ _ _ h => h) (Or.inl ⟨by kernel_rfl, ?_⟩) Hw6.out ?_
    · (intro X hX; have hX' := hX.box; have z25 := stL_n (s := s) (b := w.heap.size) (t := 47) hX' <;> (go_simp; try (with_reducible rfl)))
    (try simp only [Act.put, List.setIfInBounds_toArray, List.set_cons_zero, List.set_cons_succ])
    refine wpAnyN_take (i := 28) (oi := { dst := some 182, op := Go.Op.load 3 (Go.Operand.tmp 181), type := 3, pos := "law.go:279", after := #[{ on := 27, ground := Go.Ground.data }, { on := 25, ground := Go.Ground.guard }], guard := some (25, true) }) (oL := opZ19) (v := .int .i64 s.n) rfl rfl (by kernel_rfl) (by kernel_rfl) (by kernel_rfl) (by kernel_rfl) (fun _ _ _ h => h) (Or.inl ⟨by kernel_rfl, ?_⟩) Hw6.out ?_
    · (intro X hX; have hX' := hX.box; have z25 := stL_n (s := s) (b := w.heap.size) (t := 47) hX' <;> (go_simp; try (with_reducible rfl)))
    (try simp only [Act.put, List.setIfInBounds_toArray, List.set_cons_zero, List.set_cons_succ])
    refine wpAnyN_take (i := 30) (oi := { dst := some 184, op := Go.Op.move (Go.Operand.tmp 1), type := 36, pos := "law.go:279", after := #[{ on := 25, ground := Go.Ground.guard }], guard := some (25, true) }) (oL := opZ19) (v := .pointer (some ⟨Q, 0, none⟩)) rfl rfl (by kernel_rfl) (by kernel_rfl) (by kernel_rfl) (by kernel_rfl) (fun _ _ _ h => h) (Or.inl ⟨by kernel_rfl, ?_⟩) Hw6.out ?_
    · (intro X hX; have hX' := hX.box; have z25 := stL_n (s := s) (b := w.heap.size) (t := 47) hX' <;> (go_simp; try (with_reducible rfl)))
    (try simp only [Act.put, List.setIfInBounds_toArray, List.set_cons_zero, List.set_cons_succ])
    refine wpAnyN_take (i := 31) (oi := { dst := some 185, op := Go.Op.fieldAddr 47 (Go.Operand.tmp 8) 8, type := 0, pos := "law.go:279", after := #[{ on := 25, ground := Go.Ground.guard }], guard := some (25, true) }) (oL := opZ19) (v := .pointer (some ⟨w.heap.size, 25, none⟩)) rfl rfl (by kernel_rfl) (by kernel_rfl) (by kernel_rfl) (by kernel_rfl) (fun _ _ _ h => h) (Or.inl ⟨by kernel_rfl, ?_⟩) Hw6.out ?_
    · (intro X hX; have hX' := hX.box; have z25 := stL_n (s := s) (b := w.heap.size) (t := 47) hX' <;> (go_simp; try (with_reducible rfl)))
    (try simp only [Act.put, List.setIfInBounds_toArray, List.set_cons_zero, List.set_cons_succ])
    refine wpAnyN_take (i := 32) (oi := { dst := some 186, op := Go.Op.load 3 (Go.Operand.tmp 185), type := 3, pos := "law.go:279", after := #[{ on := 31, ground := Go.Ground.data }, { on := 25, ground := Go.Ground.guard }], guard := some (25, true) }) (oL := opZ19) (v := .int .i64 s.n) rfl rfl (by kernel_rfl) (by kernel_rfl) (by kernel_rfl) (by kernel_rfl) (fun _ _ _ h => h) (Or.inl ⟨by kernel_rfl, ?_⟩) Hw6.out ?_
    · (intro X hX; have hX' := hX.box; have z25 := stL_n (s := s) (b := w.heap.size) (t := 47) hX' <;> (go_simp; try (with_reducible rfl)))
    (try simp only [Act.put, List.setIfInBounds_toArray, List.set_cons_zero, List.set_cons_succ])
    refine wpAnyN_one (i := 29) (o := { dst := some 183, op := Go.Op.call { callee := Go.Callee.value (Go.Operand.func 28), args := #[Go.Operand.tmp 180, Go.Operand.tmp 182], argTypes := #[24, 3] }, type := 4, pos := "law.go:279", after := #[{ on := 26, ground := Go.Ground.data }, { on := 28, ground := Go.Ground.data }, { on := 25, ground := Go.Ground.chain }, { on := 25, ground := Go.Ground.guard }], guard := some (25, true) }) (by kernel_rfl) rfl (fun K hK => ?_)
    go_simp
    refine (HRe.out _ Hw6.out).mono ?_
    rintro r w8 ⟨rfl, hv⟩
    have Hw8 := Lib.hid hv
    clear hv
    refine hK.out _ _ (fun _ => Hw8.out) ?_
    clear hK K
    (try simp only [Act.put, List.setIfInBounds_toArray, List.set_cons_zero, List.set_cons_succ])
    refine wpAnyN_one (i := 33) (o := { dst := some 187, op := Go.Op.call { callee := Go.Callee.value (Go.Operand.func 29), args := #[Go.Operand.tmp 184, Go.Operand.tmp 186], argTypes := #[36, 3] }, type := 4, pos := "law.go:279", after := #[{ on := 30, ground := Go.Ground.data }, { on := 32, ground := Go.Ground.data }, { on := 29, ground := Go.Ground.chain }, { on := 25, ground := Go.Ground.guard }], guard := some (25, true) }) (by kernel_rfl) rfl (fun K hK => ?_)
    go_simp
    refine (HRRe.out _ Hw8.out).mono ?_
    rintro r w9 ⟨rfl, hv⟩
    subst w9
    refine hK.out _ _ (fun _ => Hw8.out) ?_
    clear hK K
    (try simp only [Act.put, List.setIfInBounds_toArray, List.set_cons_zero, List.set_cons_succ])
    refine wpAnyN_take (i := 34) (oi := { dst := some 188, op := Go.Op.binOp Go.BinOp.eql 4 (Go.Operand.tmp 183) (Go.Operand.tmp 187) 4, type := 4, pos := "law.go:279", after := #[{ on := 29, ground := Go.Ground.data }, { on := 33, ground := Go.Ground.data }, { on := 25, ground := Go.Ground.guard }], guard := some (25, true) }) (oL := opZ19) (v := .bool true) rfl rfl (by kernel_rfl) (by kernel_rfl) (by kernel_rfl) (by kernel_rfl) (fun _ _ _ h => h) (Or.inl ⟨by kernel_rfl, ?_⟩) Hw8.out ?_
    · (intro X hX; have hX' := hX.box; have z25 := stL_n (s := s) (b := w.heap.size) (t := 47) hX' <;> (go_simp; try (with_reducible rfl)))
    (try simp only [Act.put, List.setIfInBounds_toArray, List.set_cons_zero, List.set_cons_succ])
    refine wpAnyN_take (i := 35) (oi := { dst := some 189, op := Go.Op.pick (Go.Operand.tmp 179) (Go.Operand.tmp 188) (Go.Operand.const (Go.Value.bool false)), type := 4, pos := "law.go:279", after := #[{ on := 25, ground := Go.Ground.data }, { on := 34, ground := Go.Ground.data }, { on := 4, ground := Go.Ground.guard }], guard := some (4, false) }) (oL := opZ19) (v := .bool true) rfl rfl (by kernel_rfl) (by kernel_rfl) (by kernel_rfl) (by kernel_rfl) (fun _ _ _ h => h) (Or.inl ⟨by kernel_rfl, ?_⟩) Hw8.out ?_
    · (intro X hX; have hX' := hX.box; have z25 := stL_n (s := s) (b := w.heap.size) (t := 47) hX' <;> (go_simp; try (with_reducible rfl)))
    (try simp only [Act.put, List.setIfInBounds_toArray, List.set_cons_zero, List.set_cons_succ])
    refine wpAnyN_take (i := 36) (oi := { dst := some 190, op := Go.Op.move (Go.Operand.tmp 189), type := 4, pos := "law.go:279", after := #[{ on := 35, ground := Go.Ground.data }, { on := 33, ground := Go.Ground.chain }, { on := 4, ground := Go.Ground.guard }], guard := some (4, false) }) (oL := opZ19) (v := .bool true) rfl rfl (by kernel_rfl) (by kernel_rfl) (by kernel_rfl) (by kernel_rfl) (fun _ _ _ h => h) (Or.inl ⟨by kernel_rfl, ?_⟩) Hw8.out ?_
    · (intro X hX; have hX' := hX.box; have z25 := stL_n (s := s) (b := w.heap.size) (t := 47) hX' <;> (go_simp; try (with_reducible rfl)))
    (try simp only [Act.put, List.setIfInBounds_toArray, List.set_cons_zero, List.set_cons_succ])
    refine wpAnyN_take (i := 37) (oi := { dst := some 191, op := Go.Op.move (Go.Operand.tmp 0), type := 24, pos := "law.go:279", after := #[{ on := 36, ground := Go.Ground.guard }], guard := some (36, true) }) (oL := opZ19) (v := vp) rfl rfl (by kernel_rfl) (by kernel_rfl) (by kernel_rfl) (by kernel_rfl) (fun _ _ _ h => h) (Or.inl ⟨by kernel_rfl, ?_⟩) Hw8.out ?_
    · (intro X hX; have hX' := hX.box; have z25 := stL_n (s := s) (b := w.heap.size) (t := 47) hX' <;> (go_simp; try (with_reducible rfl)))
    (try simp only [Act.put, List.setIfInBounds_toArray, List.set_cons_zero, List.set_cons_succ])
    refine wpAnyN_take (i := 39) (oi := { dst := some 193, op := Go.Op.move (Go.Operand.tmp 1), type := 36, pos := "law.go:279", after := #[{ on := 36, ground := Go.Ground.guard }], guard := some (36, true) }) (oL := opZ19) (v := .pointer (some ⟨Q, 0, none⟩)) rfl rfl (by kernel_rfl) (by kernel_rfl) (by kernel_rfl) (by kernel_rfl) (fun _ _ _ h => h) (Or.inl ⟨by kernel_rfl, ?_⟩) Hw8.out ?_
    · (intro X hX; have hX' := hX.box; have z25 := stL_n (s := s) (b := w.heap.size) (t := 47) hX' <;> (go_simp; try (with_reducible rfl)))
    (try simp only [Act.put, List.setIfInBounds_toArray, List.set_cons_zero, List.set_cons_succ])
    refine wpAnyN_one (i := 38) (o := { dst := some 192, op := Go.Op.call { callee := Go.Callee.value (Go.Operand.func 7), args := #[Go.Operand.tmp 191], argTypes := #[24] }, type := 26, pos := "law.go:279", after := #[{ on := 37, ground := Go.Ground.data }, { on := 36, ground := Go.Ground.chain }, { on := 36, ground := Go.Ground.guard }], guard := some (36, true) }) (by kernel_rfl) rfl (fun K hK => ?_)
    go_simp
    refine (HU.out _ Hw8.out).mono ?_
    rintro r w10 ⟨ua, un, uc, rfl, hv⟩
    have H10 := Lib.hid hv
    clear hv
    refine hK.out _ _ (fun _ => H10.out.1) ?_
    clear hK K
    (try simp only [Act.put, List.setIfInBounds_toArray, List.set_cons_zero, List.set_cons_succ])
    refine wpAnyN_one (i := 40) (o := { dst := some 194, op := Go.Op.call { callee := Go.Callee.value (Go.Operand.func 30), args := #[Go.Operand.tmp 193], argTypes := #[36] }, type := 26, pos := "law.go:279", after := #[{ on := 39, ground := Go.Ground.data }, { on := 38, ground := Go.Ground.chain }, { on := 36, ground := Go.Ground.guard }], guard := some (36, true) }) (by kernel_rfl) rfl (fun K hK => ?_)
    go_simp
    refine (HRU.out _ _ H10.out).mono ?_
    rintro r w11 ⟨ra, rn, rc, rfl, hv⟩
    have H11 := Lib.hid hv
    clear hv
    refine hK.out _ _ (fun _ => H11.out.1) ?_
    clear hK K
    (try simp only [Act.put, List.setIfInBounds_toArray, List.set_cons_zero, List.set_cons_succ])
    refine wpAnyN_one (i := 41) (o := { dst := some 195, op := Go.Op.call { callee := Go.Callee.value (Go.Operand.func 22), args := #[Go.Operand.tmp 192, Go.Operand.tmp 194], argTypes := #[26, 26] }, type := 4, pos := "law.go:279", after := #[{ on := 38, ground := Go.Ground.data }, { on := 40, ground := Go.Ground.data }, { on := 40, ground := Go.Ground.chain }, { on := 36, ground := Go.Ground.guard }], guard := some (36, true) }) (by kernel_rfl) rfl (fun K hK => ?_)
    go_simp
    refine (HAl.out _ _ _ H11.out.1 H11.out.2.1 H11.out.2.2).mono ?_
    rintro r w12 ⟨rfl, hv⟩
    have H12 := Lib.hid hv
    clear hv
    refine hK.out _ _ (fun _ => H12.out) ?_
    clear hK K
    (try simp only [Act.put, List.setIfInBounds_toArray, List.set_cons_zero, List.set_cons_succ])
    refine wpAnyN_take (i := 42) (oi := { dst := some 196, op := Go.Op.pick (Go.Operand.tmp 190) (Go.Operand.tmp 195) (Go.Operand.const (Go.Value.bool false)), type := 4, pos := "law.go:279", after := #[{ on := 36, ground := Go.Ground.data }, { on := 41, ground := Go.Ground.data }, { on := 4, ground := Go.Ground.guard }], guard := some (4, false) }) (oL := opZ19) (v := .bool true) rfl rfl (by kernel_rfl) (by kernel_rfl) (by kernel_rfl) (by kernel_rfl) (fun _ _ _ h => h) (Or.inl ⟨by kernel_rfl, ?_⟩) H12.out ?_
    · (intro X hX; have hX' := hX.box; have z25 := stL_n (s := s) (b := w.heap.size) (t := 47) hX' <;> (go_simp; try (with_reducible rfl)))
    (try simp only [Act.put, List.setIfInBounds_toArray, List.set_cons_zero, List.set_cons_succ])
    refine wpAnyN_take (i := 43) (oi := { dst := some 197, op := Go.Op.pick (Go.Operand.tmp 158) (Go.Operand.const (Go.Value.bool true)) (Go.Operand.tmp 196), type := 4, pos := "law.go:279", after := #[{ on := 4, ground := Go.Ground.data }, { on := 42, ground := Go.Ground.data }], guard := none }) (oL := opZ19) (v := .bool true) rfl rfl (by kernel_rfl) (by kernel_rfl) (by kernel_rfl) (by kernel_rfl) (fun _ _ _ h => h) (Or.inl ⟨by kernel_rfl, ?_⟩) H12.out ?_
    · (intro X hX; have hX' := hX.box; have z25 := stL_n (s := s) (b := w.heap.size) (t := 47) hX' <;> (go_simp; try (with_reducible rfl)))
    (try simp only [Act.put, List.setIfInBounds_toArray, List.set_cons_zero, List.set_cons_succ])
    refine wpAnyN_one (i := 44) (o := { dst := some 10, op := Go.Op.assign (Go.Operand.tmp 197), type := 4, pos := "law.go:279", after := #[{ on := 43, ground := Go.Ground.data }, { on := 41, ground := Go.Ground.chain }, { on := 0, ground := Go.Ground.phase }, { on := 1, ground := Go.Ground.phase }, { on := 2, ground := Go.Ground.phase }, { on := 3, ground := Go.Ground.phase }, { on := 4, ground := Go.Ground.phase }, { on := 5, ground := Go.Ground.phase }, { on := 6, ground := Go.Ground.phase }, { on := 7, ground := Go.Ground.phase }, { on := 8, ground := Go.Ground.phase }, { on := 9, ground := Go.Ground.phase }, { on := 10, ground := Go.Ground.phase }, { on := 11, ground := Go.Ground.phase }, { on := 12, ground := Go.Ground.phase }, { on := 13, ground := Go.Ground.phase }, { on := 14, ground := Go.Ground.phase }, { on := 15, ground := Go.Ground.phase }, { on := 16, ground := Go.Ground.phase }, { on := 17, ground := Go.Ground.phase }, { on := 18, ground := Go.Ground.phase }, { on := 19, ground := Go.Ground.phase }, { on := 20, ground := Go.Ground.phase }, { on := 21, ground := Go.Ground.phase }, { on := 22, ground := Go.Ground.phase }, { on := 23, ground := Go.Ground.phase }, { on := 24, ground := Go.Ground.phase }, { on := 25, ground := Go.Ground.phase }, { on := 26, ground := Go.Ground.phase }, { on := 27, ground := Go.Ground.phase }, { on := 28, ground := Go.Ground.phase }, { on := 29, ground := Go.Ground.phase }, { on := 30, ground := Go.Ground.phase }, { on := 31, ground := Go.Ground.phase }, { on := 32, ground := Go.Ground.phase }, { on := 33, ground := Go.Ground.phase }, { on := 34, ground := Go.Ground.phase }, { on := 35, ground := Go.Ground.phase }, { on := 36, ground := Go.Ground.phase }, { on := 37, ground := Go.Ground.phase }, { on := 38, ground := Go.Ground.phase }, { on := 39, ground := Go.Ground.phase }, { on := 40, ground := Go.Ground.phase }, { on := 41, ground := Go.Ground.phase }, { on := 42, ground := Go.Ground.phase }, { on := 43, ground := Go.Ground.phase }], guard := none }) (by kernel_rfl) rfl (fun K hK => ?_)
    go_simp
    refine hK.out _ _ (fun e => absurd (e.symm.trans (by kernel_rfl) : false = true) Bool.false_ne_true) ?_
    clear hK K
    (try simp only [Act.put, List.setIfInBounds_toArray, List.set_cons_zero, List.set_cons_succ])
    refine wpAnyN_of_H (S' := fun _ => True) _ _ _ _ (by kernel_rfl) ?_
    refine wpAnyH_done (by kernel_rfl) ?_ _
    go_wp2_with fail
    go_ret
    exact ⟨rfl, H12.out.drop⟩
end Go.Proofs.YtflkhnmggmfhfaaGreat

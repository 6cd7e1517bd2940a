/- mirror: a modseq is learnt. -/
import Derived.Test.YtlmlbcnjohjnlaaDoorP19a
namespace Go.Proofs.YtlmlbcnjohjnlaaDoor
open Go.RowKit

def learnModseq (d : PD) (v : PV) : Option PD := if v.k = 4 then (match v.kids with
  | [x] => if isNm x.1 x.2.1 0 = true then some ⟨d.r, max d.h x.2.1⟩ else none
  | _ => none) else none
theorem Tryd.sizeVl : (Tryd.prog.info? 64).map (·.size) = some 4 := by kernel_rfl
set_option maxRecDepth 20000 in
set_option maxHeartbeats 4000000 in
theorem modseq_kind (fr : List Nat) (B D : Nat) (i : Int) (d : PD) (k n : Int) (t : ByteArray) (kv : Value) (l : List (Int × Int × ByteArray)) (w : World) (hd : DrIn fr B D i d w) (hk : KidsA w kv l) (hD : D ∉ fr) (hlt : ∀ b, b ∈ fr → b < w.heap.size) (h4 : ¬ k = 4) : Calls Tryd.prog 63 #[.pointer (some ⟨D, 0, none⟩), .agg #[.int .i64 k, .int .i64 n, .string t, kv]] w (LrO fr B D i none w) := by
  have hall := And.intro hd (And.intro hD hlt)
  clear hall
  obtain ⟨a, c, rfl⟩ := hk.shape
  obtain ⟨Y, hY⟩ : ∃ Y, w.alloc (.cells #[.int .i64 k, .int .i64 n, .string t, .slice a l.length c] 64) = Y := ⟨_, rfl⟩
  have b0 : Below w.heap.size w Y := by rw [← hY]; exact (Below.refl _ _).alloc (Nat.le_refl _) _
  have r0 : Y.heap[w.heap.size]? = some (.cells #[.int .i64 k, .int .i64 n, .string t, .slice a l.length c] 64 (0, 0)) := by rw [← hY]; exact heap_new _ _
  have c0 : Y.cell? ⟨w.heap.size, 0, none⟩ = some (.int .i64 k) := cell_of r0 0
  have HB := Lib.hid (Stays.ofBelow (fp := [D]) b0)
  have HY := Lib.hid hY
  clear hY b0 r0 hd hk hD hlt
  go_enter Tryd.func63, Tryd.ntmps63
  go_upto_region 1 with fail
  rw [HY.out]
  clear HY
  go_wp2_with fail
  go_ret
  exact ⟨rfl, HB.out, fun d' e => by cases e⟩
set_option maxRecDepth 20000 in
set_option maxHeartbeats 4000000 in
theorem modseq_len (fr : List Nat) (B D : Nat) (i : Int) (d : PD) (k n : Int) (t : ByteArray) (kv : Value) (l : List (Int × Int × ByteArray)) (w : World) (hd : DrIn fr B D i d w) (hk : KidsA w kv l) (hD : D ∉ fr) (hlt : ∀ b, b ∈ fr → b < w.heap.size) (h4 : k = 4) (h1 : ¬ l.length = 1) : Calls Tryd.prog 63 #[.pointer (some ⟨D, 0, none⟩), .agg #[.int .i64 k, .int .i64 n, .string t, kv]] w (LrO fr B D i none w) := by
  have hall := And.intro hd (And.intro hD hlt)
  clear hall
  subst h4
  obtain ⟨a, c, rfl⟩ := hk.shape
  obtain ⟨Y, hY⟩ : ∃ Y, w.alloc (.cells #[.int .i64 4, .int .i64 n, .string t, .slice a l.length c] 64) = Y := ⟨_, rfl⟩
  have b0 : Below w.heap.size w Y := by rw [← hY]; exact (Below.refl _ _).alloc (Nat.le_refl _) _
  have r0 : Y.heap[w.heap.size]? = some (.cells #[.int .i64 4, .int .i64 n, .string t, .slice a l.length c] 64 (0, 0)) := by rw [← hY]; exact heap_new _ _
  have c0 : Y.cell? ⟨w.heap.size, 0, none⟩ = some (.int .i64 4) := cell_of r0 0
  have c3 : Y.cell? ⟨w.heap.size, 3, none⟩ = some (.slice a l.length c) := cell_of r0 3
  obtain ⟨ln, hln⟩ : ∃ ln, l.length = ln := ⟨_, rfl⟩
  rw [hln] at h1 c3 hY ⊢
  have e1 : ¬ (ln : Int) = 1 := by omega
  have HB := Lib.hid (Stays.ofBelow (fp := [D]) b0)
  have HY := Lib.hid hY
  clear hY b0 r0 hd hk hD hlt h1 hln
  go_enter Tryd.func63, Tryd.ntmps63
  go_upto_region 1 with fail
  rw [HY.out]
  clear HY
  go_wp2_with fail
  go_ret
  exact ⟨rfl, HB.out, fun d' e => by cases e⟩
set_option maxRecDepth 20000 in
set_option maxHeartbeats 4000000 in
theorem modseq_one (fr : List Nat) (B D : Nat) (i : Int) (d : PD) (k n : Int) (t : ByteArray) (kv : Value) (x : Int × Int × ByteArray) (w : World) (hd : DrIn fr B D i d w) (hk : KidsA w kv [x]) (hD : D ∉ fr) (hlt : ∀ b, b ∈ fr → b < w.heap.size) (h4 : k = 4) : Calls Tryd.prog 63 #[.pointer (some ⟨D, 0, none⟩), .agg #[.int .i64 k, .int .i64 n, .string t, kv]] w (LrO fr B D i (if isNm x.1 x.2.1 0 = true then some ⟨d.r, max d.h x.2.1⟩ else none) w) := by
  subst h4
  obtain ⟨a, c, rfl, _, hkk⟩ := hk
  obtain ⟨g, o, rfl, hg, hc⟩ := hkk (by simp)
  obtain ⟨_, ka, kn, kc, y0, y1, y2, y3⟩ := hc 0 x rfl
  obtain ⟨xk, xn, xt⟩ := x
  simp only [Nat.zero_mul, Nat.add_zero, List.length_singleton] at y0 y1 y2 y3 ⊢
  obtain ⟨Y, hY⟩ : ∃ Y, w.alloc (.cells #[.int .i64 4, .int .i64 n, .string t, .slice (some ⟨g, o, none⟩) 1 c] 64) = Y := ⟨_, rfl⟩
  have b0 : Below w.heap.size w Y := by rw [← hY]; exact (Below.refl _ _).alloc (Nat.le_refl _) _
  have r0 : Y.heap[w.heap.size]? = some (.cells #[.int .i64 4, .int .i64 n, .string t, .slice (some ⟨g, o, none⟩) 1 c] 64 (0, 0)) := by rw [← hY]; exact heap_new _ _
  have c0 : Y.cell? ⟨w.heap.size, 0, none⟩ = some (.int .i64 4) := cell_of r0 0
  have c3 : Y.cell? ⟨w.heap.size, 3, none⟩ = some (.slice (some ⟨g, o, none⟩) 1 c) := cell_of r0 3
  obtain ⟨fv, hdf, hfl⟩ := hd
  have hDl := lt_of_heap hdf
  have HRG : Hid (Y.rangeAt g o [.int .i64 xk, .int .i64 xn, .string xt, .slice ka kn kc]) := Lib.hid (by
    intro j u hj
    rw [b0.cell (p := ⟨g, o + j, none⟩) hg]
    match j, hj with
    | 0, hj => simp at hj; subst hj; exact y0
    | 1, hj => simp at hj; subst hj; exact y1
    | 2, hj => simp at hj; subst hj; exact y2
    | 3, hj => simp at hj; subst hj; exact y3)
  have HI : Hid (Calls Tryd.prog 59 #[.agg #[.int .i64 xk, .int .i64 xn, .string xt, .slice ka kn kc], .int .i64 0] Y fun e w' => e = .returned (.bool (isNm xk xn 0)) ∧ Below Y.heap.size Y w') := Lib.hid (isNumber_any xk xn 0 xt ka kn kc Y)
  have HX : Hid (∀ X, Below Y.heap.size Y X → X.cell? ⟨w.heap.size, 3, none⟩ = some (.slice (some ⟨g, o, none⟩) 1 c) ∧ X.cell? ⟨D, 4, none⟩ = some (.int .i64 d.h) ∧ X.cell? ⟨g, o + 1, none⟩ = some (.int .i64 xn)) := Lib.hid (fun X hX => by
    refine ⟨cell_of (bel_at hX (lt_of_heap r0) r0) 3, (df_cells (bel_at (b0.trans (hX.mono b0.size)) hDl hdf)).2.2.2.2, ?_⟩
    rw [(b0.trans (hX.mono b0.size)).cell (p := ⟨g, o + 1, none⟩) hg]
    exact y1)
  have HZ : Hid (∀ X, Below Y.heap.size Y X → X.frozen? ⟨D, 4, none⟩ = false) := Lib.hid (fun X hX => df_fz (bel_at (b0.trans (hX.mono b0.size)) hDl hdf) 4)
  have FIN : Hid (∀ X, Below Y.heap.size Y X → LrO fr B D i (some ⟨d.r, max d.h xn⟩) w (.returned (.bool true)) (X.setCell ⟨D, 4, none⟩ (.int .i64 (max d.h xn)))) := Lib.hid (fun X hX => by
    have hb := b0.trans (hX.mono b0.size)
    have hs : Stays [D] w (X.setCell ⟨D, 4, none⟩ (.int .i64 (max d.h xn))) := (Stays.ofBelow (fp := [D]) hb).setCell (.inl (by simp)) _
    refine ⟨rfl, hs, fun d' e => ?_⟩
    injection e with e
    subst e
    refine ⟨fv, ?_, strs_turn hs hdf hD hlt hfl⟩
    have k := bel_at hb hDl hdf
    unfold dfO at k ⊢
    rw [heap_setCell_at _ k]
    rfl)
  have HB := Lib.hid b0
  have HY := Lib.hid hY
  clear hY b0 r0 hD hlt hkk hc y0 y1 y2 y3 hg hdf hfl hDl
  cases hnm : isNm xk xn 0 with
  | false =>
    rw [hnm] at HI
    clear FIN HX HZ hnm
    go_enter Tryd.func63, Tryd.ntmps63
    go_upto_region 1 with fail
    rw [HY.out]
    clear HY
    go_wp2_with (first | (refine wpList_load_mid_g (by kernel_rfl) 64 _ rfl g o rfl [.int .i64 xk, .int .i64 xn, .string xt, .slice ka kn kc] _ HRG.out Tryd.underlying64 rfl Tryd.sizeVl ?_) | (go_at_call 59; refine HI.out.mono ?_; rintro e w3 ⟨rfl, hb3⟩; have HB3 := Lib.hid hb3; clear hb3))
    go_ret
    exact ⟨rfl, Stays.ofBelow (HB.out.trans (HB3.out.mono HB.out.size)), fun d' e => by cases e⟩
  | true =>
    rw [hnm] at HI
    clear hnm
    go_enter Tryd.func63, Tryd.ntmps63
    go_upto_region 1 with fail
    rw [HY.out]
    clear HY
    go_upto_region 3 with (first | (refine wpList_load_mid_g (by kernel_rfl) 64 _ rfl g o rfl [.int .i64 xk, .int .i64 xn, .string xt, .slice ka kn kc] _ HRG.out Tryd.underlying64 rfl Tryd.sizeVl ?_) | (go_at_call 59; refine HI.out.mono ?_; rintro e w3 ⟨rfl, hb3⟩; have HB3 := Lib.hid hb3; clear hb3))
    obtain ⟨x3, x4, x5⟩ := HX.out _ HB3.out
    have z4 := HZ.out _ HB3.out
    clear c0 c3
    refine wp_region_N 13 (fun X => Below Y.heap.size Y X) (by kernel_rfl) ?_
    refine wpAnyN_take (i := 0) (oi := { dst := some 22, op := Go.Op.move (Go.Operand.tmp 0), type := 107, pos := "fetched.go:81", after := #[], guard := none }) (oL := { dst := none, op := Go.Op.store 3 (Go.Operand.tmp 34) (Go.Operand.tmp 32), type := 0, pos := "fetched.go:81", after := #[{ on := 12, ground := Go.Ground.data }, { on := 10, ground := Go.Ground.data }, { on := 0, ground := Go.Ground.phase }, { on := 1, ground := Go.Ground.phase }, { on := 2, ground := Go.Ground.phase }, { on := 3, ground := Go.Ground.phase }, { on := 4, ground := Go.Ground.phase }, { on := 5, ground := Go.Ground.phase }, { on := 6, ground := Go.Ground.phase }, { on := 7, ground := Go.Ground.phase }, { on := 8, ground := Go.Ground.phase }, { on := 9, ground := Go.Ground.phase }, { on := 10, ground := Go.Ground.phase }], guard := none }) (v := .pointer (some ⟨D, 0, none⟩)) rfl rfl (by kernel_rfl) (by kernel_rfl) (by kernel_rfl) (by kernel_rfl) (fun _ _ _ h => h) (Or.inl ⟨by kernel_rfl, ?_⟩) HB3.out.drew ?_
    · (intro X hX; obtain ⟨x3, x4, x5⟩ := HX.out X hX <;> (go_simp; try (with_reducible rfl)))
    (try simp only [Act.put, List.setIfInBounds_toArray, List.set_cons_zero, List.set_cons_succ])
    refine wpAnyN_take (i := 1) (oi := { dst := some 23, op := Go.Op.move (Go.Operand.tmp 0), type := 107, pos := "fetched.go:81", after := #[], guard := none }) (oL := { dst := none, op := Go.Op.store 3 (Go.Operand.tmp 34) (Go.Operand.tmp 32), type := 0, pos := "fetched.go:81", after := #[{ on := 12, ground := Go.Ground.data }, { on := 10, ground := Go.Ground.data }, { on := 0, ground := Go.Ground.phase }, { on := 1, ground := Go.Ground.phase }, { on := 2, ground := Go.Ground.phase }, { on := 3, ground := Go.Ground.phase }, { on := 4, ground := Go.Ground.phase }, { on := 5, ground := Go.Ground.phase }, { on := 6, ground := Go.Ground.phase }, { on := 7, ground := Go.Ground.phase }, { on := 8, ground := Go.Ground.phase }, { on := 9, ground := Go.Ground.phase }, { on := 10, ground := Go.Ground.phase }], guard := none }) (v := .pointer (some ⟨D, 0, none⟩)) rfl rfl (by kernel_rfl) (by kernel_rfl) (by kernel_rfl) (by kernel_rfl) (fun _ _ _ h => h) (Or.inl ⟨by kernel_rfl, ?_⟩) HB3.out.drew ?_
    · (intro X hX; obtain ⟨x3, x4, x5⟩ := HX.out X hX <;> (go_simp; try (with_reducible rfl)))
    (try simp only [Act.put, List.setIfInBounds_toArray, List.set_cons_zero, List.set_cons_succ])
    refine wpAnyN_take (i := 2) (oi := { dst := some 24, op := Go.Op.nilCheck (Go.Operand.tmp 23), type := 0, pos := "fetched.go:81", after := #[{ on := 1, ground := Go.Ground.data }], guard := none }) (oL := { dst := none, op := Go.Op.store 3 (Go.Operand.tmp 34) (Go.Operand.tmp 32), type := 0, pos := "fetched.go:81", after := #[{ on := 12, ground := Go.Ground.data }, { on := 10, ground := Go.Ground.data }, { on := 0, ground := Go.Ground.phase }, { on := 1, ground := Go.Ground.phase }, { on := 2, ground := Go.Ground.phase }, { on := 3, ground := Go.Ground.phase }, { on := 4, ground := Go.Ground.phase }, { on := 5, ground := Go.Ground.phase }, { on := 6, ground := Go.Ground.phase }, { on := 7, ground := Go.Ground.phase }, { on := 8, ground := Go.Ground.phase }, { on := 9, ground := Go.Ground.phase }, { on := 10, ground := Go.Ground.phase }], guard := none }) (v := .pointer (some ⟨D, 0, none⟩)) rfl rfl (by kernel_rfl) (by kernel_rfl) (by kernel_rfl) (by kernel_rfl) (fun _ _ _ h => h) (Or.inl ⟨by kernel_rfl, ?_⟩) HB3.out.drew ?_
    · (intro X hX; obtain ⟨x3, x4, x5⟩ := HX.out X hX <;> (go_simp; try (with_reducible rfl)))
    (try simp only [Act.put, List.setIfInBounds_toArray, List.set_cons_zero, List.set_cons_succ])
    refine wpAnyN_take (i := 3) (oi := { dst := some 25, op := Go.Op.fieldAddr 105 (Go.Operand.tmp 24) 2, type := 0, pos := "fetched.go:81", after := #[{ on := 2, ground := Go.Ground.data }], guard := none }) (oL := { dst := none, op := Go.Op.store 3 (Go.Operand.tmp 34) (Go.Operand.tmp 32), type := 0, pos := "fetched.go:81", after := #[{ on := 12, ground := Go.Ground.data }, { on := 10, ground := Go.Ground.data }, { on := 0, ground := Go.Ground.phase }, { on := 1, ground := Go.Ground.phase }, { on := 2, ground := Go.Ground.phase }, { on := 3, ground := Go.Ground.phase }, { on := 4, ground := Go.Ground.phase }, { on := 5, ground := Go.Ground.phase }, { on := 6, ground := Go.Ground.phase }, { on := 7, ground := Go.Ground.phase }, { on := 8, ground := Go.Ground.phase }, { on := 9, ground := Go.Ground.phase }, { on := 10, ground := Go.Ground.phase }], guard := none }) (v := .pointer (some ⟨D, 4, none⟩)) rfl rfl (by kernel_rfl) (by kernel_rfl) (by kernel_rfl) (by kernel_rfl) (fun _ _ _ h => h) (Or.inl ⟨by kernel_rfl, ?_⟩) HB3.out.drew ?_
    · (intro X hX; obtain ⟨x3, x4, x5⟩ := HX.out X hX <;> (go_simp; try (with_reducible rfl)))
    (try simp only [Act.put, List.setIfInBounds_toArray, List.set_cons_zero, List.set_cons_succ])
    refine wpAnyN_take (i := 4) (oi := { dst := some 26, op := Go.Op.load 3 (Go.Operand.tmp 25), type := 3, pos := "fetched.go:81", after := #[{ on := 3, ground := Go.Ground.data }], guard := none }) (oL := { dst := none, op := Go.Op.store 3 (Go.Operand.tmp 34) (Go.Operand.tmp 32), type := 0, pos := "fetched.go:81", after := #[{ on := 12, ground := Go.Ground.data }, { on := 10, ground := Go.Ground.data }, { on := 0, ground := Go.Ground.phase }, { on := 1, ground := Go.Ground.phase }, { on := 2, ground := Go.Ground.phase }, { on := 3, ground := Go.Ground.phase }, { on := 4, ground := Go.Ground.phase }, { on := 5, ground := Go.Ground.phase }, { on := 6, ground := Go.Ground.phase }, { on := 7, ground := Go.Ground.phase }, { on := 8, ground := Go.Ground.phase }, { on := 9, ground := Go.Ground.phase }, { on := 10, ground := Go.Ground.phase }], guard := none }) (v := .int .i64 d.h) rfl rfl (by kernel_rfl) (by kernel_rfl) (by kernel_rfl) (by kernel_rfl) (fun _ _ _ h => h) (Or.inl ⟨by kernel_rfl, ?_⟩) HB3.out.drew ?_
    · (intro X hX; obtain ⟨x3, x4, x5⟩ := HX.out X hX <;> (go_simp; try (with_reducible rfl)))
    (try simp only [Act.put, List.setIfInBounds_toArray, List.set_cons_zero, List.set_cons_succ])
    refine wpAnyN_take (i := 5) (oi := { dst := some 27, op := Go.Op.fieldAddr 64 (Go.Operand.tmp 3) 3, type := 0, pos := "fetched.go:81", after := #[], guard := none }) (oL := { dst := none, op := Go.Op.store 3 (Go.Operand.tmp 34) (Go.Operand.tmp 32), type := 0, pos := "fetched.go:81", after := #[{ on := 12, ground := Go.Ground.data }, { on := 10, ground := Go.Ground.data }, { on := 0, ground := Go.Ground.phase }, { on := 1, ground := Go.Ground.phase }, { on := 2, ground := Go.Ground.phase }, { on := 3, ground := Go.Ground.phase }, { on := 4, ground := Go.Ground.phase }, { on := 5, ground := Go.Ground.phase }, { on := 6, ground := Go.Ground.phase }, { on := 7, ground := Go.Ground.phase }, { on := 8, ground := Go.Ground.phase }, { on := 9, ground := Go.Ground.phase }, { on := 10, ground := Go.Ground.phase }], guard := none }) (v := .pointer (some ⟨w.heap.size, 3, none⟩)) rfl rfl (by kernel_rfl) (by kernel_rfl) (by kernel_rfl) (by kernel_rfl) (fun _ _ _ h => h) (Or.inl ⟨by kernel_rfl, ?_⟩) HB3.out.drew ?_
    · (intro X hX; obtain ⟨x3, x4, x5⟩ := HX.out X hX <;> (go_simp; try (with_reducible rfl)))
    (try simp only [Act.put, List.setIfInBounds_toArray, List.set_cons_zero, List.set_cons_succ])
    refine wpAnyN_take (i := 6) (oi := { dst := some 28, op := Go.Op.load 39 (Go.Operand.tmp 27), type := 39, pos := "fetched.go:81", after := #[{ on := 5, ground := Go.Ground.data }], guard := none }) (oL := { dst := none, op := Go.Op.store 3 (Go.Operand.tmp 34) (Go.Operand.tmp 32), type := 0, pos := "fetched.go:81", after := #[{ on := 12, ground := Go.Ground.data }, { on := 10, ground := Go.Ground.data }, { on := 0, ground := Go.Ground.phase }, { on := 1, ground := Go.Ground.phase }, { on := 2, ground := Go.Ground.phase }, { on := 3, ground := Go.Ground.phase }, { on := 4, ground := Go.Ground.phase }, { on := 5, ground := Go.Ground.phase }, { on := 6, ground := Go.Ground.phase }, { on := 7, ground := Go.Ground.phase }, { on := 8, ground := Go.Ground.phase }, { on := 9, ground := Go.Ground.phase }, { on := 10, ground := Go.Ground.phase }], guard := none }) (v := .slice (some ⟨g, o, none⟩) 1 c) rfl rfl (by kernel_rfl) (by kernel_rfl) (by kernel_rfl) (by kernel_rfl) (fun _ _ _ h => h) (Or.inl ⟨by kernel_rfl, ?_⟩) HB3.out.drew ?_
    · (intro X hX; obtain ⟨x3, x4, x5⟩ := HX.out X hX <;> (go_simp; try (with_reducible rfl)))
    (try simp only [Act.put, List.setIfInBounds_toArray, List.set_cons_zero, List.set_cons_succ])
    refine wpAnyN_take (i := 7) (oi := { dst := some 29, op := Go.Op.indexAddr 39 (Go.Operand.tmp 28) (Go.Operand.const (Go.Value.int Go.IntKind.i64 0)), type := 0, pos := "fetched.go:81", after := #[{ on := 6, ground := Go.Ground.data }], guard := none }) (oL := { dst := none, op := Go.Op.store 3 (Go.Operand.tmp 34) (Go.Operand.tmp 32), type := 0, pos := "fetched.go:81", after := #[{ on := 12, ground := Go.Ground.data }, { on := 10, ground := Go.Ground.data }, { on := 0, ground := Go.Ground.phase }, { on := 1, ground := Go.Ground.phase }, { on := 2, ground := Go.Ground.phase }, { on := 3, ground := Go.Ground.phase }, { on := 4, ground := Go.Ground.phase }, { on := 5, ground := Go.Ground.phase }, { on := 6, ground := Go.Ground.phase }, { on := 7, ground := Go.Ground.phase }, { on := 8, ground := Go.Ground.phase }, { on := 9, ground := Go.Ground.phase }, { on := 10, ground := Go.Ground.phase }], guard := none }) (v := .pointer (some ⟨g, o, none⟩)) rfl rfl (by kernel_rfl) (by kernel_rfl) (by kernel_rfl) (by kernel_rfl) (fun _ _ _ h => h) (Or.inl ⟨by kernel_rfl, ?_⟩) HB3.out.drew ?_
    · (intro X hX; obtain ⟨x3, x4, x5⟩ := HX.out X hX <;> (go_simp; try (with_reducible rfl)))
    (try simp only [Act.put, List.setIfInBounds_toArray, List.set_cons_zero, List.set_cons_succ])
    refine wpAnyN_take (i := 8) (oi := { dst := some 30, op := Go.Op.fieldAddr 64 (Go.Operand.tmp 29) 1, type := 0, pos := "fetched.go:81", after := #[{ on := 7, ground := Go.Ground.data }], guard := none }) (oL := { dst := none, op := Go.Op.store 3 (Go.Operand.tmp 34) (Go.Operand.tmp 32), type := 0, pos := "fetched.go:81", after := #[{ on := 12, ground := Go.Ground.data }, { on := 10, ground := Go.Ground.data }, { on := 0, ground := Go.Ground.phase }, { on := 1, ground := Go.Ground.phase }, { on := 2, ground := Go.Ground.phase }, { on := 3, ground := Go.Ground.phase }, { on := 4, ground := Go.Ground.phase }, { on := 5, ground := Go.Ground.phase }, { on := 6, ground := Go.Ground.phase }, { on := 7, ground := Go.Ground.phase }, { on := 8, ground := Go.Ground.phase }, { on := 9, ground := Go.Ground.phase }, { on := 10, ground := Go.Ground.phase }], guard := none }) (v := .pointer (some ⟨g, o + 1, none⟩)) rfl rfl (by kernel_rfl) (by kernel_rfl) (by kernel_rfl) (by kernel_rfl) (fun _ _ _ h => h) (Or.inl ⟨by kernel_rfl, ?_⟩) HB3.out.drew ?_
    · (intro X hX; obtain ⟨x3, x4, x5⟩ := HX.out X hX <;> (go_simp; try (with_reducible rfl)))
    (try simp only [Act.put, List.setIfInBounds_toArray, List.set_cons_zero, List.set_cons_succ])
    refine wpAnyN_take (i := 9) (oi := { dst := some 31, op := Go.Op.load 3 (Go.Operand.tmp 30), type := 3, pos := "fetched.go:81", after := #[{ on := 8, ground := Go.Ground.data }], guard := none }) (oL := { dst := none, op := Go.Op.store 3 (Go.Operand.tmp 34) (Go.Operand.tmp 32), type := 0, pos := "fetched.go:81", after := #[{ on := 12, ground := Go.Ground.data }, { on := 10, ground := Go.Ground.data }, { on := 0, ground := Go.Ground.phase }, { on := 1, ground := Go.Ground.phase }, { on := 2, ground := Go.Ground.phase }, { on := 3, ground := Go.Ground.phase }, { on := 4, ground := Go.Ground.phase }, { on := 5, ground := Go.Ground.phase }, { on := 6, ground := Go.Ground.phase }, { on := 7, ground := Go.Ground.phase }, { on := 8, ground := Go.Ground.phase }, { on := 9, ground := Go.Ground.phase }, { on := 10, ground := Go.Ground.phase }], guard := none }) (v := .int .i64 xn) rfl rfl (by kernel_rfl) (by kernel_rfl) (by kernel_rfl) (by kernel_rfl) (fun _ _ _ h => h) (Or.inl ⟨by kernel_rfl, ?_⟩) HB3.out.drew ?_
    · (intro X hX; obtain ⟨x3, x4, x5⟩ := HX.out X hX <;> (go_simp; try (with_reducible rfl)))
    (try simp only [Act.put, List.setIfInBounds_toArray, List.set_cons_zero, List.set_cons_succ])
    refine wpAnyN_take (i := 10) (oi := { dst := some 32, op := Go.Op.call { callee := Go.Callee.builtin Go.Builtin.max, args := #[Go.Operand.tmp 26, Go.Operand.tmp 31], argTypes := #[3, 3] }, type := 3, pos := "fetched.go:81", after := #[{ on := 4, ground := Go.Ground.data }, { on := 9, ground := Go.Ground.data }], guard := none }) (oL := { dst := none, op := Go.Op.store 3 (Go.Operand.tmp 34) (Go.Operand.tmp 32), type := 0, pos := "fetched.go:81", after := #[{ on := 12, ground := Go.Ground.data }, { on := 10, ground := Go.Ground.data }, { on := 0, ground := Go.Ground.phase }, { on := 1, ground := Go.Ground.phase }, { on := 2, ground := Go.Ground.phase }, { on := 3, ground := Go.Ground.phase }, { on := 4, ground := Go.Ground.phase }, { on := 5, ground := Go.Ground.phase }, { on := 6, ground := Go.Ground.phase }, { on := 7, ground := Go.Ground.phase }, { on := 8, ground := Go.Ground.phase }, { on := 9, ground := Go.Ground.phase }, { on := 10, ground := Go.Ground.phase }], guard := none }) (v := .int .i64 (max d.h xn)) rfl rfl (by kernel_rfl) (by kernel_rfl) (by kernel_rfl) (by kernel_rfl) (fun _ _ _ h => h) (Or.inl ⟨by kernel_rfl, ?_⟩) HB3.out.drew ?_
    · (intro X hX; obtain ⟨x3, x4, x5⟩ := HX.out X hX <;> (go_simp; try (with_reducible rfl)))
    (try simp only [Act.put, List.setIfInBounds_toArray, List.set_cons_zero, List.set_cons_succ])
    refine wpAnyN_take (i := 11) (oi := { dst := some 33, op := Go.Op.nilCheck (Go.Operand.tmp 22), type := 0, pos := "fetched.go:81", after := #[{ on := 0, ground := Go.Ground.data }, { on := 0, ground := Go.Ground.phase }, { on := 1, ground := Go.Ground.phase }, { on := 2, ground := Go.Ground.phase }, { on := 3, ground := Go.Ground.phase }, { on := 4, ground := Go.Ground.phase }, { on := 5, ground := Go.Ground.phase }, { on := 6, ground := Go.Ground.phase }, { on := 7, ground := Go.Ground.phase }, { on := 8, ground := Go.Ground.phase }, { on := 9, ground := Go.Ground.phase }, { on := 10, ground := Go.Ground.phase }], guard := none }) (oL := { dst := none, op := Go.Op.store 3 (Go.Operand.tmp 34) (Go.Operand.tmp 32), type := 0, pos := "fetched.go:81", after := #[{ on := 12, ground := Go.Ground.data }, { on := 10, ground := Go.Ground.data }, { on := 0, ground := Go.Ground.phase }, { on := 1, ground := Go.Ground.phase }, { on := 2, ground := Go.Ground.phase }, { on := 3, ground := Go.Ground.phase }, { on := 4, ground := Go.Ground.phase }, { on := 5, ground := Go.Ground.phase }, { on := 6, ground := Go.Ground.phase }, { on := 7, ground := Go.Ground.phase }, { on := 8, ground := Go.Ground.phase }, { on := 9, ground := Go.Ground.phase }, { on := 10, ground := Go.Ground.phase }], guard := none }) (v := .pointer (some ⟨D, 0, none⟩)) rfl rfl (by kernel_rfl) (by kernel_rfl) (by kernel_rfl) (by kernel_rfl) (fun _ _ _ h => h) (Or.inl ⟨by kernel_rfl, ?_⟩) HB3.out.drew ?_
    · (intro X hX; obtain ⟨x3, x4, x5⟩ := HX.out X hX <;> (go_simp; try (with_reducible rfl)))
    (try simp only [Act.put, List.setIfInBounds_toArray, List.set_cons_zero, List.set_cons_succ])
    refine wpAnyN_take (i := 12) (oi := { dst := some 34, op := Go.Op.fieldAddr 105 (Go.Operand.tmp 33) 2, type := 0, pos := "fetched.go:81", after := #[{ on := 11, ground := Go.Ground.data }, { on := 0, ground := Go.Ground.phase }, { on := 1, ground := Go.Ground.phase }, { on := 2, ground := Go.Ground.phase }, { on := 3, ground := Go.Ground.phase }, { on := 4, ground := Go.Ground.phase }, { on := 5, ground := Go.Ground.phase }, { on := 6, ground := Go.Ground.phase }, { on := 7, ground := Go.Ground.phase }, { on := 8, ground := Go.Ground.phase }, { on := 9, ground := Go.Ground.phase }, { on := 10, ground := Go.Ground.phase }], guard := none }) (oL := { dst := none, op := Go.Op.store 3 (Go.Operand.tmp 34) (Go.Operand.tmp 32), type := 0, pos := "fetched.go:81", after := #[{ on := 12, ground := Go.Ground.data }, { on := 10, ground := Go.Ground.data }, { on := 0, ground := Go.Ground.phase }, { on := 1, ground := Go.Ground.phase }, { on := 2, ground := Go.Ground.phase }, { on := 3, ground := Go.Ground.phase }, { on := 4, ground := Go.Ground.phase }, { on := 5, ground := Go.Ground.phase }, { on := 6, ground := Go.Ground.phase }, { on := 7, ground := Go.Ground.phase }, { on := 8, ground := Go.Ground.phase }, { on := 9, ground := Go.Ground.phase }, { on := 10, ground := Go.Ground.phase }], guard := none }) (v := .pointer (some ⟨D, 4, none⟩)) rfl rfl (by kernel_rfl) (by kernel_rfl) (by kernel_rfl) (by kernel_rfl) (fun _ _ _ h => h) (Or.inl ⟨by kernel_rfl, ?_⟩) HB3.out.drew ?_
    · (intro X hX; obtain ⟨x3, x4, x5⟩ := HX.out X hX <;> (go_simp; try (with_reducible rfl)))
    (try simp only [Act.put, List.setIfInBounds_toArray, List.set_cons_zero, List.set_cons_succ])
    refine wpAnyN_one (i := 13) (o := { dst := none, op := Go.Op.store 3 (Go.Operand.tmp 34) (Go.Operand.tmp 32), type := 0, pos := "fetched.go:81", after := #[{ on := 12, ground := Go.Ground.data }, { on := 10, ground := Go.Ground.data }, { on := 0, ground := Go.Ground.phase }, { on := 1, ground := Go.Ground.phase }, { on := 2, ground := Go.Ground.phase }, { on := 3, ground := Go.Ground.phase }, { on := 4, ground := Go.Ground.phase }, { on := 5, ground := Go.Ground.phase }, { on := 6, ground := Go.Ground.phase }, { on := 7, ground := Go.Ground.phase }, { on := 8, ground := Go.Ground.phase }, { on := 9, ground := Go.Ground.phase }, { on := 10, ground := Go.Ground.phase }], guard := none }) (by kernel_rfl) rfl (fun K hK => ?_)
    go_simp
    refine hK.out _ _ (fun e => absurd (e.symm.trans (by kernel_rfl) : false = true) Bool.false_ne_true) ?_
    clear hK K
    (try simp only [Act.put, List.setIfInBounds_toArray, List.set_cons_zero, List.set_cons_succ])
    refine wpAnyN_of_H (S' := fun _ => True) _ _ _ _ (by kernel_rfl) ?_
    refine wpAnyH_done (by kernel_rfl) ?_ _
    go_wp2_with fail
    go_ret
    exact (FIN.out _ HB3.out).drew
theorem modseq_any (fr : List Nat) (B D : Nat) (i : Int) (d : PD) (k n : Int) (t : ByteArray) (kv : Value) (l : List (Int × Int × ByteArray)) (w : World) (hd : DrIn fr B D i d w) (hk : KidsA w kv l) (hD : D ∉ fr) (hlt : ∀ b, b ∈ fr → b < w.heap.size) : Calls Tryd.prog 63 #[.pointer (some ⟨D, 0, none⟩), .agg #[.int .i64 k, .int .i64 n, .string t, kv]] w (LrO fr B D i (learnModseq d ⟨k, n, l⟩) w) := by
  unfold learnModseq
  by_cases h4 : k = 4
  · rw [if_pos h4]
    match l, hk with
    | [], hk => exact modseq_len fr B D i d k n t kv [] w hd hk hD hlt h4 (by simp)
    | [x], hk => exact modseq_one fr B D i d k n t kv x w hd hk hD hlt h4
    | x :: y :: l, hk => exact modseq_len fr B D i d k n t kv (x :: y :: l) w hd hk hD hlt h4 (by simp)
  · rw [if_neg h4]
    exact modseq_kind fr B D i d k n t kv l w hd hk hD hlt h4
end Go.Proofs.YtlmlbcnjohjnlaaDoor

/- mirror: flags are learnt. -/
namespace Go.Proofs.YtlmlbcnjohjnlaaDoor
open Go.RowKit

def recS : ByteArray := ⟨#[92, 82, 101, 99, 101, 110, 116]⟩
def flK (l : List (Int × Int × ByteArray)) : List ByteArray := (l.filter (fun x => !same (L x.2.2) (L recS))).map (·.2.2)
def learnFlags (d : PD) (v : PV) : Option PD := if v.k = 4 then (if v.kids.all (fun x => x.1 == 2) = true then some ⟨⟨d.r.uid, true, flK v.kids⟩, d.h⟩ else none) else none
theorem flK_take (l : List (Int × Int × ByteArray)) (k : Nat) (x : Int × Int × ByteArray) (h : l[k]? = some x) : flK (l.take (k + 1)) = flK (l.take k) ++ (if same (L x.2.2) (L recS) = true then [] else [x.2.2]) := by
  rw [List.take_add_one, h]
  unfold flK
  rw [List.filter_append, List.map_append]
  congr 1
  cases hs : same (L x.2.2) (L recS) <;> simp [hs]
theorem flK_len (l : List (Int × Int × ByteArray)) : (flK l).length ≤ l.length := by
  unfold flK
  rw [List.length_map]
  exact List.length_filter_le _ _
theorem strsNew_row {B : Nat} {X : World} {v : Value} {l : List ByteArray} (h : RowAt X 9 1 v l.length (l.map .string)) (hB : ∀ b, v.ownBlock = some b → B ≤ b) : StrsNew B X v l := by
  by_cases h0 : l.length = 0
  · obtain ⟨a, c, e⟩ := h.shape
    exact ⟨[], ⟨a, c, e, fun hp => by omega⟩, fun b hb => by cases hb⟩
  · rcases h.2 with ⟨_, e⟩ | ⟨g, o, cap, cur, e, hg, hc, hs, htk⟩
    · omega
    · refine ⟨[g], ⟨some ⟨g, o, none⟩, cap, e, fun _ => ⟨g, o, cur, rfl, by simp, hg, fun i hi => ?_⟩⟩, fun b hb => ?_⟩
      · have h1 : (l.map Value.string)[i]? = some (.string (l.getD i ⟨#[]⟩)) := by
          rw [List.getElem?_map, List.getD_eq_getElem?_getD, List.getElem?_eq_getElem hi]
          rfl
        rw [← htk, List.getElem?_take, if_pos (by omega), List.getElem?_drop] at h1
        rw [← h1]
        simp
      · simp at hb
        subst hb
        exact ⟨hB b (by rw [e]; rfl), cur, (0, 0), hg⟩
/-- As far as k kids. -/
structure FL (w : World) (vb : Obj) (l : List (Int × Int × ByteArray)) (k : Nat) (fv : Value) (X : World) : Prop where
  bel : Below w.heap.size w X
  box : X.heap[w.heap.size]? = some vb
  row : RowAt X 9 1 fv (flK (l.take k)).length ((flK (l.take k)).map .string)
  own : ∀ b, fv.ownBlock = some b → w.heap.size ≤ b
  all : ∀ x ∈ l.take k, x.1 = 2
theorem FL.below {w : World} {vb : Obj} {l : List (Int × Int × ByteArray)} {k : Nat} {fv : Value} {X X' : World} (h : FL w vb l k fv X) (hb : Below X.heap.size X X') : FL w vb l k fv X' := ⟨h.bel.trans (hb.mono h.bel.size), bel_at hb (lt_of_heap h.box) h.box, h.row.same (fun b e => hb.block b (h.row.lt e)), h.own, h.all⟩
theorem FL.skip {w : World} {vb : Obj} {l : List (Int × Int × ByteArray)} {k : Nat} {fv : Value} {X : World} {x : Int × Int × ByteArray} (h : FL w vb l k fv X) (hx : l[k]? = some x) (h2 : x.1 = 2) (hs : same (L x.2.2) (L recS) = true) : FL w vb l (k + 1) fv X := by
  refine ⟨h.bel, h.box, ?_, h.own, fun y hy => ?_⟩
  · rw [flK_take l k x hx, if_pos hs, List.append_nil]
    exact h.row
  · rw [List.take_add_one, hx, List.mem_append] at hy
    rcases hy with hy | hy
    · exact h.all y hy
    · simp at hy
      rw [hy]; exact h2
theorem FL.add {w : World} {cs : Array Value} {tv : TypeId} {l : List (Int × Int × ByteArray)} {k : Nat} {fv : Value} {X2 : World} {xk xn : Int} {xt : ByteArray} (h : FL w (.cells cs tv (0, 0)) l k fv X2) (htv : tv ≠ 9) (hl : l.length ≤ 1000000) (hx : l[k]? = some (xk, xn, xt)) (h2 : xk = 2) (hs : same (L xt) (L recS) = false) :
    ∃ a m c W1, (Builtin.append_ #[27, 27] 27 #[fv, .slice (some ⟨X2.heap.size, 0, none⟩) 1 1]).run Tryd.prog (X2.alloc (.cells #[.string xt] 9)) = .ok (.slice a m c) W1 ∧ FL w (.cells cs tv (0, 0)) l (k + 1) (.slice a m c) W1 := by
  have hfl := flK_len (l.take k)
  rw [List.length_take] at hfl
  obtain ⟨a, c, W1, h3, h4, h5, h6⟩ := h.row.app (P := Tryd.prog) 27 _ 16 Tryd.underlying27 Tryd.infoS rfl #[.string xt] rfl (by intro u hu; simp at hu; subst hu; rfl) (by omega) (by omega)
  refine ⟨a, _, c, W1, h3, ⟨⟨h5.os.trans h.bel.os, h5.tape.trans h.bel.tape, h5.output.trans h.bel.output, Nat.le_trans h.bel.size h5.size, fun b hb => ?_⟩, ?_, ?_, fun b e => ?_, fun y hy => ?_⟩⟩
  · rw [h5.block b (Nat.lt_of_lt_of_le hb h.bel.size) (fun e => by have := h.own b e.symm; omega)]
    exact h.bel.block b hb
  · rw [h5.block _ (lt_of_heap h.box) (fun e => by
      obtain ⟨cc, hc⟩ := h.row.kind e.symm
      exact kind_ne h.box hc htv rfl)]
    exact h.box
  · rw [flK_take l k _ hx, if_neg (by simpa using hs), List.length_append, List.map_append]
    exact h4
  · rcases h6 b e with e' | e'
    · exact h.own b e'
    · exact Nat.le_trans h.bel.size e'
  · rw [List.take_add_one, hx, List.mem_append] at hy
    rcases hy with hy | hy
    · exact h.all y hy
    · simp at hy
      rw [hy]; exact h2
set_option maxRecDepth 20000 in
set_option maxHeartbeats 4000000 in
theorem flags_kind (fr : List Nat) (B D : Nat) (i : Int) (d : PD) (k n : Int) (t : ByteArray) (kv : Value) (l : List (Int × Int × ByteArray)) (w : World) (hd : DrIn fr B D i d w) (hk : KidsA w kv l) (hD : D ∉ fr) (hlt : ∀ b, b ∈ fr → b < w.heap.size) (hB : B ≤ w.heap.size) (h4 : ¬ k = 4) : Calls Tryd.prog 62 #[.pointer (some ⟨D, 0, none⟩), .agg #[.int .i64 k, .int .i64 n, .string t, kv]] w (LrO fr B D i none w) := by
  have hall := And.intro hd (And.intro hD (And.intro hlt hB))
  clear hall
  obtain ⟨a, c, rfl⟩ := hk.shape
  obtain ⟨Y, hY⟩ : ∃ Y, w.alloc (.cells #[.int .i64 k, .int .i64 n, .string t, .slice a l.length c] 64) = Y := ⟨_, rfl⟩
  have b0 : Below w.heap.size w Y := by rw [← hY]; exact (Below.refl _ _).alloc (Nat.le_refl _) _
  have r0 : Y.heap[w.heap.size]? = some (.cells #[.int .i64 k, .int .i64 n, .string t, .slice a l.length c] 64 (0, 0)) := by rw [← hY]; exact heap_new _ _
  have c0 : Y.cell? ⟨w.heap.size, 0, none⟩ = some (.int .i64 k) := cell_of r0 0
  have HB := Lib.hid (Stays.ofBelow (fp := [D]) b0)
  have HY := Lib.hid hY
  clear hY b0 r0 hd hk hD hlt hB
  go_enter Tryd.func62, Tryd.ntmps62
  go_upto_region 1 with fail
  rw [HY.out]
  clear HY
  go_wp2_with fail
  go_ret
  exact ⟨rfl, HB.out, fun d' e => by cases e⟩
set_option maxRecDepth 20000 in
set_option maxHeartbeats 4000000 in
theorem flags_list (fr : List Nat) (B D : Nat) (i : Int) (d : PD) (k n : Int) (t : ByteArray) (kv : Value) (l : List (Int × Int × ByteArray)) (w : World) (hd : DrIn fr B D i d w) (hk : KidsA w kv l) (hD : D ∉ fr) (hlt : ∀ b, b ∈ fr → b < w.heap.size) (hB : B ≤ w.heap.size) (h4 : k = 4) : Calls Tryd.prog 62 #[.pointer (some ⟨D, 0, none⟩), .agg #[.int .i64 k, .int .i64 n, .string t, kv]] w (LrO fr B D i (if l.all (fun x => x.1 == 2) = true then some ⟨⟨d.r.uid, true, flK l⟩, d.h⟩ else none) w) := by
  have hall := And.intro hD hlt
  clear hall
  subst h4
  obtain ⟨a, c, rfl, hln, hkk⟩ := hk
  obtain ⟨ln, hlen⟩ : ∃ ln, l.length = ln := ⟨_, rfl⟩
  rw [hlen] at hln hkk ⊢
  obtain ⟨Y, hY⟩ : ∃ Y, w.alloc (.cells #[.int .i64 4, .int .i64 n, .string t, .slice a ln c] 64) = Y := ⟨_, rfl⟩
  have b0 : Below w.heap.size w Y := by rw [← hY]; exact (Below.refl _ _).alloc (Nat.le_refl _) _
  have r0 : Y.heap[w.heap.size]? = some (.cells #[.int .i64 4, .int .i64 n, .string t, .slice a ln c] 64 (0, 0)) := by rw [← hY]; exact heap_new _ _
  have c0 : Y.cell? ⟨w.heap.size, 0, none⟩ = some (.int .i64 4) := cell_of r0 0
  have c3 : Y.cell? ⟨w.heap.size, 3, none⟩ = some (.slice a ln c) := cell_of r0 3
  obtain ⟨fv0, hdf, hfl⟩ := hd
  have hDl := lt_of_heap hdf
  have hst : FL w (.cells #[.int .i64 4, .int .i64 n, .string t, .slice a ln c] 64 (0, 0)) l 0 (.slice none 0 0) Y := ⟨b0, r0, ⟨by simp [flK], .inl ⟨rfl, by simp [flK]⟩⟩, fun b e => by (cases e), fun x hx => by simp at hx⟩
  have HKk : Hid (∀ j, j < ln → ∃ g o, a = some ⟨g, o, none⟩ ∧ ∃ xk xn xt ka kn kc, l[j]? = some (xk, xn, xt) ∧ xt.size ≤ maxLen ∧ ∀ X, Below w.heap.size w X → X.cell? ⟨g, o + j * 4, none⟩ = some (.int .i64 xk) ∧ X.cell? ⟨g, o + j * 4 + 1, none⟩ = some (.int .i64 xn) ∧ X.cell? ⟨g, o + j * 4 + 2, none⟩ = some (.string xt) ∧ X.cell? ⟨g, o + j * 4 + 3, none⟩ = some (.slice ka kn kc)) := Lib.hid (fun j hj => by
    obtain ⟨g, o, e, hg, hc⟩ := hkk (by omega)
    have hx : l[j]? = some (l[j]'(by omega)) := List.getElem?_eq_getElem _
    obtain ⟨hs, ka, kn, kc, y0, y1, y2, y3⟩ := hc j _ hx
    refine ⟨g, o, e, _, _, _, ka, kn, kc, hx, hs, fun X hX => ?_⟩
    rw [hX.cell (p := ⟨g, o + j * 4, none⟩) hg, hX.cell (p := ⟨g, o + j * 4 + 1, none⟩) hg, hX.cell (p := ⟨g, o + j * 4 + 2, none⟩) hg, hX.cell (p := ⟨g, o + j * 4 + 3, none⟩) hg]
    exact ⟨y0, y1, y2, y3⟩)
  have HDr : Hid (∀ X, Below w.heap.size w X → X.heap[D]? = some (dfO d.r.uid d.r.kn fv0 i d.h)) := Lib.hid (fun X hX => bel_at hX hDl hdf)
  have FIN : Hid (∀ X fv, FL w (.cells #[.int .i64 4, .int .i64 n, .string t, .slice a ln c] 64 (0, 0)) l ln fv X → LrO fr B D i (if l.all (fun x => x.1 == 2) = true then some ⟨⟨d.r.uid, true, flK l⟩, d.h⟩ else none) w (.returned (.bool true)) ((X.setCell ⟨D, 1, none⟩ (.bool true)).setCell ⟨D, 2, none⟩ fv)) := Lib.hid (fun X fv h => by
    have ha : l.all (fun x => x.1 == 2) = true := by
      rw [List.all_eq_true]
      intro x hx
      have := h.all x (by rw [List.take_of_length_le (by omega)]; exact hx)
      simp [this]
    rw [if_pos ha]
    have hs1 : Stays [D] X ((X.setCell ⟨D, 1, none⟩ (.bool true)).setCell ⟨D, 2, none⟩ fv) := ((Stays.refl [D] X).setCell (.inl (by simp)) _).setCell (.inl (by simp)) _
    have kD := bel_at h.bel hDl hdf
    have hr := h.row
    rw [List.take_of_length_le (by omega : l.length ≤ ln)] at hr
    refine ⟨rfl, (Stays.ofBelow (fp := [D]) h.bel).trans hs1 (fun _ e => .inl e), fun d' e => ?_⟩
    injection e with e
    subst e
    refine ⟨fv, ?_, .inr ((strsNew_row hr (fun b e => Nat.le_trans hB (h.own b e))).ks (keepS_stays hs1 kD))⟩
    unfold dfO at kD ⊢
    rw [heap_setCell_at _ (heap_setCell_at _ kD)]
    rfl)
  have BAD : Hid (∀ (X : World) (j : Nat) (xk xn : Int) (xt : ByteArray), Below w.heap.size w X → l[j]? = some (xk, xn, xt) → ¬ xk = 2 → LrO fr B D i (if l.all (fun x => x.1 == 2) = true then some ⟨⟨d.r.uid, true, flK l⟩, d.h⟩ else none) w (.returned (.bool false)) X) := Lib.hid (fun X j xk xn xt hX hx h2 => by
    have ha : ¬ l.all (fun x => x.1 == 2) = true := fun ha => h2 (by
      have := List.all_eq_true.1 ha _ (List.mem_of_getElem? hx)
      simpa using this)
    rw [if_neg ha]
    exact ⟨rfl, Stays.ofBelow hX, fun d' e => by cases e⟩)
  obtain ⟨res, hres⟩ : ∃ res : Option PD, (if l.all (fun x => x.1 == 2) = true then some ⟨⟨d.r.uid, true, flK l⟩, d.h⟩ else none) = res := ⟨_, rfl⟩
  rw [hres] at FIN BAD ⊢
  clear hres
  have HLn := Lib.hid (And.intro hln hlen)
  have HST := Lib.hid hst
  have HY := Lib.hid hY
  clear hY b0 r0 hD hlt hB hkk hdf hfl hDl hst hln hlen
  go_enter Tryd.func62, Tryd.ntmps62
  go_upto_region 1 with fail
  rw [HY.out]
  clear HY
  go_wp2_with fail
  clear c0 c3
  go_loopw [5, 14] (fun x i wr => ∃ (fv : Value) (j : Nat) (X : World), X = wr ∧ fv = x ∧ i = .int .i64 j ∧ j ≤ ln ∧ FL w (.cells #[.int .i64 4, .int .i64 n, .string t, .slice a ln c] 64 (0, 0)) l j fv X) (fun _ i _ => ln - (intOf i).toNat)
  case atStart => exact ⟨_, 0, _, rfl, rfl, rfl, Nat.zero_le _, HST.out⟩
  case round =>
    obtain ⟨fv, j, X, rfl, rfl, rfl, hj, hG⟩ := hrel
    have HG := Lib.hid hG
    obtain ⟨fa, fc, hfs⟩ := hG.row.shape
    generalize hfn : (flK (l.take j)).length = fn at hfs
    clear hG hfn
    subst hfs
    by_cases hlt : j < ln
    · have hlti : (j : Int) < (ln : Int) := by omega
      have hjb : (ln : Int) ≤ 1000000 := by have := HLn.out.1; omega
      obtain ⟨g, o, rfl, xk, xn, xt, ka, kn, kc, hx, hsz, hcell⟩ := HKk.out j hlt
      obtain ⟨d0, d1, d2, d3⟩ := hcell X HG.out.bel
      obtain ⟨X1, hX1⟩ : ∃ X1, X.alloc (.cells #[.int .i64 xk, .int .i64 xn, .string xt, .slice ka kn kc] 64) = X1 := ⟨_, rfl⟩
      have b1 : Below X.heap.size X X1 := by rw [← hX1]; exact (Below.refl _ _).alloc (Nat.le_refl _) _
      have r1 : X1.heap[X.heap.size]? = some (.cells #[.int .i64 xk, .int .i64 xn, .string xt, .slice ka kn kc] 64 (0, 0)) := by rw [← hX1]; exact heap_new _ _
      have e0 : X1.cell? ⟨X.heap.size, 0, none⟩ = some (.int .i64 xk) := cell_of r1 0
      have HX1 := Lib.hid hX1
      have HG1 := Lib.hid (HG.out.below b1)
      have HE : Hid (∀ Z, Below X1.heap.size X1 Z → Z.cell? ⟨X.heap.size, 2, none⟩ = some (.string xt)) := Lib.hid (fun Z hZ => cell_of (bel_at hZ (lt_of_heap r1) r1) 2)
      have e2 := HE.out X1 (Below.refl _ _)
      have HS : Hid (Calls Tryd.prog 71 #[.string xt, .string ⟨#[92, 82, 101, 99, 101, 110, 116]⟩] X1 fun e w' => e = .returned (.bool (same (L xt) (L recS))) ∧ Below X1.heap.size X1 w') := Lib.hid (Same_any xt recS X1 hsz)
      have HXx := Lib.hid hx
      clear hX1 b1 r1 hcell hx hsz
      by_cases h2 : xk = 2
      · subst h2
        cases hsm : same (L xt) (L recS) with
        | true =>
          rw [hsm] at HS
          have HSm := Lib.hid hsm
          clear hsm
          go_upto_region 7 with fail
          rw [HX1.out]
          clear HX1 d0 d1 d2 d3
          go_wp2_with (go_at_call 71; refine HS.out.mono ?_; rintro e w3 ⟨rfl, hb3⟩; have HB3 := Lib.hid hb3; clear hb3)
          go_roundw
          case rel => exact ⟨_, j + 1, _, rfl, rfl, by go_num, by omega, (HG1.out.below HB3.out).skip HXx.out rfl HSm.out⟩
          case measure => simp [intOf]; omega
        | false =>
          rw [hsm] at HS
          have HAdd : Hid (∀ Z, Below X1.heap.size X1 Z → ∃ a' m' c' W1, (Builtin.append_ #[27, 27] 27 #[.slice fa fn fc, .slice (some ⟨Z.heap.size, 0, none⟩) 1 1]).run Tryd.prog (Z.alloc (.cells #[.string xt] 9)) = .ok (.slice a' m' c') W1 ∧ FL w (.cells #[.int .i64 4, .int .i64 n, .string t, .slice (some ⟨g, o, none⟩) ln c] 64 (0, 0)) l (j + 1) (.slice a' m' c') W1) := Lib.hid (fun Z hZ => (HG1.out.below hZ).add (by decide) (by rw [HLn.out.2]; exact HLn.out.1) HXx.out rfl hsm)
          clear hsm
          go_upto_region 7 with fail
          rw [HX1.out]
          clear HX1 d0 d1 d2 d3
          go_upto_region 10 with (go_at_call 71; refine HS.out.mono ?_; rintro e w3 ⟨rfl, hb3⟩; have HB3 := Lib.hid hb3; clear hb3)
          have f2 := HE.out _ HB3.out
          obtain ⟨a', m', c', W1, hrun, hG2⟩ := HAdd.out _ HB3.out
          have HRun := Lib.hid hrun
          have HG2 := Lib.hid hG2
          clear hrun hG2 e0 e2
          go_wp2_with (first | (refine append_by_run rfl _ _ _ rfl _ rfl _ _ rfl rfl _ _ HRun.out ?_))
          go_roundw
          case rel => exact ⟨_, j + 1, _, rfl, rfl, by go_num, by omega, HG2.out⟩
          case measure => simp [intOf]; omega
      · have HBd := Lib.hid (BAD.out X1 j xk xn xt HG1.out.bel HXx.out h2)
        have hxk : Hid True := Lib.hid trivial
        clear hxk
        go_upto_region 7 with fail
        rw [HX1.out]
        clear HX1 d0 d1 d2 d3
        go_wp2_with fail
        go_ret
        exact HBd.out
    · obtain rfl : j = ln := by omega
      have hlti : ¬ (j : Int) < (j : Int) := by omega
      have kd := HDr.out _ HG.out.bel
      obtain ⟨k0, k1, k2, _, _⟩ := df_cells kd
      have z1 := df_fz kd 1
      have z2 := df_fz kd 2
      have HF := Lib.hid (FIN.out _ _ HG.out)
      clear kd FIN BAD
      go_wp2_with fail
      go_ret
      first | exact HF.out | exact HF.out.drew
theorem flags_any (fr : List Nat) (B D : Nat) (i : Int) (d : PD) (k n : Int) (t : ByteArray) (kv : Value) (l : List (Int × Int × ByteArray)) (w : World) (hd : DrIn fr B D i d w) (hk : KidsA w kv l) (hD : D ∉ fr) (hlt : ∀ b, b ∈ fr → b < w.heap.size) (hB : B ≤ w.heap.size) : Calls Tryd.prog 62 #[.pointer (some ⟨D, 0, none⟩), .agg #[.int .i64 k, .int .i64 n, .string t, kv]] w (LrO fr B D i (learnFlags d ⟨k, n, l⟩) w) := by
  unfold learnFlags
  by_cases h4 : k = 4
  · rw [if_pos h4]
    exact flags_list fr B D i d k n t kv l w hd hk hD hlt hB h4
  · rw [if_neg h4]
    exact flags_kind fr B D i d k n t kv l w hd hk hD hlt hB h4
end Go.Proofs.YtlmlbcnjohjnlaaDoor

/- mirror: whether a row may have a uid. -/
namespace Go.Proofs.YtlmlbcnjohjnlaaDoor
open Go.RowKit

theorem isFn_fits1 : IsFn 77 := fun _ _ => by kernel_rfl
theorem nearA_cons (p : PR) (l : List PR) : nearA (p :: l) = if p.uid = 0 then nearA l else p.uid := by
  unfold nearA
  rw [List.map_cons, List.find?_cons]
  by_cases h : p.uid = 0
  · simp [h]
  · have : (p.uid != 0) = true := by simpa using h
    simp [this, h]
theorem near_drop (rows : List PR) (k : Nat) (p : PR) (h : rows[k]? = some p) : nearA (rows.drop k) = if p.uid = 0 then nearA (rows.drop (k + 1)) else p.uid := by
  obtain ⟨hk, hp⟩ := List.getElem?_eq_some_iff.1 h
  rw [List.drop_eq_getElem_cons hk, nearA_cons, hp]
theorem near_take (rows : List PR) (k : Nat) (p : PR) (h : rows[k]? = some p) : nearA (rows.take (k + 1)).reverse = if p.uid = 0 then nearA (rows.take k).reverse else p.uid := by
  rw [List.take_add_one, h]
  simp only [Option.toList_some, List.reverse_append, List.reverse_cons, List.reverse_nil, List.nil_append, List.cons_append]
  rw [nearA_cons]
/-- The cells that nearest reads. -/
def NrC (P : Nat) (ba bp : Nat) (i : Nat) (ra : Option Addr) (rc : Nat) (rows : List PR) (w : World) : Prop := w.cell? ⟨ba, 0, none⟩ = some (.int .i64 (i : Int)) ∧ w.cell? ⟨bp, 0, none⟩ = some (.pointer (some ⟨P, 1, none⟩)) ∧ w.cell? ⟨P, 5, none⟩ = some (.slice ra rows.length rc) ∧ ∀ k p, rows[k]? = some p → ∃ g o, ra = some ⟨g, o, none⟩ ∧ w.cell? ⟨g, o + k * 3, none⟩ = some (.int .i64 p.uid)
set_option maxRecDepth 20000 in
set_option maxHeartbeats 4000000 in
theorem near_up (P ba bp i : Nat) (ra : Option Addr) (rc : Nat) (rows : List PR) (w : World) (h : NrC P ba bp i ra rc rows w) (hi : i < rows.length) (hn : rows.length ≤ 1000000) :
    Calls Tryd.prog 77 #[.int .i64 1, .pointer (some ⟨ba, 0, none⟩), .pointer (some ⟨bp, 0, none⟩)] w fun e w' => e = .returned (.int .i64 (nearA (rows.drop (i + 1)))) ∧ w' = w := by
  obtain ⟨c0, c1, c2, hr⟩ := h
  obtain ⟨n, hln⟩ : ∃ n, rows.length = n := ⟨_, rfl⟩
  rw [hln] at hi hn c2
  have HR := Lib.hid hr
  have HL := Lib.hid (And.intro hln (And.intro hi hn))
  have hib : (i : Int) + 1 ≤ 1000000 := by omega
  clear hr hln hi hn
  go_enter Tryd.func77, Tryd.ntmps77
  go_wp2_with fail
  go_loopw [5] (fun x wr => ∃ k : Nat, x = .int .i64 (k : Int) ∧ wr = w ∧ i + 1 ≤ k ∧ k ≤ n ∧ Hid (nearA (rows.drop (i + 1)) = nearA (rows.drop k))) (fun x _ => n - (intOf x).toNat)
  case atStart => exact ⟨i + 1, by go_num, rfl, Nat.le_refl _, by have := HL.out.2.1; omega, Lib.hid rfl⟩
  case round =>
    obtain ⟨k, rfl, rfl, hk1, hk2, HE⟩ := hrel
    have hk0 : (0 : Int) ≤ (k : Int) := by omega
    by_cases hlt : k < n
    · have hlti : (k : Int) < (n : Int) := by omega
      have hkb : (n : Int) ≤ 1000000 := by have := HL.out.2.2; omega
      obtain ⟨p, hp⟩ : ∃ p, rows[k]? = some p := ⟨rows[k]'(by have := HL.out.1; omega), List.getElem?_eq_getElem _⟩
      obtain ⟨g, o, rfl, d0⟩ := HR.out k p hp
      have hnd := near_drop rows k p hp
      obtain ⟨u, hu⟩ : ∃ u, p.uid = u := ⟨_, rfl⟩
      rw [hu] at d0 hnd
      have HND := Lib.hid hnd
      clear hnd hp hu
      by_cases hz : u = 0
      · subst hz
        go_wp2_with fail
        go_roundw
        case rel => exact ⟨k + 1, by go_num, trivial, by omega, by omega, Lib.hid (by rw [HE.out, HND.out, if_pos rfl])⟩
        case measure => simp [intOf]; omega
      · have HV : Hid (nearA (rows.drop (i + 1)) = u) := Lib.hid (by rw [HE.out, HND.out, if_neg hz])
        have hz2 : (u != 0) = true := by simpa using hz
        clear hz
        go_wp2_with fail
        go_ret
        exact ⟨ret_int HV.out.symm, rfl⟩
    · obtain rfl : k = n := by omega
      have hlti : ¬ (k : Int) < (k : Int) := by omega
      have HV : Hid (nearA (rows.drop (i + 1)) = 0) := Lib.hid (by rw [HE.out, List.drop_eq_nil_of_le (by have := HL.out.1; omega)]; rfl)
      go_wp2_with fail
      go_ret
      exact ⟨ret_int HV.out.symm, rfl⟩
set_option maxRecDepth 20000 in
set_option maxHeartbeats 4000000 in
theorem near_down (P ba bp i : Nat) (ra : Option Addr) (rc : Nat) (rows : List PR) (w : World) (h : NrC P ba bp i ra rc rows w) (hi : i < rows.length) (hn : rows.length ≤ 1000000) :
    Calls Tryd.prog 77 #[.int .i64 (-1), .pointer (some ⟨ba, 0, none⟩), .pointer (some ⟨bp, 0, none⟩)] w fun e w' => e = .returned (.int .i64 (nearA (rows.take i).reverse)) ∧ w' = w := by
  obtain ⟨c0, c1, c2, hr⟩ := h
  obtain ⟨n, hln⟩ : ∃ n, rows.length = n := ⟨_, rfl⟩
  rw [hln] at hi hn c2
  have HR := Lib.hid hr
  have HL := Lib.hid (And.intro hln (And.intro hi hn))
  have hib : (i : Int) + 1 ≤ 1000000 := by omega
  clear hr hln hi hn
  go_enter Tryd.func77, Tryd.ntmps77
  go_wp2_with fail
  go_loopw [5] (fun x wr => ∃ k : Nat, x = .int .i64 ((k : Int) - 1) ∧ wr = w ∧ k ≤ i ∧ Hid (nearA (rows.take i).reverse = nearA (rows.take k).reverse)) (fun x _ => (intOf x + 1).toNat)
  case atStart => exact ⟨i, by go_num, rfl, Nat.le_refl _, Lib.hid rfl⟩
  case round =>
    obtain ⟨k, rfl, rfl, hk1, HE⟩ := hrel
    by_cases hlt : 0 < k
    · obtain ⟨q, rfl⟩ : ∃ q, k = q + 1 := ⟨k - 1, by omega⟩
      rw [show ((q + 1 : Nat) : Int) - 1 = (q : Int) from by omega]
      have hk0 : (0 : Int) ≤ (q : Int) := by omega
      have hlti : (q : Int) < (n : Int) := by have := HL.out.2.1; omega
      have hkb : (n : Int) ≤ 1000000 := by have := HL.out.2.2; omega
      have hqn : q < n := by omega
      obtain ⟨p, hp⟩ : ∃ p, rows[q]? = some p := ⟨rows[q]'(by have := HL.out.1; omega), List.getElem?_eq_getElem _⟩
      obtain ⟨g, o, rfl, d0⟩ := HR.out q p hp
      have hnd := near_take rows q p hp
      obtain ⟨u, hu⟩ : ∃ u, p.uid = u := ⟨_, rfl⟩
      rw [hu] at d0 hnd
      have HND := Lib.hid hnd
      clear hnd hp hu
      by_cases hz : u = 0
      · subst hz
        go_wp2_with fail
        go_roundw
        case rel => exact ⟨q, by go_num, trivial, by omega, Lib.hid (by rw [HE.out, HND.out, if_pos rfl])⟩
        case measure => simp [intOf]; omega
      · have HV : Hid (nearA (rows.take i).reverse = u) := Lib.hid (by rw [HE.out, HND.out, if_neg hz])
        have hz2 : (u != 0) = true := by simpa using hz
        clear hz
        go_wp2_with fail
        go_ret
        exact ⟨ret_int HV.out.symm, rfl⟩
    · obtain rfl : k = 0 := by omega
      have HV : Hid (nearA (rows.take i).reverse = 0) := Lib.hid (by rw [HE.out, List.take_zero]; rfl)
      have hneg : ((0 : Nat) : Int) - 1 = -1 := by omega
      rw [hneg]
      clear hneg
      go_wp2_with fail
      go_ret
      exact ⟨ret_int HV.out.symm, rfl⟩
set_option maxRecDepth 20000 in
set_option maxHeartbeats 4000000 in
theorem fits_M {P : Nat} {fr : List Nat} {M : PM} {X : World} (h : MAt P fr M X) (i : Nat) (u : Int) (hi : i < M.rows.length) (hn : M.rows.length ≤ 1000000) :
    Calls Tryd.prog 70 #[.pointer (some ⟨P, 1, none⟩), .int .i64 (i : Int), .int .i64 u] X fun e w' => e = .returned (.bool (fitsM M.rows i u)) ∧ Below X.heap.size X w' := by
  obtain ⟨q, rowsV, was, hM, hQ, ⟨rs, hr1, hr2, hr3⟩, hW⟩ := h.ex
  obtain ⟨ra, rc, rfl⟩ := hr1.shape
  have q2 := two_below X (ppO P) (.cells #[.int .i64 (i : Int)] 3)
  obtain ⟨Y, hY⟩ : ∃ Y, (X.alloc (ppO P)).alloc (.cells #[.int .i64 (i : Int)] 3) = Y := ⟨_, rfl⟩
  rw [hY] at q2
  have r0 : Y.heap[X.heap.size]? = some (ppO P) := by rw [← hY, Below.heap_alloc _ _ _ (by simp)]; exact heap_new _ _
  have r1 : Y.heap[X.heap.size + 1]? = some (.cells #[.int .i64 (i : Int)] 3 (0, 0)) := by rw [← hY]; have := heap_new (X.alloc (ppO P)) (.cells #[.int .i64 (i : Int)] 3); rw [show (X.alloc (ppO P)).heap.size = X.heap.size + 1 from by simp] at this; exact this
  have hNr : NrC P (X.heap.size + 1) X.heap.size i ra rc M.rows Y := by
    refine ⟨cell_of r1 0, ?_, (mir_cells (bel_at q2 (lt_of_heap hM) hM)).c5, fun k p hp => ?_⟩
    · unfold ppO at r0
      exact cell_of r0 0
    · obtain ⟨r, hr, hrp⟩ := hr3.gets k p hp
      have hkl := (List.getElem?_eq_some_iff.1 hp).1
      obtain ⟨g, o, cap, e, hc, hg, hcell⟩ := hr1.cell (by omega)
      injection e with e1 e2 e3
      refine ⟨g, o, e1, ?_⟩
      rw [q2.cell (p := ⟨g, o + k * 3, none⟩) hg, hcell _ (by omega), (rwL_get rs k r hr).1, hrp.uid]
  have H1 := Lib.hid (near_up P _ _ i ra rc M.rows Y hNr hi hn)
  have H2 := Lib.hid (near_down P _ _ i ra rc M.rows Y hNr hi hn)
  have hcf1 := isFn_fits1 #[.int .i64 1, .pointer (some ⟨X.heap.size + 1, 0, none⟩), .pointer (some ⟨X.heap.size, 0, none⟩)]
  have hcf2 := isFn_fits1 #[.int .i64 (-1), .pointer (some ⟨X.heap.size + 1, 0, none⟩), .pointer (some ⟨X.heap.size, 0, none⟩)]
  unfold fitsM
  generalize nearA (M.rows.drop (i + 1)) = A1 at *
  generalize nearA (M.rows.take i).reverse = A2 at *
  have Q2 := Lib.hid q2
  have HY := Lib.hid hY
  clear hY q2 r0 r1 hNr hM hQ hr1 hr2 hr3 hW h hi hn
  unfold ppO at HY
  by_cases h1 : A2 < u
  · have e1 : decide (A2 < u) = true := by simpa using h1
    rw [e1, Bool.true_and]
    by_cases h2 : A1 = 0
    · subst h2
      go_enter Tryd.func70, Tryd.ntmps70
      go_upto_region 1 with fail
      rw [HY.out]
      clear HY
      go_wp2_with fail
      refine H1.out.mono ?_
      rintro e w3 ⟨rfl, rfl⟩
      go_wp2_with fail
      refine H2.out.mono ?_
      rintro e w4 ⟨rfl, rfl⟩
      go_wp2_with fail
      go_ret
      exact ⟨rfl, Q2.out⟩
    · have e2 : (A1 == 0) = false := by simpa using h2
      by_cases h3 : u < A1
      · have e3 : decide (u < A1) = true := by simpa using h3
        rw [e2, e3]
        go_enter Tryd.func70, Tryd.ntmps70
        go_upto_region 1 with fail
        rw [HY.out]
        clear HY
        go_wp2_with fail
        refine H1.out.mono ?_
        rintro e w3 ⟨rfl, rfl⟩
        go_wp2_with fail
        refine H2.out.mono ?_
        rintro e w4 ⟨rfl, rfl⟩
        go_wp2_with fail
        go_ret
        exact ⟨rfl, Q2.out⟩
      · have e3 : decide (u < A1) = false := by simpa using h3
        rw [e2, e3]
        go_enter Tryd.func70, Tryd.ntmps70
        go_upto_region 1 with fail
        rw [HY.out]
        clear HY
        go_wp2_with fail
        refine H1.out.mono ?_
        rintro e w3 ⟨rfl, rfl⟩
        go_wp2_with fail
        refine H2.out.mono ?_
        rintro e w4 ⟨rfl, rfl⟩
        go_wp2_with fail
        go_ret
        exact ⟨rfl, Q2.out⟩
  · have e1 : decide (A2 < u) = false := by simpa using h1
    rw [e1, Bool.false_and]
    go_enter Tryd.func70, Tryd.ntmps70
    go_upto_region 1 with fail
    rw [HY.out]
    clear HY
    go_wp2_with fail
    refine H1.out.mono ?_
    rintro e w3 ⟨rfl, rfl⟩
    go_wp2_with fail
    refine H2.out.mono ?_
    rintro e w4 ⟨rfl, rfl⟩
    go_wp2_with fail
    go_ret
    exact ⟨rfl, Q2.out⟩
end Go.Proofs.YtlmlbcnjohjnlaaDoor

/- mirror: a uid is learnt. -/
namespace Go.Proofs.YtlmlbcnjohjnlaaDoor
open Go.RowKit

set_option maxRecDepth 20000 in
set_option maxHeartbeats 4000000 in
theorem uid_bad (P : Nat) (fr : List Nat) (M : PM) (B D : Nat) (i : Nat) (d : PD) (k n : Int) (t : ByteArray) (ka : Option Addr) (kn kc : Nat) (w : World) (h : MAt P fr M w) (hd : DrIn fr B D i d w) (hD : D ∉ fr) (hi : i < M.rows.length) (hrn : M.rows.length ≤ 1000000) (hnm : isNm k n 1 = false) : Calls Tryd.prog 61 #[.pointer (some ⟨P, 1, none⟩), .pointer (some ⟨D, 0, none⟩), .agg #[.int .i64 k, .int .i64 n, .string t, .slice ka kn kc]] w (LrO fr B D i none w) := by
  have hall := And.intro h (And.intro hi (And.intro hrn hD))
  clear hall
  obtain ⟨Y, hY⟩ : ∃ Y, w.alloc (.cells #[.int .i64 k, .int .i64 n, .string t, .slice ka kn kc] 64) = Y := ⟨_, rfl⟩
  have b0 : Below w.heap.size w Y := by rw [← hY]; exact (Below.refl _ _).alloc (Nat.le_refl _) _
  have r0 : Y.heap[w.heap.size]? = some (.cells #[.int .i64 k, .int .i64 n, .string t, .slice ka kn kc] 64 (0, 0)) := by rw [← hY]; exact heap_new _ _
  obtain ⟨fv, hdf, hfl⟩ := hd
  have hDl := lt_of_heap hdf
  have HRG : Hid (Y.rangeAt w.heap.size 0 [.int .i64 k, .int .i64 n, .string t, .slice ka kn kc]) := Lib.hid (box_range (z := 4) (cs := [.int .i64 k, .int .i64 n, .string t, .slice ka kn kc]) r0 0)
  have HI : Hid (Calls Tryd.prog 59 #[.agg #[.int .i64 k, .int .i64 n, .string t, .slice ka kn kc], .int .i64 1] Y fun e w' => e = .returned (.bool (isNm k n 1)) ∧ Below Y.heap.size Y w') := Lib.hid (isNumber_any k n 1 t ka kn kc Y)
  have HX : Hid (∀ X, Below Y.heap.size Y X → X.cell? ⟨w.heap.size, 1, none⟩ = some (.int .i64 n) ∧ X.heap[D]? = some (dfO d.r.uid d.r.kn fv i d.h) ∧ Below w.heap.size w X) := Lib.hid (fun X hX => ⟨cell_of (bel_at hX (lt_of_heap r0) r0) 1, bel_at (b0.trans (hX.mono b0.size)) hDl hdf, b0.trans (hX.mono b0.size)⟩)
  rw [hnm] at HI
  clear h hD hi hrn hnm
  have HY := Lib.hid hY
  clear hY b0 r0 hfl hdf hDl
  go_enter Tryd.func61, Tryd.ntmps61
  go_upto_region 1 with fail
  rw [HY.out]
  clear HY
  go_wp2_with (first | (refine wpList_load_mid rfl 64 _ rfl w.heap.size 0 rfl [.int .i64 k, .int .i64 n, .string t, .slice ka kn kc] _ HRG.out Tryd.underlying64 rfl Tryd.sizeVl ?_) | (go_at_call 59; refine HI.out.mono ?_; rintro e w3 ⟨rfl, hb3⟩; have HB3 := Lib.hid hb3; clear hb3))
  go_ret
  exact ⟨rfl, Stays.ofBelow (HX.out _ HB3.out).2.2, fun d' e => by cases e⟩
set_option maxRecDepth 20000 in
set_option maxHeartbeats 4000000 in
theorem uid_told (P : Nat) (fr : List Nat) (M : PM) (B D : Nat) (i : Nat) (d : PD) (k n : Int) (t : ByteArray) (ka : Option Addr) (kn kc : Nat) (w : World) (h : MAt P fr M w) (hd : DrIn fr B D i d w) (hD : D ∉ fr) (hi : i < M.rows.length) (hrn : M.rows.length ≤ 1000000) (hnm : isNm k n 1 = true) (hu : ¬ d.r.uid = 0) : Calls Tryd.prog 61 #[.pointer (some ⟨P, 1, none⟩), .pointer (some ⟨D, 0, none⟩), .agg #[.int .i64 k, .int .i64 n, .string t, .slice ka kn kc]] w (LrO fr B D i (if d.r.uid == n then some d else none) w) := by
  have hall := And.intro h (And.intro hi hrn)
  clear hall
  obtain ⟨Y, hY⟩ : ∃ Y, w.alloc (.cells #[.int .i64 k, .int .i64 n, .string t, .slice ka kn kc] 64) = Y := ⟨_, rfl⟩
  have b0 : Below w.heap.size w Y := by rw [← hY]; exact (Below.refl _ _).alloc (Nat.le_refl _) _
  have r0 : Y.heap[w.heap.size]? = some (.cells #[.int .i64 k, .int .i64 n, .string t, .slice ka kn kc] 64 (0, 0)) := by rw [← hY]; exact heap_new _ _
  obtain ⟨fv, hdf, hfl⟩ := hd
  have hDl := lt_of_heap hdf
  have HRG : Hid (Y.rangeAt w.heap.size 0 [.int .i64 k, .int .i64 n, .string t, .slice ka kn kc]) := Lib.hid (box_range (z := 4) (cs := [.int .i64 k, .int .i64 n, .string t, .slice ka kn kc]) r0 0)
  have HI : Hid (Calls Tryd.prog 59 #[.agg #[.int .i64 k, .int .i64 n, .string t, .slice ka kn kc], .int .i64 1] Y fun e w' => e = .returned (.bool (isNm k n 1)) ∧ Below Y.heap.size Y w') := Lib.hid (isNumber_any k n 1 t ka kn kc Y)
  have HX : Hid (∀ X, Below Y.heap.size Y X → X.cell? ⟨w.heap.size, 1, none⟩ = some (.int .i64 n) ∧ X.heap[D]? = some (dfO d.r.uid d.r.kn fv i d.h) ∧ Below w.heap.size w X) := Lib.hid (fun X hX => ⟨cell_of (bel_at hX (lt_of_heap r0) r0) 1, bel_at (b0.trans (hX.mono b0.size)) hDl hdf, b0.trans (hX.mono b0.size)⟩)
  rw [hnm] at HI
  have hfrl := h.lt
  obtain ⟨eb, heb⟩ : ∃ eb, (d.r.uid == n) = eb := ⟨_, rfl⟩
  have FIN : Hid (∀ X, Below w.heap.size w X → LrO fr B D i (if eb then some d else none) w (.returned (.bool eb)) X) := Lib.hid (fun X hX => by
    refine ⟨by cases eb <;> rfl, Stays.ofBelow hX, fun d' e => ?_⟩
    cases eb with
    | false => cases e
    | true =>
      injection e with e
      subst e
      exact ⟨fv, bel_at hX hDl hdf, strs_turn (Stays.ofBelow hX) hdf hD hfrl hfl⟩)
  rw [heb]
  generalize (if eb = true then some d else none) = res at *
  obtain ⟨du, hdu⟩ : ∃ du, d.r.uid = du := ⟨_, rfl⟩
  rw [hdu] at hu heb HX
  have hu2 : (du != 0) = true := by simpa using hu
  clear h hD hi hrn hnm hfrl hu hdu
  have HY := Lib.hid hY
  clear hY b0 r0 hfl hdf hDl
  go_enter Tryd.func61, Tryd.ntmps61
  go_upto_region 1 with fail
  rw [HY.out]
  clear HY
  go_upto_region 3 with (first | (refine wpList_load_mid rfl 64 _ rfl w.heap.size 0 rfl [.int .i64 k, .int .i64 n, .string t, .slice ka kn kc] _ HRG.out Tryd.underlying64 rfl Tryd.sizeVl ?_) | (go_at_call 59; refine HI.out.mono ?_; rintro e w3 ⟨rfl, hb3⟩; have HB3 := Lib.hid hb3; clear hb3))
  obtain ⟨x1, x2, x3⟩ := HX.out _ HB3.out
  obtain ⟨y0, _, _, _, _⟩ := df_cells x2
  have HBX := Lib.hid x3
  clear x2 x3
  go_upto_region 4 with fail
  refine wp_region_N 8 (fun X => X = w3.drew) (by kernel_rfl) ?_
  refine wpAnyN_take (i := 0) (oi := { dst := some 20, op := Go.Op.move (Go.Operand.tmp 1), type := 107, pos := "fetched.go:49", after := #[], guard := none }) (oL := { dst := some 6, op := Go.Op.assign (Go.Operand.tmp 27), type := 4, pos := "fetched.go:49", after := #[{ on := 7, ground := Go.Ground.data }, { on := 0, ground := Go.Ground.phase }, { on := 1, ground := Go.Ground.phase }, { on := 2, ground := Go.Ground.phase }, { on := 3, ground := Go.Ground.phase }, { on := 4, ground := Go.Ground.phase }, { on := 5, ground := Go.Ground.phase }, { on := 6, ground := Go.Ground.phase }, { on := 7, ground := Go.Ground.phase }], guard := none }) (v := .pointer (some ⟨D, 0, none⟩)) rfl rfl (by kernel_rfl) (by kernel_rfl) (by kernel_rfl) (by kernel_rfl) (fun _ _ _ h => h) (Or.inl ⟨by kernel_rfl, ?_⟩) rfl ?_
  · (intro X hX; subst hX <;> (go_simp; try (with_reducible rfl)))
  (try simp only [Act.put, List.setIfInBounds_toArray, List.set_cons_zero, List.set_cons_succ])
  refine wpAnyN_take (i := 1) (oi := { dst := some 21, op := Go.Op.nilCheck (Go.Operand.tmp 20), type := 0, pos := "fetched.go:49", after := #[{ on := 0, ground := Go.Ground.data }], guard := none }) (oL := { dst := some 6, op := Go.Op.assign (Go.Operand.tmp 27), type := 4, pos := "fetched.go:49", after := #[{ on := 7, ground := Go.Ground.data }, { on := 0, ground := Go.Ground.phase }, { on := 1, ground := Go.Ground.phase }, { on := 2, ground := Go.Ground.phase }, { on := 3, ground := Go.Ground.phase }, { on := 4, ground := Go.Ground.phase }, { on := 5, ground := Go.Ground.phase }, { on := 6, ground := Go.Ground.phase }, { on := 7, ground := Go.Ground.phase }], guard := none }) (v := .pointer (some ⟨D, 0, none⟩)) rfl rfl (by kernel_rfl) (by kernel_rfl) (by kernel_rfl) (by kernel_rfl) (fun _ _ _ h => h) (Or.inl ⟨by kernel_rfl, ?_⟩) rfl ?_
  · (intro X hX; subst hX <;> (go_simp; try (with_reducible rfl)))
  (try simp only [Act.put, List.setIfInBounds_toArray, List.set_cons_zero, List.set_cons_succ])
  refine wpAnyN_take (i := 2) (oi := { dst := some 22, op := Go.Op.fieldAddr 105 (Go.Operand.tmp 21) 0, type := 0, pos := "fetched.go:49", after := #[{ on := 1, ground := Go.Ground.data }], guard := none }) (oL := { dst := some 6, op := Go.Op.assign (Go.Operand.tmp 27), type := 4, pos := "fetched.go:49", after := #[{ on := 7, ground := Go.Ground.data }, { on := 0, ground := Go.Ground.phase }, { on := 1, ground := Go.Ground.phase }, { on := 2, ground := Go.Ground.phase }, { on := 3, ground := Go.Ground.phase }, { on := 4, ground := Go.Ground.phase }, { on := 5, ground := Go.Ground.phase }, { on := 6, ground := Go.Ground.phase }, { on := 7, ground := Go.Ground.phase }], guard := none }) (v := .pointer (some ⟨D, 0, none⟩)) rfl rfl (by kernel_rfl) (by kernel_rfl) (by kernel_rfl) (by kernel_rfl) (fun _ _ _ h => h) (Or.inl ⟨by kernel_rfl, ?_⟩) rfl ?_
  · (intro X hX; subst hX <;> (go_simp; try (with_reducible rfl)))
  (try simp only [Act.put, List.setIfInBounds_toArray, List.set_cons_zero, List.set_cons_succ])
  refine wpAnyN_take (i := 3) (oi := { dst := some 23, op := Go.Op.fieldAddr 98 (Go.Operand.tmp 22) 0, type := 0, pos := "fetched.go:49", after := #[{ on := 2, ground := Go.Ground.data }], guard := none }) (oL := { dst := some 6, op := Go.Op.assign (Go.Operand.tmp 27), type := 4, pos := "fetched.go:49", after := #[{ on := 7, ground := Go.Ground.data }, { on := 0, ground := Go.Ground.phase }, { on := 1, ground := Go.Ground.phase }, { on := 2, ground := Go.Ground.phase }, { on := 3, ground := Go.Ground.phase }, { on := 4, ground := Go.Ground.phase }, { on := 5, ground := Go.Ground.phase }, { on := 6, ground := Go.Ground.phase }, { on := 7, ground := Go.Ground.phase }], guard := none }) (v := .pointer (some ⟨D, 0, none⟩)) rfl rfl (by kernel_rfl) (by kernel_rfl) (by kernel_rfl) (by kernel_rfl) (fun _ _ _ h => h) (Or.inl ⟨by kernel_rfl, ?_⟩) rfl ?_
  · (intro X hX; subst hX <;> (go_simp; try (with_reducible rfl)))
  (try simp only [Act.put, List.setIfInBounds_toArray, List.set_cons_zero, List.set_cons_succ])
  refine wpAnyN_take (i := 4) (oi := { dst := some 24, op := Go.Op.load 3 (Go.Operand.tmp 23), type := 3, pos := "fetched.go:49", after := #[{ on := 3, ground := Go.Ground.data }], guard := none }) (oL := { dst := some 6, op := Go.Op.assign (Go.Operand.tmp 27), type := 4, pos := "fetched.go:49", after := #[{ on := 7, ground := Go.Ground.data }, { on := 0, ground := Go.Ground.phase }, { on := 1, ground := Go.Ground.phase }, { on := 2, ground := Go.Ground.phase }, { on := 3, ground := Go.Ground.phase }, { on := 4, ground := Go.Ground.phase }, { on := 5, ground := Go.Ground.phase }, { on := 6, ground := Go.Ground.phase }, { on := 7, ground := Go.Ground.phase }], guard := none }) (v := .int .i64 du) rfl rfl (by kernel_rfl) (by kernel_rfl) (by kernel_rfl) (by kernel_rfl) (fun _ _ _ h => h) (Or.inl ⟨by kernel_rfl, ?_⟩) rfl ?_
  · (intro X hX; subst hX <;> (go_simp; try (with_reducible rfl)))
  (try simp only [Act.put, List.setIfInBounds_toArray, List.set_cons_zero, List.set_cons_succ])
  refine wpAnyN_take (i := 5) (oi := { dst := some 25, op := Go.Op.fieldAddr 64 (Go.Operand.tmp 5) 1, type := 0, pos := "fetched.go:49", after := #[], guard := none }) (oL := { dst := some 6, op := Go.Op.assign (Go.Operand.tmp 27), type := 4, pos := "fetched.go:49", after := #[{ on := 7, ground := Go.Ground.data }, { on := 0, ground := Go.Ground.phase }, { on := 1, ground := Go.Ground.phase }, { on := 2, ground := Go.Ground.phase }, { on := 3, ground := Go.Ground.phase }, { on := 4, ground := Go.Ground.phase }, { on := 5, ground := Go.Ground.phase }, { on := 6, ground := Go.Ground.phase }, { on := 7, ground := Go.Ground.phase }], guard := none }) (v := .pointer (some ⟨w.heap.size, 1, none⟩)) rfl rfl (by kernel_rfl) (by kernel_rfl) (by kernel_rfl) (by kernel_rfl) (fun _ _ _ h => h) (Or.inl ⟨by kernel_rfl, ?_⟩) rfl ?_
  · (intro X hX; subst hX <;> (go_simp; try (with_reducible rfl)))
  (try simp only [Act.put, List.setIfInBounds_toArray, List.set_cons_zero, List.set_cons_succ])
  refine wpAnyN_take (i := 6) (oi := { dst := some 26, op := Go.Op.load 3 (Go.Operand.tmp 25), type := 3, pos := "fetched.go:49", after := #[{ on := 5, ground := Go.Ground.data }], guard := none }) (oL := { dst := some 6, op := Go.Op.assign (Go.Operand.tmp 27), type := 4, pos := "fetched.go:49", after := #[{ on := 7, ground := Go.Ground.data }, { on := 0, ground := Go.Ground.phase }, { on := 1, ground := Go.Ground.phase }, { on := 2, ground := Go.Ground.phase }, { on := 3, ground := Go.Ground.phase }, { on := 4, ground := Go.Ground.phase }, { on := 5, ground := Go.Ground.phase }, { on := 6, ground := Go.Ground.phase }, { on := 7, ground := Go.Ground.phase }], guard := none }) (v := .int .i64 n) rfl rfl (by kernel_rfl) (by kernel_rfl) (by kernel_rfl) (by kernel_rfl) (fun _ _ _ h => h) (Or.inl ⟨by kernel_rfl, ?_⟩) rfl ?_
  · (intro X hX; subst hX <;> (go_simp; try (with_reducible rfl)))
  (try simp only [Act.put, List.setIfInBounds_toArray, List.set_cons_zero, List.set_cons_succ])
  refine wpAnyN_take (i := 7) (oi := { dst := some 27, op := Go.Op.binOp Go.BinOp.eql 3 (Go.Operand.tmp 24) (Go.Operand.tmp 26) 3, type := 4, pos := "fetched.go:49", after := #[{ on := 4, ground := Go.Ground.data }, { on := 6, ground := Go.Ground.data }], guard := none }) (oL := { dst := some 6, op := Go.Op.assign (Go.Operand.tmp 27), type := 4, pos := "fetched.go:49", after := #[{ on := 7, ground := Go.Ground.data }, { on := 0, ground := Go.Ground.phase }, { on := 1, ground := Go.Ground.phase }, { on := 2, ground := Go.Ground.phase }, { on := 3, ground := Go.Ground.phase }, { on := 4, ground := Go.Ground.phase }, { on := 5, ground := Go.Ground.phase }, { on := 6, ground := Go.Ground.phase }, { on := 7, ground := Go.Ground.phase }], guard := none }) (v := .bool eb) rfl rfl (by kernel_rfl) (by kernel_rfl) (by kernel_rfl) (by kernel_rfl) (fun _ _ _ h => h) (Or.inl ⟨by kernel_rfl, ?_⟩) rfl ?_
  · (intro X hX; subst hX <;> (go_simp; try (with_reducible rfl)))
  (try simp only [Act.put, List.setIfInBounds_toArray, List.set_cons_zero, List.set_cons_succ])
  refine wpAnyN_one (i := 8) (o := { dst := some 6, op := Go.Op.assign (Go.Operand.tmp 27), type := 4, pos := "fetched.go:49", after := #[{ on := 7, ground := Go.Ground.data }, { on := 0, ground := Go.Ground.phase }, { on := 1, ground := Go.Ground.phase }, { on := 2, ground := Go.Ground.phase }, { on := 3, ground := Go.Ground.phase }, { on := 4, ground := Go.Ground.phase }, { on := 5, ground := Go.Ground.phase }, { on := 6, ground := Go.Ground.phase }, { on := 7, ground := Go.Ground.phase }], guard := none }) (by kernel_rfl) rfl (fun K hK => ?_)
  go_simp
  refine hK.out _ _ (fun e => absurd (e.symm.trans (by kernel_rfl) : false = true) Bool.false_ne_true) ?_
  clear hK K
  (try simp only [Act.put, List.setIfInBounds_toArray, List.set_cons_zero, List.set_cons_succ])
  refine wpAnyN_of_H (S' := fun _ => True) _ _ _ _ (by kernel_rfl) ?_
  refine wpAnyH_done (by kernel_rfl) ?_ _
  go_wp2_with fail
  go_ret
  first | exact FIN.out _ HBX.out | exact (FIN.out _ HBX.out).drew
set_option maxRecDepth 20000 in
set_option maxHeartbeats 4000000 in
theorem uid_unfit (P : Nat) (fr : List Nat) (M : PM) (B D : Nat) (i : Nat) (d : PD) (k n : Int) (t : ByteArray) (ka : Option Addr) (kn kc : Nat) (w : World) (h : MAt P fr M w) (hd : DrIn fr B D i d w) (hD : D ∉ fr) (hi : i < M.rows.length) (hrn : M.rows.length ≤ 1000000) (hnm : isNm k n 1 = true) (hu : d.r.uid = 0) (hf : fitsM M.rows i n = false) : Calls Tryd.prog 61 #[.pointer (some ⟨P, 1, none⟩), .pointer (some ⟨D, 0, none⟩), .agg #[.int .i64 k, .int .i64 n, .string t, .slice ka kn kc]] w (LrO fr B D i none w) := by
  have hall := hD
  clear hall
  obtain ⟨Y, hY⟩ : ∃ Y, w.alloc (.cells #[.int .i64 k, .int .i64 n, .string t, .slice ka kn kc] 64) = Y := ⟨_, rfl⟩
  have b0 : Below w.heap.size w Y := by rw [← hY]; exact (Below.refl _ _).alloc (Nat.le_refl _) _
  have r0 : Y.heap[w.heap.size]? = some (.cells #[.int .i64 k, .int .i64 n, .string t, .slice ka kn kc] 64 (0, 0)) := by rw [← hY]; exact heap_new _ _
  obtain ⟨fv, hdf, hfl⟩ := hd
  have hDl := lt_of_heap hdf
  have HRG : Hid (Y.rangeAt w.heap.size 0 [.int .i64 k, .int .i64 n, .string t, .slice ka kn kc]) := Lib.hid (box_range (z := 4) (cs := [.int .i64 k, .int .i64 n, .string t, .slice ka kn kc]) r0 0)
  have HI : Hid (Calls Tryd.prog 59 #[.agg #[.int .i64 k, .int .i64 n, .string t, .slice ka kn kc], .int .i64 1] Y fun e w' => e = .returned (.bool (isNm k n 1)) ∧ Below Y.heap.size Y w') := Lib.hid (isNumber_any k n 1 t ka kn kc Y)
  have HX : Hid (∀ X, Below Y.heap.size Y X → X.cell? ⟨w.heap.size, 1, none⟩ = some (.int .i64 n) ∧ X.heap[D]? = some (dfO d.r.uid d.r.kn fv i d.h) ∧ Below w.heap.size w X) := Lib.hid (fun X hX => ⟨cell_of (bel_at hX (lt_of_heap r0) r0) 1, bel_at (b0.trans (hX.mono b0.size)) hDl hdf, b0.trans (hX.mono b0.size)⟩)
  rw [hnm] at HI
  rw [hu] at HX
  have HFt : Hid (∀ X, Below Y.heap.size Y X → Calls Tryd.prog 70 #[.pointer (some ⟨P, 1, none⟩), .int .i64 (i : Int), .int .i64 n] X fun e w' => e = .returned (.bool false) ∧ Below X.heap.size X w') := Lib.hid (fun X hX => by rw [← hf]; exact fits_M (h.bel (b0.trans (hX.mono b0.size))) i n hi hrn)
  clear h hD hi hrn hnm hf hu
  have HY := Lib.hid hY
  clear hY b0 r0 hfl hdf hDl
  go_enter Tryd.func61, Tryd.ntmps61
  go_upto_region 1 with fail
  rw [HY.out]
  clear HY
  go_upto_region 3 with (first | (refine wpList_load_mid rfl 64 _ rfl w.heap.size 0 rfl [.int .i64 k, .int .i64 n, .string t, .slice ka kn kc] _ HRG.out Tryd.underlying64 rfl Tryd.sizeVl ?_) | (go_at_call 59; refine HI.out.mono ?_; rintro e w3 ⟨rfl, hb3⟩; have HB3 := Lib.hid hb3; clear hb3))
  obtain ⟨x1, x2, x3⟩ := HX.out _ HB3.out
  obtain ⟨y0, _, _, y3, _⟩ := df_cells x2
  have HBX := Lib.hid x3
  clear x2 x3
  go_upto_region 5 with fail
  refine wp_region_N 7 (fun X => X = w3.drew) (by kernel_rfl) ?_
  refine wpAnyN_take (i := 0) (oi := { dst := some 29, op := Go.Op.move (Go.Operand.tmp 0), type := 96, pos := "fetched.go:50", after := #[], guard := none }) (oL := { dst := some 36, op := Go.Op.call { callee := Go.Callee.value (Go.Operand.func 70), args := #[Go.Operand.tmp 29, Go.Operand.tmp 33, Go.Operand.tmp 35], argTypes := #[96, 3, 3] }, type := 4, pos := "fetched.go:50", after := #[{ on := 0, ground := Go.Ground.data }, { on := 4, ground := Go.Ground.data }, { on := 6, ground := Go.Ground.data }], guard := none }) (v := .pointer (some ⟨P, 1, none⟩)) rfl rfl (by kernel_rfl) (by kernel_rfl) (by kernel_rfl) (by kernel_rfl) (fun _ _ _ h => h) (Or.inl ⟨by kernel_rfl, ?_⟩) rfl ?_
  · (intro X hX; subst hX <;> (go_simp; try (with_reducible rfl)))
  (try simp only [Act.put, List.setIfInBounds_toArray, List.set_cons_zero, List.set_cons_succ])
  refine wpAnyN_take (i := 1) (oi := { dst := some 30, op := Go.Op.move (Go.Operand.tmp 1), type := 107, pos := "fetched.go:50", after := #[], guard := none }) (oL := { dst := some 36, op := Go.Op.call { callee := Go.Callee.value (Go.Operand.func 70), args := #[Go.Operand.tmp 29, Go.Operand.tmp 33, Go.Operand.tmp 35], argTypes := #[96, 3, 3] }, type := 4, pos := "fetched.go:50", after := #[{ on := 0, ground := Go.Ground.data }, { on := 4, ground := Go.Ground.data }, { on := 6, ground := Go.Ground.data }], guard := none }) (v := .pointer (some ⟨D, 0, none⟩)) rfl rfl (by kernel_rfl) (by kernel_rfl) (by kernel_rfl) (by kernel_rfl) (fun _ _ _ h => h) (Or.inl ⟨by kernel_rfl, ?_⟩) rfl ?_
  · (intro X hX; subst hX <;> (go_simp; try (with_reducible rfl)))
  (try simp only [Act.put, List.setIfInBounds_toArray, List.set_cons_zero, List.set_cons_succ])
  refine wpAnyN_take (i := 2) (oi := { dst := some 31, op := Go.Op.nilCheck (Go.Operand.tmp 30), type := 0, pos := "fetched.go:50", after := #[{ on := 1, ground := Go.Ground.data }], guard := none }) (oL := { dst := some 36, op := Go.Op.call { callee := Go.Callee.value (Go.Operand.func 70), args := #[Go.Operand.tmp 29, Go.Operand.tmp 33, Go.Operand.tmp 35], argTypes := #[96, 3, 3] }, type := 4, pos := "fetched.go:50", after := #[{ on := 0, ground := Go.Ground.data }, { on := 4, ground := Go.Ground.data }, { on := 6, ground := Go.Ground.data }], guard := none }) (v := .pointer (some ⟨D, 0, none⟩)) rfl rfl (by kernel_rfl) (by kernel_rfl) (by kernel_rfl) (by kernel_rfl) (fun _ _ _ h => h) (Or.inl ⟨by kernel_rfl, ?_⟩) rfl ?_
  · (intro X hX; subst hX <;> (go_simp; try (with_reducible rfl)))
  (try simp only [Act.put, List.setIfInBounds_toArray, List.set_cons_zero, List.set_cons_succ])
  refine wpAnyN_take (i := 3) (oi := { dst := some 32, op := Go.Op.fieldAddr 105 (Go.Operand.tmp 31) 1, type := 0, pos := "fetched.go:50", after := #[{ on := 2, ground := Go.Ground.data }], guard := none }) (oL := { dst := some 36, op := Go.Op.call { callee := Go.Callee.value (Go.Operand.func 70), args := #[Go.Operand.tmp 29, Go.Operand.tmp 33, Go.Operand.tmp 35], argTypes := #[96, 3, 3] }, type := 4, pos := "fetched.go:50", after := #[{ on := 0, ground := Go.Ground.data }, { on := 4, ground := Go.Ground.data }, { on := 6, ground := Go.Ground.data }], guard := none }) (v := .pointer (some ⟨D, 3, none⟩)) rfl rfl (by kernel_rfl) (by kernel_rfl) (by kernel_rfl) (by kernel_rfl) (fun _ _ _ h => h) (Or.inl ⟨by kernel_rfl, ?_⟩) rfl ?_
  · (intro X hX; subst hX <;> (go_simp; try (with_reducible rfl)))
  (try simp only [Act.put, List.setIfInBounds_toArray, List.set_cons_zero, List.set_cons_succ])
  refine wpAnyN_take (i := 4) (oi := { dst := some 33, op := Go.Op.load 3 (Go.Operand.tmp 32), type := 3, pos := "fetched.go:50", after := #[{ on := 3, ground := Go.Ground.data }], guard := none }) (oL := { dst := some 36, op := Go.Op.call { callee := Go.Callee.value (Go.Operand.func 70), args := #[Go.Operand.tmp 29, Go.Operand.tmp 33, Go.Operand.tmp 35], argTypes := #[96, 3, 3] }, type := 4, pos := "fetched.go:50", after := #[{ on := 0, ground := Go.Ground.data }, { on := 4, ground := Go.Ground.data }, { on := 6, ground := Go.Ground.data }], guard := none }) (v := .int .i64 (i : Int)) rfl rfl (by kernel_rfl) (by kernel_rfl) (by kernel_rfl) (by kernel_rfl) (fun _ _ _ h => h) (Or.inl ⟨by kernel_rfl, ?_⟩) rfl ?_
  · (intro X hX; subst hX <;> (go_simp; try (with_reducible rfl)))
  (try simp only [Act.put, List.setIfInBounds_toArray, List.set_cons_zero, List.set_cons_succ])
  refine wpAnyN_take (i := 5) (oi := { dst := some 34, op := Go.Op.fieldAddr 64 (Go.Operand.tmp 5) 1, type := 0, pos := "fetched.go:50", after := #[], guard := none }) (oL := { dst := some 36, op := Go.Op.call { callee := Go.Callee.value (Go.Operand.func 70), args := #[Go.Operand.tmp 29, Go.Operand.tmp 33, Go.Operand.tmp 35], argTypes := #[96, 3, 3] }, type := 4, pos := "fetched.go:50", after := #[{ on := 0, ground := Go.Ground.data }, { on := 4, ground := Go.Ground.data }, { on := 6, ground := Go.Ground.data }], guard := none }) (v := .pointer (some ⟨w.heap.size, 1, none⟩)) rfl rfl (by kernel_rfl) (by kernel_rfl) (by kernel_rfl) (by kernel_rfl) (fun _ _ _ h => h) (Or.inl ⟨by kernel_rfl, ?_⟩) rfl ?_
  · (intro X hX; subst hX <;> (go_simp; try (with_reducible rfl)))
  (try simp only [Act.put, List.setIfInBounds_toArray, List.set_cons_zero, List.set_cons_succ])
  refine wpAnyN_take (i := 6) (oi := { dst := some 35, op := Go.Op.load 3 (Go.Operand.tmp 34), type := 3, pos := "fetched.go:50", after := #[{ on := 5, ground := Go.Ground.data }], guard := none }) (oL := { dst := some 36, op := Go.Op.call { callee := Go.Callee.value (Go.Operand.func 70), args := #[Go.Operand.tmp 29, Go.Operand.tmp 33, Go.Operand.tmp 35], argTypes := #[96, 3, 3] }, type := 4, pos := "fetched.go:50", after := #[{ on := 0, ground := Go.Ground.data }, { on := 4, ground := Go.Ground.data }, { on := 6, ground := Go.Ground.data }], guard := none }) (v := .int .i64 n) rfl rfl (by kernel_rfl) (by kernel_rfl) (by kernel_rfl) (by kernel_rfl) (fun _ _ _ h => h) (Or.inl ⟨by kernel_rfl, ?_⟩) rfl ?_
  · (intro X hX; subst hX <;> (go_simp; try (with_reducible rfl)))
  (try simp only [Act.put, List.setIfInBounds_toArray, List.set_cons_zero, List.set_cons_succ])
  refine wpAnyN_one (i := 7) (o := { dst := some 36, op := Go.Op.call { callee := Go.Callee.value (Go.Operand.func 70), args := #[Go.Operand.tmp 29, Go.Operand.tmp 33, Go.Operand.tmp 35], argTypes := #[96, 3, 3] }, type := 4, pos := "fetched.go:50", after := #[{ on := 0, ground := Go.Ground.data }, { on := 4, ground := Go.Ground.data }, { on := 6, ground := Go.Ground.data }], guard := none }) (by kernel_rfl) rfl (fun K hK => ?_)
  go_simp
  refine (HFt.out _ HB3.out.drew).mono ?_
  rintro e w4 ⟨rfl, hb4⟩
  have HB4 := Lib.hid hb4
  clear hb4
  refine hK.out _ _ (fun e => absurd (e.symm.trans (by kernel_rfl) : false = true) Bool.false_ne_true) ?_
  clear hK K
  (try simp only [Act.put, List.setIfInBounds_toArray, List.set_cons_zero, List.set_cons_succ])
  refine wpAnyN_of_H (S' := fun _ => True) _ _ _ _ (by kernel_rfl) ?_
  refine wpAnyH_take (i := 8) (oi := { dst := some 37, op := Go.Op.unOp Go.UnOp.not 4 (Go.Operand.tmp 36), type := 4, pos := "fetched.go:50", after := #[{ on := 7, ground := Go.Ground.data }], guard := none }) (v := .bool true) rfl (by kernel_rfl) (by kernel_rfl) (by kernel_rfl) (fun _ _ _ h => h) (Or.inl ⟨by kernel_rfl, ?_⟩) trivial ?_
  · (intro X hX; go_simp; try (with_reducible rfl))
  (try simp only [Act.put, List.setIfInBounds_toArray, List.set_cons_zero, List.set_cons_succ])
  refine wpAnyH_take (i := 9) (oi := { dst := some 28, op := Go.Op.assign (Go.Operand.tmp 37), type := 4, pos := "fetched.go:50", after := #[{ on := 8, ground := Go.Ground.data }, { on := 7, ground := Go.Ground.chain }], guard := none }) (v := .bool true) rfl (by kernel_rfl) (by kernel_rfl) (by kernel_rfl) (fun _ _ _ h => h) (Or.inl ⟨by kernel_rfl, ?_⟩) trivial ?_
  · (intro X hX; go_simp; try (with_reducible rfl))
  (try simp only [Act.put, List.setIfInBounds_toArray, List.set_cons_zero, List.set_cons_succ])
  refine wpAnyH_done (by kernel_rfl) ?_ _
  go_wp2_with fail
  go_ret
  exact ⟨rfl, Stays.ofBelow (HBX.out.drew.trans (HB4.out.mono HBX.out.size)), fun d' e => by cases e⟩
set_option maxRecDepth 20000 in
set_option maxHeartbeats 4000000 in
theorem uid_new (P : Nat) (fr : List Nat) (M : PM) (B D : Nat) (i : Nat) (d : PD) (k n : Int) (t : ByteArray) (ka : Option Addr) (kn kc : Nat) (w : World) (h : MAt P fr M w) (hd : DrIn fr B D i d w) (hD : D ∉ fr) (hi : i < M.rows.length) (hrn : M.rows.length ≤ 1000000) (hnm : isNm k n 1 = true) (hu : d.r.uid = 0) (hf : fitsM M.rows i n = true) (hfw : M.was n = none) : Calls Tryd.prog 61 #[.pointer (some ⟨P, 1, none⟩), .pointer (some ⟨D, 0, none⟩), .agg #[.int .i64 k, .int .i64 n, .string t, .slice ka kn kc]] w (LrO fr B D i (some ⟨⟨n, d.r.kn, d.r.fl⟩, d.h⟩) w) := by
  obtain ⟨Y, hY⟩ : ∃ Y, w.alloc (.cells #[.int .i64 k, .int .i64 n, .string t, .slice ka kn kc] 64) = Y := ⟨_, rfl⟩
  have b0 : Below w.heap.size w Y := by rw [← hY]; exact (Below.refl _ _).alloc (Nat.le_refl _) _
  have r0 : Y.heap[w.heap.size]? = some (.cells #[.int .i64 k, .int .i64 n, .string t, .slice ka kn kc] 64 (0, 0)) := by rw [← hY]; exact heap_new _ _
  obtain ⟨fv, hdf, hfl⟩ := hd
  have hDl := lt_of_heap hdf
  have HRG : Hid (Y.rangeAt w.heap.size 0 [.int .i64 k, .int .i64 n, .string t, .slice ka kn kc]) := Lib.hid (box_range (z := 4) (cs := [.int .i64 k, .int .i64 n, .string t, .slice ka kn kc]) r0 0)
  have HI : Hid (Calls Tryd.prog 59 #[.agg #[.int .i64 k, .int .i64 n, .string t, .slice ka kn kc], .int .i64 1] Y fun e w' => e = .returned (.bool (isNm k n 1)) ∧ Below Y.heap.size Y w') := Lib.hid (isNumber_any k n 1 t ka kn kc Y)
  have HX : Hid (∀ X, Below Y.heap.size Y X → X.cell? ⟨w.heap.size, 1, none⟩ = some (.int .i64 n) ∧ X.heap[D]? = some (dfO d.r.uid d.r.kn fv i d.h) ∧ Below w.heap.size w X) := Lib.hid (fun X hX => ⟨cell_of (bel_at hX (lt_of_heap r0) r0) 1, bel_at (b0.trans (hX.mono b0.size)) hDl hdf, b0.trans (hX.mono b0.size)⟩)
  rw [hnm] at HI
  rw [hu] at HX
  have hfrl := h.lt
  have HFt : Hid (∀ X, Below Y.heap.size Y X → Calls Tryd.prog 70 #[.pointer (some ⟨P, 1, none⟩), .int .i64 (i : Int), .int .i64 n] X fun e w' => e = .returned (.bool true) ∧ Below X.heap.size X w') := Lib.hid (fun X hX => by rw [← hf]; exact fits_M (h.bel (b0.trans (hX.mono b0.size))) i n hi hrn)
  have HZ : Hid (∀ X, Below Y.heap.size Y X → X.frozen? ⟨D, 0, none⟩ = false) := Lib.hid (fun X hX => df_fz (bel_at (b0.trans (hX.mono b0.size)) hDl hdf) 0)
  have HW2 : Hid (∀ X W2, Below Y.heap.size Y X → W2 = X.setCell ⟨D, 0, none⟩ (.int .i64 n) → Stays [D] w W2 ∧ W2.heap[D]? = some (dfO n d.r.kn fv i d.h) ∧ MAt P fr M W2 ∧ (StrsIn fr W2 fv d.r.fl ∨ StrsNew B W2 fv d.r.fl)) := Lib.hid (fun X W2 hX e => by
    subst e
    have hb := b0.trans (hX.mono b0.size)
    have kD := bel_at hb hDl hdf
    have hs : Stays [D] w (X.setCell ⟨D, 0, none⟩ (.int .i64 n)) := (Stays.ofBelow (fp := [D]) hb).setCell (.inl (by simp)) _
    refine ⟨hs, ?_, h.on (fun b hbf => hs.block b (hfrl b hbf) (fun hm => hD ((show b = D by simpa using hm) ▸ hbf))) hs.size, strs_turn hs hdf hD hfrl hfl⟩
    unfold dfO at kD ⊢
    rw [heap_setCell_at _ kD]
    rfl)
  have HFw := Lib.hid hfw
  have HDn := Lib.hid (And.intro hD hfrl)
  clear h hD hi hrn hnm hf hu hfrl hfw
  have HY := Lib.hid hY
  clear hY b0 r0 hfl hdf hDl
  go_enter Tryd.func61, Tryd.ntmps61
  go_upto_region 1 with fail
  rw [HY.out]
  clear HY
  go_upto_region 3 with (first | (refine wpList_load_mid rfl 64 _ rfl w.heap.size 0 rfl [.int .i64 k, .int .i64 n, .string t, .slice ka kn kc] _ HRG.out Tryd.underlying64 rfl Tryd.sizeVl ?_) | (go_at_call 59; refine HI.out.mono ?_; rintro e w3 ⟨rfl, hb3⟩; have HB3 := Lib.hid hb3; clear hb3))
  obtain ⟨x1, x2, x3⟩ := HX.out _ HB3.out
  obtain ⟨y0, _, _, y3, _⟩ := df_cells x2
  have HBX := Lib.hid x3
  clear x2 x3
  go_upto_region 5 with fail
  refine wp_region_N 7 (fun X => X = w3.drew) (by kernel_rfl) ?_
  refine wpAnyN_take (i := 0) (oi := { dst := some 29, op := Go.Op.move (Go.Operand.tmp 0), type := 96, pos := "fetched.go:50", after := #[], guard := none }) (oL := { dst := some 36, op := Go.Op.call { callee := Go.Callee.value (Go.Operand.func 70), args := #[Go.Operand.tmp 29, Go.Operand.tmp 33, Go.Operand.tmp 35], argTypes := #[96, 3, 3] }, type := 4, pos := "fetched.go:50", after := #[{ on := 0, ground := Go.Ground.data }, { on := 4, ground := Go.Ground.data }, { on := 6, ground := Go.Ground.data }], guard := none }) (v := .pointer (some ⟨P, 1, none⟩)) rfl rfl (by kernel_rfl) (by kernel_rfl) (by kernel_rfl) (by kernel_rfl) (fun _ _ _ h => h) (Or.inl ⟨by kernel_rfl, ?_⟩) rfl ?_
  · (intro X hX; subst hX <;> (go_simp; try (with_reducible rfl)))
  (try simp only [Act.put, List.setIfInBounds_toArray, List.set_cons_zero, List.set_cons_succ])
  refine wpAnyN_take (i := 1) (oi := { dst := some 30, op := Go.Op.move (Go.Operand.tmp 1), type := 107, pos := "fetched.go:50", after := #[], guard := none }) (oL := { dst := some 36, op := Go.Op.call { callee := Go.Callee.value (Go.Operand.func 70), args := #[Go.Operand.tmp 29, Go.Operand.tmp 33, Go.Operand.tmp 35], argTypes := #[96, 3, 3] }, type := 4, pos := "fetched.go:50", after := #[{ on := 0, ground := Go.Ground.data }, { on := 4, ground := Go.Ground.data }, { on := 6, ground := Go.Ground.data }], guard := none }) (v := .pointer (some ⟨D, 0, none⟩)) rfl rfl (by kernel_rfl) (by kernel_rfl) (by kernel_rfl) (by kernel_rfl) (fun _ _ _ h => h) (Or.inl ⟨by kernel_rfl, ?_⟩) rfl ?_
  · (intro X hX; subst hX <;> (go_simp; try (with_reducible rfl)))
  (try simp only [Act.put, List.setIfInBounds_toArray, List.set_cons_zero, List.set_cons_succ])
  refine wpAnyN_take (i := 2) (oi := { dst := some 31, op := Go.Op.nilCheck (Go.Operand.tmp 30), type := 0, pos := "fetched.go:50", after := #[{ on := 1, ground := Go.Ground.data }], guard := none }) (oL := { dst := some 36, op := Go.Op.call { callee := Go.Callee.value (Go.Operand.func 70), args := #[Go.Operand.tmp 29, Go.Operand.tmp 33, Go.Operand.tmp 35], argTypes := #[96, 3, 3] }, type := 4, pos := "fetched.go:50", after := #[{ on := 0, ground := Go.Ground.data }, { on := 4, ground := Go.Ground.data }, { on := 6, ground := Go.Ground.data }], guard := none }) (v := .pointer (some ⟨D, 0, none⟩)) rfl rfl (by kernel_rfl) (by kernel_rfl) (by kernel_rfl) (by kernel_rfl) (fun _ _ _ h => h) (Or.inl ⟨by kernel_rfl, ?_⟩) rfl ?_
  · (intro X hX; subst hX <;> (go_simp; try (with_reducible rfl)))
  (try simp only [Act.put, List.setIfInBounds_toArray, List.set_cons_zero, List.set_cons_succ])
  refine wpAnyN_take (i := 3) (oi := { dst := some 32, op := Go.Op.fieldAddr 105 (Go.Operand.tmp 31) 1, type := 0, pos := "fetched.go:50", after := #[{ on := 2, ground := Go.Ground.data }], guard := none }) (oL := { dst := some 36, op := Go.Op.call { callee := Go.Callee.value (Go.Operand.func 70), args := #[Go.Operand.tmp 29, Go.Operand.tmp 33, Go.Operand.tmp 35], argTypes := #[96, 3, 3] }, type := 4, pos := "fetched.go:50", after := #[{ on := 0, ground := Go.Ground.data }, { on := 4, ground := Go.Ground.data }, { on := 6, ground := Go.Ground.data }], guard := none }) (v := .pointer (some ⟨D, 3, none⟩)) rfl rfl (by kernel_rfl) (by kernel_rfl) (by kernel_rfl) (by kernel_rfl) (fun _ _ _ h => h) (Or.inl ⟨by kernel_rfl, ?_⟩) rfl ?_
  · (intro X hX; subst hX <;> (go_simp; try (with_reducible rfl)))
  (try simp only [Act.put, List.setIfInBounds_toArray, List.set_cons_zero, List.set_cons_succ])
  refine wpAnyN_take (i := 4) (oi := { dst := some 33, op := Go.Op.load 3 (Go.Operand.tmp 32), type := 3, pos := "fetched.go:50", after := #[{ on := 3, ground := Go.Ground.data }], guard := none }) (oL := { dst := some 36, op := Go.Op.call { callee := Go.Callee.value (Go.Operand.func 70), args := #[Go.Operand.tmp 29, Go.Operand.tmp 33, Go.Operand.tmp 35], argTypes := #[96, 3, 3] }, type := 4, pos := "fetched.go:50", after := #[{ on := 0, ground := Go.Ground.data }, { on := 4, ground := Go.Ground.data }, { on := 6, ground := Go.Ground.data }], guard := none }) (v := .int .i64 (i : Int)) rfl rfl (by kernel_rfl) (by kernel_rfl) (by kernel_rfl) (by kernel_rfl) (fun _ _ _ h => h) (Or.inl ⟨by kernel_rfl, ?_⟩) rfl ?_
  · (intro X hX; subst hX <;> (go_simp; try (with_reducible rfl)))
  (try simp only [Act.put, List.setIfInBounds_toArray, List.set_cons_zero, List.set_cons_succ])
  refine wpAnyN_take (i := 5) (oi := { dst := some 34, op := Go.Op.fieldAddr 64 (Go.Operand.tmp 5) 1, type := 0, pos := "fetched.go:50", after := #[], guard := none }) (oL := { dst := some 36, op := Go.Op.call { callee := Go.Callee.value (Go.Operand.func 70), args := #[Go.Operand.tmp 29, Go.Operand.tmp 33, Go.Operand.tmp 35], argTypes := #[96, 3, 3] }, type := 4, pos := "fetched.go:50", after := #[{ on := 0, ground := Go.Ground.data }, { on := 4, ground := Go.Ground.data }, { on := 6, ground := Go.Ground.data }], guard := none }) (v := .pointer (some ⟨w.heap.size, 1, none⟩)) rfl rfl (by kernel_rfl) (by kernel_rfl) (by kernel_rfl) (by kernel_rfl) (fun _ _ _ h => h) (Or.inl ⟨by kernel_rfl, ?_⟩) rfl ?_
  · (intro X hX; subst hX <;> (go_simp; try (with_reducible rfl)))
  (try simp only [Act.put, List.setIfInBounds_toArray, List.set_cons_zero, List.set_cons_succ])
  refine wpAnyN_take (i := 6) (oi := { dst := some 35, op := Go.Op.load 3 (Go.Operand.tmp 34), type := 3, pos := "fetched.go:50", after := #[{ on := 5, ground := Go.Ground.data }], guard := none }) (oL := { dst := some 36, op := Go.Op.call { callee := Go.Callee.value (Go.Operand.func 70), args := #[Go.Operand.tmp 29, Go.Operand.tmp 33, Go.Operand.tmp 35], argTypes := #[96, 3, 3] }, type := 4, pos := "fetched.go:50", after := #[{ on := 0, ground := Go.Ground.data }, { on := 4, ground := Go.Ground.data }, { on := 6, ground := Go.Ground.data }], guard := none }) (v := .int .i64 n) rfl rfl (by kernel_rfl) (by kernel_rfl) (by kernel_rfl) (by kernel_rfl) (fun _ _ _ h => h) (Or.inl ⟨by kernel_rfl, ?_⟩) rfl ?_
  · (intro X hX; subst hX <;> (go_simp; try (with_reducible rfl)))
  (try simp only [Act.put, List.setIfInBounds_toArray, List.set_cons_zero, List.set_cons_succ])
  refine wpAnyN_one (i := 7) (o := { dst := some 36, op := Go.Op.call { callee := Go.Callee.value (Go.Operand.func 70), args := #[Go.Operand.tmp 29, Go.Operand.tmp 33, Go.Operand.tmp 35], argTypes := #[96, 3, 3] }, type := 4, pos := "fetched.go:50", after := #[{ on := 0, ground := Go.Ground.data }, { on := 4, ground := Go.Ground.data }, { on := 6, ground := Go.Ground.data }], guard := none }) (by kernel_rfl) rfl (fun K hK => ?_)
  go_simp
  refine (HFt.out _ HB3.out.drew).mono ?_
  rintro e w4 ⟨rfl, hb4⟩
  have HB4 := Lib.hid hb4
  clear hb4
  refine hK.out _ _ (fun e => absurd (e.symm.trans (by kernel_rfl) : false = true) Bool.false_ne_true) ?_
  clear hK K
  (try simp only [Act.put, List.setIfInBounds_toArray, List.set_cons_zero, List.set_cons_succ])
  refine wpAnyN_of_H (S' := fun _ => True) _ _ _ _ (by kernel_rfl) ?_
  refine wpAnyH_take (i := 8) (oi := { dst := some 37, op := Go.Op.unOp Go.UnOp.not 4 (Go.Operand.tmp 36), type := 4, pos := "fetched.go:50", after := #[{ on := 7, ground := Go.Ground.data }], guard := none }) (v := .bool false) rfl (by kernel_rfl) (by kernel_rfl) (by kernel_rfl) (fun _ _ _ h => h) (Or.inl ⟨by kernel_rfl, ?_⟩) trivial ?_
  · (intro X hX; go_simp; try (with_reducible rfl))
  (try simp only [Act.put, List.setIfInBounds_toArray, List.set_cons_zero, List.set_cons_succ])
  refine wpAnyH_take (i := 9) (oi := { dst := some 28, op := Go.Op.assign (Go.Operand.tmp 37), type := 4, pos := "fetched.go:50", after := #[{ on := 8, ground := Go.Ground.data }, { on := 7, ground := Go.Ground.chain }], guard := none }) (v := .bool false) rfl (by kernel_rfl) (by kernel_rfl) (by kernel_rfl) (fun _ _ _ h => h) (Or.inl ⟨by kernel_rfl, ?_⟩) trivial ?_
  · (intro X hX; go_simp; try (with_reducible rfl))
  (try simp only [Act.put, List.setIfInBounds_toArray, List.set_cons_zero, List.set_cons_succ])
  refine wpAnyH_done (by kernel_rfl) ?_ _
  have hb4 : Below Y.heap.size Y w4 := HB3.out.drew.trans (HB4.out.mono HB3.out.size)
  obtain ⟨q1, q2, q3⟩ := HX.out _ hb4
  obtain ⟨p0, _, _, _, _⟩ := df_cells q2
  have z0 := HZ.out _ hb4
  have HB5 := Lib.hid hb4
  clear q2 q3 hb4 x1 y0 y3
  go_upto_region 8 with fail
  refine wp_gen (fun W2 hW2 => ?_)
  obtain ⟨s1, s2, s3, s4⟩ := HW2.out _ _ HB5.out hW2
  obtain ⟨qv, rowsV, was, hM, _, _, hWs⟩ := s3.ex
  obtain ⟨la, ln, lc, lb, hlook, hlb, hls⟩ := look_in (X := W2.drew) (hWs : WasIn fr W2.drew was M.was) n
  rw [HFw.out] at hlb hls
  obtain rfl : lb = false := hlb
  have m6 := (mir_cells hM).c6
  obtain ⟨e0, e1, e2, e3, e4⟩ := df_cells s2
  have g1 := df_fz s2 1
  have g2 := df_fz s2 2
  have HS := Lib.hid (And.intro s1 (And.intro s2 (And.intro s4 hls)))
  clear hW2 s1 s2 s3 s4 hM hWs hls p0 z0 q1
  refine wp_region_N 14 (fun X => X = W2.drew) (by kernel_rfl) ?_
  refine wpAnyN_take (i := 0) (oi := { dst := some 45, op := Go.Op.move (Go.Operand.tmp 0), type := 96, pos := "fetched.go:54", after := #[], guard := none }) (oL := { dst := some 8, op := Go.Op.assign (Go.Operand.tmp 56), type := 4, pos := "fetched.go:54", after := #[{ on := 12, ground := Go.Ground.data }, { on := 13, ground := Go.Ground.chain }, { on := 0, ground := Go.Ground.phase }, { on := 1, ground := Go.Ground.phase }, { on := 2, ground := Go.Ground.phase }, { on := 3, ground := Go.Ground.phase }, { on := 4, ground := Go.Ground.phase }, { on := 5, ground := Go.Ground.phase }, { on := 6, ground := Go.Ground.phase }, { on := 7, ground := Go.Ground.phase }, { on := 8, ground := Go.Ground.phase }, { on := 9, ground := Go.Ground.phase }, { on := 10, ground := Go.Ground.phase }, { on := 11, ground := Go.Ground.phase }, { on := 12, ground := Go.Ground.phase }, { on := 13, ground := Go.Ground.phase }], guard := none }) (v := .pointer (some ⟨P, 1, none⟩)) rfl rfl (by kernel_rfl) (by kernel_rfl) (by kernel_rfl) (by kernel_rfl) (fun _ _ _ h => h) (Or.inl ⟨by kernel_rfl, ?_⟩) rfl ?_
  · (intro X hX; subst hX <;> (go_simp; try (with_reducible rfl)))
  (try simp only [Act.put, List.setIfInBounds_toArray, List.set_cons_zero, List.set_cons_succ])
  refine wpAnyN_take (i := 1) (oi := { dst := some 46, op := Go.Op.nilCheck (Go.Operand.tmp 45), type := 0, pos := "fetched.go:54", after := #[{ on := 0, ground := Go.Ground.data }], guard := none }) (oL := { dst := some 8, op := Go.Op.assign (Go.Operand.tmp 56), type := 4, pos := "fetched.go:54", after := #[{ on := 12, ground := Go.Ground.data }, { on := 13, ground := Go.Ground.chain }, { on := 0, ground := Go.Ground.phase }, { on := 1, ground := Go.Ground.phase }, { on := 2, ground := Go.Ground.phase }, { on := 3, ground := Go.Ground.phase }, { on := 4, ground := Go.Ground.phase }, { on := 5, ground := Go.Ground.phase }, { on := 6, ground := Go.Ground.phase }, { on := 7, ground := Go.Ground.phase }, { on := 8, ground := Go.Ground.phase }, { on := 9, ground := Go.Ground.phase }, { on := 10, ground := Go.Ground.phase }, { on := 11, ground := Go.Ground.phase }, { on := 12, ground := Go.Ground.phase }, { on := 13, ground := Go.Ground.phase }], guard := none }) (v := .pointer (some ⟨P, 1, none⟩)) rfl rfl (by kernel_rfl) (by kernel_rfl) (by kernel_rfl) (by kernel_rfl) (fun _ _ _ h => h) (Or.inl ⟨by kernel_rfl, ?_⟩) rfl ?_
  · (intro X hX; subst hX <;> (go_simp; try (with_reducible rfl)))
  (try simp only [Act.put, List.setIfInBounds_toArray, List.set_cons_zero, List.set_cons_succ])
  refine wpAnyN_take (i := 2) (oi := { dst := some 47, op := Go.Op.fieldAddr 73 (Go.Operand.tmp 46) 5, type := 0, pos := "fetched.go:54", after := #[{ on := 1, ground := Go.Ground.data }], guard := none }) (oL := { dst := some 8, op := Go.Op.assign (Go.Operand.tmp 56), type := 4, pos := "fetched.go:54", after := #[{ on := 12, ground := Go.Ground.data }, { on := 13, ground := Go.Ground.chain }, { on := 0, ground := Go.Ground.phase }, { on := 1, ground := Go.Ground.phase }, { on := 2, ground := Go.Ground.phase }, { on := 3, ground := Go.Ground.phase }, { on := 4, ground := Go.Ground.phase }, { on := 5, ground := Go.Ground.phase }, { on := 6, ground := Go.Ground.phase }, { on := 7, ground := Go.Ground.phase }, { on := 8, ground := Go.Ground.phase }, { on := 9, ground := Go.Ground.phase }, { on := 10, ground := Go.Ground.phase }, { on := 11, ground := Go.Ground.phase }, { on := 12, ground := Go.Ground.phase }, { on := 13, ground := Go.Ground.phase }], guard := none }) (v := .pointer (some ⟨P, 6, none⟩)) rfl rfl (by kernel_rfl) (by kernel_rfl) (by kernel_rfl) (by kernel_rfl) (fun _ _ _ h => h) (Or.inl ⟨by kernel_rfl, ?_⟩) rfl ?_
  · (intro X hX; subst hX <;> (go_simp; try (with_reducible rfl)))
  (try simp only [Act.put, List.setIfInBounds_toArray, List.set_cons_zero, List.set_cons_succ])
  refine wpAnyN_take (i := 3) (oi := { dst := some 48, op := Go.Op.load 71 (Go.Operand.tmp 47), type := 71, pos := "fetched.go:54", after := #[{ on := 2, ground := Go.Ground.data }], guard := none }) (oL := { dst := some 8, op := Go.Op.assign (Go.Operand.tmp 56), type := 4, pos := "fetched.go:54", after := #[{ on := 12, ground := Go.Ground.data }, { on := 13, ground := Go.Ground.chain }, { on := 0, ground := Go.Ground.phase }, { on := 1, ground := Go.Ground.phase }, { on := 2, ground := Go.Ground.phase }, { on := 3, ground := Go.Ground.phase }, { on := 4, ground := Go.Ground.phase }, { on := 5, ground := Go.Ground.phase }, { on := 6, ground := Go.Ground.phase }, { on := 7, ground := Go.Ground.phase }, { on := 8, ground := Go.Ground.phase }, { on := 9, ground := Go.Ground.phase }, { on := 10, ground := Go.Ground.phase }, { on := 11, ground := Go.Ground.phase }, { on := 12, ground := Go.Ground.phase }, { on := 13, ground := Go.Ground.phase }], guard := none }) (v := was) rfl rfl (by kernel_rfl) (by kernel_rfl) (by kernel_rfl) (by kernel_rfl) (fun _ _ _ h => h) (Or.inl ⟨by kernel_rfl, ?_⟩) rfl ?_
  · (intro X hX; subst hX <;> (go_simp; try (with_reducible rfl)))
  (try simp only [Act.put, List.setIfInBounds_toArray, List.set_cons_zero, List.set_cons_succ])
  refine wpAnyN_take (i := 4) (oi := { dst := some 49, op := Go.Op.move (Go.Operand.tmp 1), type := 107, pos := "fetched.go:54", after := #[], guard := none }) (oL := { dst := some 8, op := Go.Op.assign (Go.Operand.tmp 56), type := 4, pos := "fetched.go:54", after := #[{ on := 12, ground := Go.Ground.data }, { on := 13, ground := Go.Ground.chain }, { on := 0, ground := Go.Ground.phase }, { on := 1, ground := Go.Ground.phase }, { on := 2, ground := Go.Ground.phase }, { on := 3, ground := Go.Ground.phase }, { on := 4, ground := Go.Ground.phase }, { on := 5, ground := Go.Ground.phase }, { on := 6, ground := Go.Ground.phase }, { on := 7, ground := Go.Ground.phase }, { on := 8, ground := Go.Ground.phase }, { on := 9, ground := Go.Ground.phase }, { on := 10, ground := Go.Ground.phase }, { on := 11, ground := Go.Ground.phase }, { on := 12, ground := Go.Ground.phase }, { on := 13, ground := Go.Ground.phase }], guard := none }) (v := .pointer (some ⟨D, 0, none⟩)) rfl rfl (by kernel_rfl) (by kernel_rfl) (by kernel_rfl) (by kernel_rfl) (fun _ _ _ h => h) (Or.inl ⟨by kernel_rfl, ?_⟩) rfl ?_
  · (intro X hX; subst hX <;> (go_simp; try (with_reducible rfl)))
  (try simp only [Act.put, List.setIfInBounds_toArray, List.set_cons_zero, List.set_cons_succ])
  refine wpAnyN_take (i := 5) (oi := { dst := some 50, op := Go.Op.nilCheck (Go.Operand.tmp 49), type := 0, pos := "fetched.go:54", after := #[{ on := 4, ground := Go.Ground.data }], guard := none }) (oL := { dst := some 8, op := Go.Op.assign (Go.Operand.tmp 56), type := 4, pos := "fetched.go:54", after := #[{ on := 12, ground := Go.Ground.data }, { on := 13, ground := Go.Ground.chain }, { on := 0, ground := Go.Ground.phase }, { on := 1, ground := Go.Ground.phase }, { on := 2, ground := Go.Ground.phase }, { on := 3, ground := Go.Ground.phase }, { on := 4, ground := Go.Ground.phase }, { on := 5, ground := Go.Ground.phase }, { on := 6, ground := Go.Ground.phase }, { on := 7, ground := Go.Ground.phase }, { on := 8, ground := Go.Ground.phase }, { on := 9, ground := Go.Ground.phase }, { on := 10, ground := Go.Ground.phase }, { on := 11, ground := Go.Ground.phase }, { on := 12, ground := Go.Ground.phase }, { on := 13, ground := Go.Ground.phase }], guard := none }) (v := .pointer (some ⟨D, 0, none⟩)) rfl rfl (by kernel_rfl) (by kernel_rfl) (by kernel_rfl) (by kernel_rfl) (fun _ _ _ h => h) (Or.inl ⟨by kernel_rfl, ?_⟩) rfl ?_
  · (intro X hX; subst hX <;> (go_simp; try (with_reducible rfl)))
  (try simp only [Act.put, List.setIfInBounds_toArray, List.set_cons_zero, List.set_cons_succ])
  refine wpAnyN_take (i := 6) (oi := { dst := some 51, op := Go.Op.fieldAddr 105 (Go.Operand.tmp 50) 0, type := 0, pos := "fetched.go:54", after := #[{ on := 5, ground := Go.Ground.data }], guard := none }) (oL := { dst := some 8, op := Go.Op.assign (Go.Operand.tmp 56), type := 4, pos := "fetched.go:54", after := #[{ on := 12, ground := Go.Ground.data }, { on := 13, ground := Go.Ground.chain }, { on := 0, ground := Go.Ground.phase }, { on := 1, ground := Go.Ground.phase }, { on := 2, ground := Go.Ground.phase }, { on := 3, ground := Go.Ground.phase }, { on := 4, ground := Go.Ground.phase }, { on := 5, ground := Go.Ground.phase }, { on := 6, ground := Go.Ground.phase }, { on := 7, ground := Go.Ground.phase }, { on := 8, ground := Go.Ground.phase }, { on := 9, ground := Go.Ground.phase }, { on := 10, ground := Go.Ground.phase }, { on := 11, ground := Go.Ground.phase }, { on := 12, ground := Go.Ground.phase }, { on := 13, ground := Go.Ground.phase }], guard := none }) (v := .pointer (some ⟨D, 0, none⟩)) rfl rfl (by kernel_rfl) (by kernel_rfl) (by kernel_rfl) (by kernel_rfl) (fun _ _ _ h => h) (Or.inl ⟨by kernel_rfl, ?_⟩) rfl ?_
  · (intro X hX; subst hX <;> (go_simp; try (with_reducible rfl)))
  (try simp only [Act.put, List.setIfInBounds_toArray, List.set_cons_zero, List.set_cons_succ])
  refine wpAnyN_take (i := 7) (oi := { dst := some 52, op := Go.Op.fieldAddr 98 (Go.Operand.tmp 51) 0, type := 0, pos := "fetched.go:54", after := #[{ on := 6, ground := Go.Ground.data }], guard := none }) (oL := { dst := some 8, op := Go.Op.assign (Go.Operand.tmp 56), type := 4, pos := "fetched.go:54", after := #[{ on := 12, ground := Go.Ground.data }, { on := 13, ground := Go.Ground.chain }, { on := 0, ground := Go.Ground.phase }, { on := 1, ground := Go.Ground.phase }, { on := 2, ground := Go.Ground.phase }, { on := 3, ground := Go.Ground.phase }, { on := 4, ground := Go.Ground.phase }, { on := 5, ground := Go.Ground.phase }, { on := 6, ground := Go.Ground.phase }, { on := 7, ground := Go.Ground.phase }, { on := 8, ground := Go.Ground.phase }, { on := 9, ground := Go.Ground.phase }, { on := 10, ground := Go.Ground.phase }, { on := 11, ground := Go.Ground.phase }, { on := 12, ground := Go.Ground.phase }, { on := 13, ground := Go.Ground.phase }], guard := none }) (v := .pointer (some ⟨D, 0, none⟩)) rfl rfl (by kernel_rfl) (by kernel_rfl) (by kernel_rfl) (by kernel_rfl) (fun _ _ _ h => h) (Or.inl ⟨by kernel_rfl, ?_⟩) rfl ?_
  · (intro X hX; subst hX <;> (go_simp; try (with_reducible rfl)))
  (try simp only [Act.put, List.setIfInBounds_toArray, List.set_cons_zero, List.set_cons_succ])
  refine wpAnyN_take (i := 8) (oi := { dst := some 53, op := Go.Op.load 3 (Go.Operand.tmp 52), type := 3, pos := "fetched.go:54", after := #[{ on := 7, ground := Go.Ground.data }], guard := none }) (oL := { dst := some 8, op := Go.Op.assign (Go.Operand.tmp 56), type := 4, pos := "fetched.go:54", after := #[{ on := 12, ground := Go.Ground.data }, { on := 13, ground := Go.Ground.chain }, { on := 0, ground := Go.Ground.phase }, { on := 1, ground := Go.Ground.phase }, { on := 2, ground := Go.Ground.phase }, { on := 3, ground := Go.Ground.phase }, { on := 4, ground := Go.Ground.phase }, { on := 5, ground := Go.Ground.phase }, { on := 6, ground := Go.Ground.phase }, { on := 7, ground := Go.Ground.phase }, { on := 8, ground := Go.Ground.phase }, { on := 9, ground := Go.Ground.phase }, { on := 10, ground := Go.Ground.phase }, { on := 11, ground := Go.Ground.phase }, { on := 12, ground := Go.Ground.phase }, { on := 13, ground := Go.Ground.phase }], guard := none }) (v := .int .i64 n) rfl rfl (by kernel_rfl) (by kernel_rfl) (by kernel_rfl) (by kernel_rfl) (fun _ _ _ h => h) (Or.inl ⟨by kernel_rfl, ?_⟩) rfl ?_
  · (intro X hX; subst hX <;> (go_simp; try (with_reducible rfl)))
  (try simp only [Act.put, List.setIfInBounds_toArray, List.set_cons_zero, List.set_cons_succ])
  refine wpAnyN_take (i := 9) (oi := { dst := some 54, op := Go.Op.lookup 71 (Go.Operand.tmp 48) (Go.Operand.tmp 53) true, type := 128, pos := "fetched.go:54", after := #[{ on := 3, ground := Go.Ground.data }, { on := 8, ground := Go.Ground.data }], guard := none }) (oL := { dst := some 8, op := Go.Op.assign (Go.Operand.tmp 56), type := 4, pos := "fetched.go:54", after := #[{ on := 12, ground := Go.Ground.data }, { on := 13, ground := Go.Ground.chain }, { on := 0, ground := Go.Ground.phase }, { on := 1, ground := Go.Ground.phase }, { on := 2, ground := Go.Ground.phase }, { on := 3, ground := Go.Ground.phase }, { on := 4, ground := Go.Ground.phase }, { on := 5, ground := Go.Ground.phase }, { on := 6, ground := Go.Ground.phase }, { on := 7, ground := Go.Ground.phase }, { on := 8, ground := Go.Ground.phase }, { on := 9, ground := Go.Ground.phase }, { on := 10, ground := Go.Ground.phase }, { on := 11, ground := Go.Ground.phase }, { on := 12, ground := Go.Ground.phase }, { on := 13, ground := Go.Ground.phase }], guard := none }) (v := .tuple #[.slice la ln lc, .bool false]) rfl rfl (by kernel_rfl) (by kernel_rfl) (by kernel_rfl) (by kernel_rfl) (fun _ _ _ h => h) (Or.inl ⟨by kernel_rfl, ?_⟩) rfl ?_
  · (intro X hX; subst hX <;> (go_simp; try (with_reducible rfl)))
  (try simp only [Act.put, List.setIfInBounds_toArray, List.set_cons_zero, List.set_cons_succ])
  refine wpAnyN_take (i := 10) (oi := { dst := some 44, op := Go.Op.move (Go.Operand.tmp 54), type := 128, pos := "fetched.go:54", after := #[{ on := 9, ground := Go.Ground.data }], guard := none }) (oL := { dst := some 8, op := Go.Op.assign (Go.Operand.tmp 56), type := 4, pos := "fetched.go:54", after := #[{ on := 12, ground := Go.Ground.data }, { on := 13, ground := Go.Ground.chain }, { on := 0, ground := Go.Ground.phase }, { on := 1, ground := Go.Ground.phase }, { on := 2, ground := Go.Ground.phase }, { on := 3, ground := Go.Ground.phase }, { on := 4, ground := Go.Ground.phase }, { on := 5, ground := Go.Ground.phase }, { on := 6, ground := Go.Ground.phase }, { on := 7, ground := Go.Ground.phase }, { on := 8, ground := Go.Ground.phase }, { on := 9, ground := Go.Ground.phase }, { on := 10, ground := Go.Ground.phase }, { on := 11, ground := Go.Ground.phase }, { on := 12, ground := Go.Ground.phase }, { on := 13, ground := Go.Ground.phase }], guard := none }) (v := .tuple #[.slice la ln lc, .bool false]) rfl rfl (by kernel_rfl) (by kernel_rfl) (by kernel_rfl) (by kernel_rfl) (fun _ _ _ h => h) (Or.inl ⟨by kernel_rfl, ?_⟩) rfl ?_
  · (intro X hX; subst hX <;> (go_simp; try (with_reducible rfl)))
  (try simp only [Act.put, List.setIfInBounds_toArray, List.set_cons_zero, List.set_cons_succ])
  refine wpAnyN_take (i := 11) (oi := { dst := some 55, op := Go.Op.extract (Go.Operand.tmp 44) 0, type := 27, pos := "fetched.go:54", after := #[{ on := 10, ground := Go.Ground.data }], guard := none }) (oL := { dst := some 8, op := Go.Op.assign (Go.Operand.tmp 56), type := 4, pos := "fetched.go:54", after := #[{ on := 12, ground := Go.Ground.data }, { on := 13, ground := Go.Ground.chain }, { on := 0, ground := Go.Ground.phase }, { on := 1, ground := Go.Ground.phase }, { on := 2, ground := Go.Ground.phase }, { on := 3, ground := Go.Ground.phase }, { on := 4, ground := Go.Ground.phase }, { on := 5, ground := Go.Ground.phase }, { on := 6, ground := Go.Ground.phase }, { on := 7, ground := Go.Ground.phase }, { on := 8, ground := Go.Ground.phase }, { on := 9, ground := Go.Ground.phase }, { on := 10, ground := Go.Ground.phase }, { on := 11, ground := Go.Ground.phase }, { on := 12, ground := Go.Ground.phase }, { on := 13, ground := Go.Ground.phase }], guard := none }) (v := .slice la ln lc) rfl rfl (by kernel_rfl) (by kernel_rfl) (by kernel_rfl) (by kernel_rfl) (fun _ _ _ h => h) (Or.inl ⟨by kernel_rfl, ?_⟩) rfl ?_
  · (intro X hX; subst hX <;> (go_simp; try (with_reducible rfl)))
  (try simp only [Act.put, List.setIfInBounds_toArray, List.set_cons_zero, List.set_cons_succ])
  refine wpAnyN_take (i := 12) (oi := { dst := some 56, op := Go.Op.extract (Go.Operand.tmp 44) 1, type := 4, pos := "fetched.go:54", after := #[{ on := 10, ground := Go.Ground.data }, { on := 13, ground := Go.Ground.gcOnly Go.Departure.lateStores }], guard := none }) (oL := { dst := some 8, op := Go.Op.assign (Go.Operand.tmp 56), type := 4, pos := "fetched.go:54", after := #[{ on := 12, ground := Go.Ground.data }, { on := 13, ground := Go.Ground.chain }, { on := 0, ground := Go.Ground.phase }, { on := 1, ground := Go.Ground.phase }, { on := 2, ground := Go.Ground.phase }, { on := 3, ground := Go.Ground.phase }, { on := 4, ground := Go.Ground.phase }, { on := 5, ground := Go.Ground.phase }, { on := 6, ground := Go.Ground.phase }, { on := 7, ground := Go.Ground.phase }, { on := 8, ground := Go.Ground.phase }, { on := 9, ground := Go.Ground.phase }, { on := 10, ground := Go.Ground.phase }, { on := 11, ground := Go.Ground.phase }, { on := 12, ground := Go.Ground.phase }, { on := 13, ground := Go.Ground.phase }], guard := none }) (v := .bool false) rfl rfl (by kernel_rfl) (by kernel_rfl) (by kernel_rfl) (by kernel_rfl) (fun _ _ _ h => h) (Or.inl ⟨by kernel_rfl, ?_⟩) rfl ?_
  · (intro X hX; subst hX <;> (go_simp; try (with_reducible rfl)))
  (try simp only [Act.put, List.setIfInBounds_toArray, List.set_cons_zero, List.set_cons_succ])
  refine wpAnyN_take (i := 13) (oi := { dst := some 7, op := Go.Op.assign (Go.Operand.tmp 55), type := 27, pos := "fetched.go:54", after := #[{ on := 11, ground := Go.Ground.data }, { on := 0, ground := Go.Ground.phase }, { on := 1, ground := Go.Ground.phase }, { on := 2, ground := Go.Ground.phase }, { on := 3, ground := Go.Ground.phase }, { on := 4, ground := Go.Ground.phase }, { on := 5, ground := Go.Ground.phase }, { on := 6, ground := Go.Ground.phase }, { on := 7, ground := Go.Ground.phase }, { on := 8, ground := Go.Ground.phase }, { on := 9, ground := Go.Ground.phase }, { on := 10, ground := Go.Ground.phase }, { on := 11, ground := Go.Ground.phase }, { on := 12, ground := Go.Ground.textOnly Go.Departure.lateStores }], guard := none }) (oL := { dst := some 8, op := Go.Op.assign (Go.Operand.tmp 56), type := 4, pos := "fetched.go:54", after := #[{ on := 12, ground := Go.Ground.data }, { on := 13, ground := Go.Ground.chain }, { on := 0, ground := Go.Ground.phase }, { on := 1, ground := Go.Ground.phase }, { on := 2, ground := Go.Ground.phase }, { on := 3, ground := Go.Ground.phase }, { on := 4, ground := Go.Ground.phase }, { on := 5, ground := Go.Ground.phase }, { on := 6, ground := Go.Ground.phase }, { on := 7, ground := Go.Ground.phase }, { on := 8, ground := Go.Ground.phase }, { on := 9, ground := Go.Ground.phase }, { on := 10, ground := Go.Ground.phase }, { on := 11, ground := Go.Ground.phase }, { on := 12, ground := Go.Ground.phase }, { on := 13, ground := Go.Ground.phase }], guard := none }) (v := .slice la ln lc) rfl rfl (by kernel_rfl) (by kernel_rfl) (by kernel_rfl) (by kernel_rfl) (fun _ _ _ h => h) (Or.inl ⟨by kernel_rfl, ?_⟩) rfl ?_
  · (intro X hX; subst hX <;> (go_simp; try (with_reducible rfl)))
  (try simp only [Act.put, List.setIfInBounds_toArray, List.set_cons_zero, List.set_cons_succ])
  refine wpAnyN_one (i := 14) (o := { dst := some 8, op := Go.Op.assign (Go.Operand.tmp 56), type := 4, pos := "fetched.go:54", after := #[{ on := 12, ground := Go.Ground.data }, { on := 13, ground := Go.Ground.chain }, { on := 0, ground := Go.Ground.phase }, { on := 1, ground := Go.Ground.phase }, { on := 2, ground := Go.Ground.phase }, { on := 3, ground := Go.Ground.phase }, { on := 4, ground := Go.Ground.phase }, { on := 5, ground := Go.Ground.phase }, { on := 6, ground := Go.Ground.phase }, { on := 7, ground := Go.Ground.phase }, { on := 8, ground := Go.Ground.phase }, { on := 9, ground := Go.Ground.phase }, { on := 10, ground := Go.Ground.phase }, { on := 11, ground := Go.Ground.phase }, { on := 12, ground := Go.Ground.phase }, { on := 13, ground := Go.Ground.phase }], guard := none }) (by kernel_rfl) rfl (fun K hK => ?_)
  go_simp
  refine hK.out _ _ (fun e => absurd (e.symm.trans (by kernel_rfl) : false = true) Bool.false_ne_true) ?_
  clear hK K
  (try simp only [Act.put, List.setIfInBounds_toArray, List.set_cons_zero, List.set_cons_succ])
  refine wpAnyN_of_H (S' := fun _ => True) _ _ _ _ (by kernel_rfl) ?_
  refine wpAnyH_done (by kernel_rfl) ?_ _
  clear hlook
  go_wp2_with fail
  go_ret
  obtain ⟨s1, s2, s4, hls⟩ := HS.out
  refine ⟨rfl, s1.drew, fun d' e => ?_⟩
  injection e with e
  subst e
  exact ⟨fv, s2, s4⟩
set_option maxRecDepth 20000 in
set_option maxHeartbeats 4000000 in
theorem uid_kept (P : Nat) (fr : List Nat) (M : PM) (B D : Nat) (i : Nat) (d : PD) (k n : Int) (t : ByteArray) (ka : Option Addr) (kn kc : Nat) (w : World) (h : MAt P fr M w) (hd : DrIn fr B D i d w) (hD : D ∉ fr) (hi : i < M.rows.length) (hrn : M.rows.length ≤ 1000000) (hnm : isNm k n 1 = true) (hu : d.r.uid = 0) (hf : fitsM M.rows i n = true) (f : List ByteArray) (hfw : M.was n = some f) (hkn : d.r.kn = true) : Calls Tryd.prog 61 #[.pointer (some ⟨P, 1, none⟩), .pointer (some ⟨D, 0, none⟩), .agg #[.int .i64 k, .int .i64 n, .string t, .slice ka kn kc]] w (LrO fr B D i (some ⟨⟨n, d.r.kn, d.r.fl⟩, d.h⟩) w) := by
  obtain ⟨Y, hY⟩ : ∃ Y, w.alloc (.cells #[.int .i64 k, .int .i64 n, .string t, .slice ka kn kc] 64) = Y := ⟨_, rfl⟩
  have b0 : Below w.heap.size w Y := by rw [← hY]; exact (Below.refl _ _).alloc (Nat.le_refl _) _
  have r0 : Y.heap[w.heap.size]? = some (.cells #[.int .i64 k, .int .i64 n, .string t, .slice ka kn kc] 64 (0, 0)) := by rw [← hY]; exact heap_new _ _
  obtain ⟨fv, hdf, hfl⟩ := hd
  have hDl := lt_of_heap hdf
  have HRG : Hid (Y.rangeAt w.heap.size 0 [.int .i64 k, .int .i64 n, .string t, .slice ka kn kc]) := Lib.hid (box_range (z := 4) (cs := [.int .i64 k, .int .i64 n, .string t, .slice ka kn kc]) r0 0)
  have HI : Hid (Calls Tryd.prog 59 #[.agg #[.int .i64 k, .int .i64 n, .string t, .slice ka kn kc], .int .i64 1] Y fun e w' => e = .returned (.bool (isNm k n 1)) ∧ Below Y.heap.size Y w') := Lib.hid (isNumber_any k n 1 t ka kn kc Y)
  have HX : Hid (∀ X, Below Y.heap.size Y X → X.cell? ⟨w.heap.size, 1, none⟩ = some (.int .i64 n) ∧ X.heap[D]? = some (dfO d.r.uid d.r.kn fv i d.h) ∧ Below w.heap.size w X) := Lib.hid (fun X hX => ⟨cell_of (bel_at hX (lt_of_heap r0) r0) 1, bel_at (b0.trans (hX.mono b0.size)) hDl hdf, b0.trans (hX.mono b0.size)⟩)
  rw [hnm] at HI
  rw [hu] at HX
  have hfrl := h.lt
  have HFt : Hid (∀ X, Below Y.heap.size Y X → Calls Tryd.prog 70 #[.pointer (some ⟨P, 1, none⟩), .int .i64 (i : Int), .int .i64 n] X fun e w' => e = .returned (.bool true) ∧ Below X.heap.size X w') := Lib.hid (fun X hX => by rw [← hf]; exact fits_M (h.bel (b0.trans (hX.mono b0.size))) i n hi hrn)
  have HZ : Hid (∀ X, Below Y.heap.size Y X → X.frozen? ⟨D, 0, none⟩ = false) := Lib.hid (fun X hX => df_fz (bel_at (b0.trans (hX.mono b0.size)) hDl hdf) 0)
  have HW2 : Hid (∀ X W2, Below Y.heap.size Y X → W2 = X.setCell ⟨D, 0, none⟩ (.int .i64 n) → Stays [D] w W2 ∧ W2.heap[D]? = some (dfO n d.r.kn fv i d.h) ∧ MAt P fr M W2 ∧ (StrsIn fr W2 fv d.r.fl ∨ StrsNew B W2 fv d.r.fl)) := Lib.hid (fun X W2 hX e => by
    subst e
    have hb := b0.trans (hX.mono b0.size)
    have kD := bel_at hb hDl hdf
    have hs : Stays [D] w (X.setCell ⟨D, 0, none⟩ (.int .i64 n)) := (Stays.ofBelow (fp := [D]) hb).setCell (.inl (by simp)) _
    refine ⟨hs, ?_, h.on (fun b hbf => hs.block b (hfrl b hbf) (fun hm => hD ((show b = D by simpa using hm) ▸ hbf))) hs.size, strs_turn hs hdf hD hfrl hfl⟩
    unfold dfO at kD ⊢
    rw [heap_setCell_at _ kD]
    rfl)
  have HKn := Lib.hid hkn
  have HFw := Lib.hid hfw
  have HDn := Lib.hid (And.intro hD hfrl)
  clear h hD hi hrn hnm hf hu hfrl hfw hkn
  have HY := Lib.hid hY
  clear hY b0 r0 hfl hdf hDl
  go_enter Tryd.func61, Tryd.ntmps61
  go_upto_region 1 with fail
  rw [HY.out]
  clear HY
  go_upto_region 3 with (first | (refine wpList_load_mid rfl 64 _ rfl w.heap.size 0 rfl [.int .i64 k, .int .i64 n, .string t, .slice ka kn kc] _ HRG.out Tryd.underlying64 rfl Tryd.sizeVl ?_) | (go_at_call 59; refine HI.out.mono ?_; rintro e w3 ⟨rfl, hb3⟩; have HB3 := Lib.hid hb3; clear hb3))
  obtain ⟨x1, x2, x3⟩ := HX.out _ HB3.out
  obtain ⟨y0, _, _, y3, _⟩ := df_cells x2
  have HBX := Lib.hid x3
  clear x2 x3
  go_upto_region 5 with fail
  refine wp_region_N 7 (fun X => X = w3.drew) (by kernel_rfl) ?_
  refine wpAnyN_take (i := 0) (oi := { dst := some 29, op := Go.Op.move (Go.Operand.tmp 0), type := 96, pos := "fetched.go:50", after := #[], guard := none }) (oL := { dst := some 36, op := Go.Op.call { callee := Go.Callee.value (Go.Operand.func 70), args := #[Go.Operand.tmp 29, Go.Operand.tmp 33, Go.Operand.tmp 35], argTypes := #[96, 3, 3] }, type := 4, pos := "fetched.go:50", after := #[{ on := 0, ground := Go.Ground.data }, { on := 4, ground := Go.Ground.data }, { on := 6, ground := Go.Ground.data }], guard := none }) (v := .pointer (some ⟨P, 1, none⟩)) rfl rfl (by kernel_rfl) (by kernel_rfl) (by kernel_rfl) (by kernel_rfl) (fun _ _ _ h => h) (Or.inl ⟨by kernel_rfl, ?_⟩) rfl ?_
  · (intro X hX; subst hX <;> (go_simp; try (with_reducible rfl)))
  (try simp only [Act.put, List.setIfInBounds_toArray, List.set_cons_zero, List.set_cons_succ])
  refine wpAnyN_take (i := 1) (oi := { dst := some 30, op := Go.Op.move (Go.Operand.tmp 1), type := 107, pos := "fetched.go:50", after := #[], guard := none }) (oL := { dst := some 36, op := Go.Op.call { callee := Go.Callee.value (Go.Operand.func 70), args := #[Go.Operand.tmp 29, Go.Operand.tmp 33, Go.Operand.tmp 35], argTypes := #[96, 3, 3] }, type := 4, pos := "fetched.go:50", after := #[{ on := 0, ground := Go.Ground.data }, { on := 4, ground := Go.Ground.data }, { on := 6, ground := Go.Ground.data }], guard := none }) (v := .pointer (some ⟨D, 0, none⟩)) rfl rfl (by kernel_rfl) (by kernel_rfl) (by kernel_rfl) (by kernel_rfl) (fun _ _ _ h => h) (Or.inl ⟨by kernel_rfl, ?_⟩) rfl ?_
  · (intro X hX; subst hX <;> (go_simp; try (with_reducible rfl)))
  (try simp only [Act.put, List.setIfInBounds_toArray, List.set_cons_zero, List.set_cons_succ])
  refine wpAnyN_take (i := 2) (oi := { dst := some 31, op := Go.Op.nilCheck (Go.Operand.tmp 30), type := 0, pos := "fetched.go:50", after := #[{ on := 1, ground := Go.Ground.data }], guard := none }) (oL := { dst := some 36, op := Go.Op.call { callee := Go.Callee.value (Go.Operand.func 70), args := #[Go.Operand.tmp 29, Go.Operand.tmp 33, Go.Operand.tmp 35], argTypes := #[96, 3, 3] }, type := 4, pos := "fetched.go:50", after := #[{ on := 0, ground := Go.Ground.data }, { on := 4, ground := Go.Ground.data }, { on := 6, ground := Go.Ground.data }], guard := none }) (v := .pointer (some ⟨D, 0, none⟩)) rfl rfl (by kernel_rfl) (by kernel_rfl) (by kernel_rfl) (by kernel_rfl) (fun _ _ _ h => h) (Or.inl ⟨by kernel_rfl, ?_⟩) rfl ?_
  · (intro X hX; subst hX <;> (go_simp; try (with_reducible rfl)))
  (try simp only [Act.put, List.setIfInBounds_toArray, List.set_cons_zero, List.set_cons_succ])
  refine wpAnyN_take (i := 3) (oi := { dst := some 32, op := Go.Op.fieldAddr 105 (Go.Operand.tmp 31) 1, type := 0, pos := "fetched.go:50", after := #[{ on := 2, ground := Go.Ground.data }], guard := none }) (oL := { dst := some 36, op := Go.Op.call { callee := Go.Callee.value (Go.Operand.func 70), args := #[Go.Operand.tmp 29, Go.Operand.tmp 33, Go.Operand.tmp 35], argTypes := #[96, 3, 3] }, type := 4, pos := "fetched.go:50", after := #[{ on := 0, ground := Go.Ground.data }, { on := 4, ground := Go.Ground.data }, { on := 6, ground := Go.Ground.data }], guard := none }) (v := .pointer (some ⟨D, 3, none⟩)) rfl rfl (by kernel_rfl) (by kernel_rfl) (by kernel_rfl) (by kernel_rfl) (fun _ _ _ h => h) (Or.inl ⟨by kernel_rfl, ?_⟩) rfl ?_
  · (intro X hX; subst hX <;> (go_simp; try (with_reducible rfl)))
  (try simp only [Act.put, List.setIfInBounds_toArray, List.set_cons_zero, List.set_cons_succ])
  refine wpAnyN_take (i := 4) (oi := { dst := some 33, op := Go.Op.load 3 (Go.Operand.tmp 32), type := 3, pos := "fetched.go:50", after := #[{ on := 3, ground := Go.Ground.data }], guard := none }) (oL := { dst := some 36, op := Go.Op.call { callee := Go.Callee.value (Go.Operand.func 70), args := #[Go.Operand.tmp 29, Go.Operand.tmp 33, Go.Operand.tmp 35], argTypes := #[96, 3, 3] }, type := 4, pos := "fetched.go:50", after := #[{ on := 0, ground := Go.Ground.data }, { on := 4, ground := Go.Ground.data }, { on := 6, ground := Go.Ground.data }], guard := none }) (v := .int .i64 (i : Int)) rfl rfl (by kernel_rfl) (by kernel_rfl) (by kernel_rfl) (by kernel_rfl) (fun _ _ _ h => h) (Or.inl ⟨by kernel_rfl, ?_⟩) rfl ?_
  · (intro X hX; subst hX <;> (go_simp; try (with_reducible rfl)))
  (try simp only [Act.put, List.setIfInBounds_toArray, List.set_cons_zero, List.set_cons_succ])
  refine wpAnyN_take (i := 5) (oi := { dst := some 34, op := Go.Op.fieldAddr 64 (Go.Operand.tmp 5) 1, type := 0, pos := "fetched.go:50", after := #[], guard := none }) (oL := { dst := some 36, op := Go.Op.call { callee := Go.Callee.value (Go.Operand.func 70), args := #[Go.Operand.tmp 29, Go.Operand.tmp 33, Go.Operand.tmp 35], argTypes := #[96, 3, 3] }, type := 4, pos := "fetched.go:50", after := #[{ on := 0, ground := Go.Ground.data }, { on := 4, ground := Go.Ground.data }, { on := 6, ground := Go.Ground.data }], guard := none }) (v := .pointer (some ⟨w.heap.size, 1, none⟩)) rfl rfl (by kernel_rfl) (by kernel_rfl) (by kernel_rfl) (by kernel_rfl) (fun _ _ _ h => h) (Or.inl ⟨by kernel_rfl, ?_⟩) rfl ?_
  · (intro X hX; subst hX <;> (go_simp; try (with_reducible rfl)))
  (try simp only [Act.put, List.setIfInBounds_toArray, List.set_cons_zero, List.set_cons_succ])
  refine wpAnyN_take (i := 6) (oi := { dst := some 35, op := Go.Op.load 3 (Go.Operand.tmp 34), type := 3, pos := "fetched.go:50", after := #[{ on := 5, ground := Go.Ground.data }], guard := none }) (oL := { dst := some 36, op := Go.Op.call { callee := Go.Callee.value (Go.Operand.func 70), args := #[Go.Operand.tmp 29, Go.Operand.tmp 33, Go.Operand.tmp 35], argTypes := #[96, 3, 3] }, type := 4, pos := "fetched.go:50", after := #[{ on := 0, ground := Go.Ground.data }, { on := 4, ground := Go.Ground.data }, { on := 6, ground := Go.Ground.data }], guard := none }) (v := .int .i64 n) rfl rfl (by kernel_rfl) (by kernel_rfl) (by kernel_rfl) (by kernel_rfl) (fun _ _ _ h => h) (Or.inl ⟨by kernel_rfl, ?_⟩) rfl ?_
  · (intro X hX; subst hX <;> (go_simp; try (with_reducible rfl)))
  (try simp only [Act.put, List.setIfInBounds_toArray, List.set_cons_zero, List.set_cons_succ])
  refine wpAnyN_one (i := 7) (o := { dst := some 36, op := Go.Op.call { callee := Go.Callee.value (Go.Operand.func 70), args := #[Go.Operand.tmp 29, Go.Operand.tmp 33, Go.Operand.tmp 35], argTypes := #[96, 3, 3] }, type := 4, pos := "fetched.go:50", after := #[{ on := 0, ground := Go.Ground.data }, { on := 4, ground := Go.Ground.data }, { on := 6, ground := Go.Ground.data }], guard := none }) (by kernel_rfl) rfl (fun K hK => ?_)
  go_simp
  refine (HFt.out _ HB3.out.drew).mono ?_
  rintro e w4 ⟨rfl, hb4⟩
  have HB4 := Lib.hid hb4
  clear hb4
  refine hK.out _ _ (fun e => absurd (e.symm.trans (by kernel_rfl) : false = true) Bool.false_ne_true) ?_
  clear hK K
  (try simp only [Act.put, List.setIfInBounds_toArray, List.set_cons_zero, List.set_cons_succ])
  refine wpAnyN_of_H (S' := fun _ => True) _ _ _ _ (by kernel_rfl) ?_
  refine wpAnyH_take (i := 8) (oi := { dst := some 37, op := Go.Op.unOp Go.UnOp.not 4 (Go.Operand.tmp 36), type := 4, pos := "fetched.go:50", after := #[{ on := 7, ground := Go.Ground.data }], guard := none }) (v := .bool false) rfl (by kernel_rfl) (by kernel_rfl) (by kernel_rfl) (fun _ _ _ h => h) (Or.inl ⟨by kernel_rfl, ?_⟩) trivial ?_
  · (intro X hX; go_simp; try (with_reducible rfl))
  (try simp only [Act.put, List.setIfInBounds_toArray, List.set_cons_zero, List.set_cons_succ])
  refine wpAnyH_take (i := 9) (oi := { dst := some 28, op := Go.Op.assign (Go.Operand.tmp 37), type := 4, pos := "fetched.go:50", after := #[{ on := 8, ground := Go.Ground.data }, { on := 7, ground := Go.Ground.chain }], guard := none }) (v := .bool false) rfl (by kernel_rfl) (by kernel_rfl) (by kernel_rfl) (fun _ _ _ h => h) (Or.inl ⟨by kernel_rfl, ?_⟩) trivial ?_
  · (intro X hX; go_simp; try (with_reducible rfl))
  (try simp only [Act.put, List.setIfInBounds_toArray, List.set_cons_zero, List.set_cons_succ])
  refine wpAnyH_done (by kernel_rfl) ?_ _
  have hb4 : Below Y.heap.size Y w4 := HB3.out.drew.trans (HB4.out.mono HB3.out.size)
  obtain ⟨q1, q2, q3⟩ := HX.out _ hb4
  obtain ⟨p0, _, _, _, _⟩ := df_cells q2
  have z0 := HZ.out _ hb4
  have HB5 := Lib.hid hb4
  clear q2 q3 hb4 x1 y0 y3
  go_upto_region 8 with fail
  refine wp_gen (fun W2 hW2 => ?_)
  obtain ⟨s1, s2, s3, s4⟩ := HW2.out _ _ HB5.out hW2
  obtain ⟨qv, rowsV, was, hM, _, _, hWs⟩ := s3.ex
  obtain ⟨la, ln, lc, lb, hlook, hlb, hls⟩ := look_in (X := W2.drew) (hWs : WasIn fr W2.drew was M.was) n
  rw [HFw.out] at hlb hls
  obtain rfl : lb = true := hlb
  have m6 := (mir_cells hM).c6
  obtain ⟨e0, e1, e2, e3, e4⟩ := df_cells s2
  have g1 := df_fz s2 1
  have g2 := df_fz s2 2
  have HS := Lib.hid (And.intro s1 (And.intro s2 (And.intro s4 hls)))
  clear hW2 s1 s2 s3 s4 hM hWs hls p0 z0 q1
  refine wp_region_N 14 (fun X => X = W2.drew) (by kernel_rfl) ?_
  refine wpAnyN_take (i := 0) (oi := { dst := some 45, op := Go.Op.move (Go.Operand.tmp 0), type := 96, pos := "fetched.go:54", after := #[], guard := none }) (oL := { dst := some 8, op := Go.Op.assign (Go.Operand.tmp 56), type := 4, pos := "fetched.go:54", after := #[{ on := 12, ground := Go.Ground.data }, { on := 13, ground := Go.Ground.chain }, { on := 0, ground := Go.Ground.phase }, { on := 1, ground := Go.Ground.phase }, { on := 2, ground := Go.Ground.phase }, { on := 3, ground := Go.Ground.phase }, { on := 4, ground := Go.Ground.phase }, { on := 5, ground := Go.Ground.phase }, { on := 6, ground := Go.Ground.phase }, { on := 7, ground := Go.Ground.phase }, { on := 8, ground := Go.Ground.phase }, { on := 9, ground := Go.Ground.phase }, { on := 10, ground := Go.Ground.phase }, { on := 11, ground := Go.Ground.phase }, { on := 12, ground := Go.Ground.phase }, { on := 13, ground := Go.Ground.phase }], guard := none }) (v := .pointer (some ⟨P, 1, none⟩)) rfl rfl (by kernel_rfl) (by kernel_rfl) (by kernel_rfl) (by kernel_rfl) (fun _ _ _ h => h) (Or.inl ⟨by kernel_rfl, ?_⟩) rfl ?_
  · (intro X hX; subst hX <;> (go_simp; try (with_reducible rfl)))
  (try simp only [Act.put, List.setIfInBounds_toArray, List.set_cons_zero, List.set_cons_succ])
  refine wpAnyN_take (i := 1) (oi := { dst := some 46, op := Go.Op.nilCheck (Go.Operand.tmp 45), type := 0, pos := "fetched.go:54", after := #[{ on := 0, ground := Go.Ground.data }], guard := none }) (oL := { dst := some 8, op := Go.Op.assign (Go.Operand.tmp 56), type := 4, pos := "fetched.go:54", after := #[{ on := 12, ground := Go.Ground.data }, { on := 13, ground := Go.Ground.chain }, { on := 0, ground := Go.Ground.phase }, { on := 1, ground := Go.Ground.phase }, { on := 2, ground := Go.Ground.phase }, { on := 3, ground := Go.Ground.phase }, { on := 4, ground := Go.Ground.phase }, { on := 5, ground := Go.Ground.phase }, { on := 6, ground := Go.Ground.phase }, { on := 7, ground := Go.Ground.phase }, { on := 8, ground := Go.Ground.phase }, { on := 9, ground := Go.Ground.phase }, { on := 10, ground := Go.Ground.phase }, { on := 11, ground := Go.Ground.phase }, { on := 12, ground := Go.Ground.phase }, { on := 13, ground := Go.Ground.phase }], guard := none }) (v := .pointer (some ⟨P, 1, none⟩)) rfl rfl (by kernel_rfl) (by kernel_rfl) (by kernel_rfl) (by kernel_rfl) (fun _ _ _ h => h) (Or.inl ⟨by kernel_rfl, ?_⟩) rfl ?_
  · (intro X hX; subst hX <;> (go_simp; try (with_reducible rfl)))
  (try simp only [Act.put, List.setIfInBounds_toArray, List.set_cons_zero, List.set_cons_succ])
  refine wpAnyN_take (i := 2) (oi := { dst := some 47, op := Go.Op.fieldAddr 73 (Go.Operand.tmp 46) 5, type := 0, pos := "fetched.go:54", after := #[{ on := 1, ground := Go.Ground.data }], guard := none }) (oL := { dst := some 8, op := Go.Op.assign (Go.Operand.tmp 56), type := 4, pos := "fetched.go:54", after := #[{ on := 12, ground := Go.Ground.data }, { on := 13, ground := Go.Ground.chain }, { on := 0, ground := Go.Ground.phase }, { on := 1, ground := Go.Ground.phase }, { on := 2, ground := Go.Ground.phase }, { on := 3, ground := Go.Ground.phase }, { on := 4, ground := Go.Ground.phase }, { on := 5, ground := Go.Ground.phase }, { on := 6, ground := Go.Ground.phase }, { on := 7, ground := Go.Ground.phase }, { on := 8, ground := Go.Ground.phase }, { on := 9, ground := Go.Ground.phase }, { on := 10, ground := Go.Ground.phase }, { on := 11, ground := Go.Ground.phase }, { on := 12, ground := Go.Ground.phase }, { on := 13, ground := Go.Ground.phase }], guard := none }) (v := .pointer (some ⟨P, 6, none⟩)) rfl rfl (by kernel_rfl) (by kernel_rfl) (by kernel_rfl) (by kernel_rfl) (fun _ _ _ h => h) (Or.inl ⟨by kernel_rfl, ?_⟩) rfl ?_
  · (intro X hX; subst hX <;> (go_simp; try (with_reducible rfl)))
  (try simp only [Act.put, List.setIfInBounds_toArray, List.set_cons_zero, List.set_cons_succ])
  refine wpAnyN_take (i := 3) (oi := { dst := some 48, op := Go.Op.load 71 (Go.Operand.tmp 47), type := 71, pos := "fetched.go:54", after := #[{ on := 2, ground := Go.Ground.data }], guard := none }) (oL := { dst := some 8, op := Go.Op.assign (Go.Operand.tmp 56), type := 4, pos := "fetched.go:54", after := #[{ on := 12, ground := Go.Ground.data }, { on := 13, ground := Go.Ground.chain }, { on := 0, ground := Go.Ground.phase }, { on := 1, ground := Go.Ground.phase }, { on := 2, ground := Go.Ground.phase }, { on := 3, ground := Go.Ground.phase }, { on := 4, ground := Go.Ground.phase }, { on := 5, ground := Go.Ground.phase }, { on := 6, ground := Go.Ground.phase }, { on := 7, ground := Go.Ground.phase }, { on := 8, ground := Go.Ground.phase }, { on := 9, ground := Go.Ground.phase }, { on := 10, ground := Go.Ground.phase }, { on := 11, ground := Go.Ground.phase }, { on := 12, ground := Go.Ground.phase }, { on := 13, ground := Go.Ground.phase }], guard := none }) (v := was) rfl rfl (by kernel_rfl) (by kernel_rfl) (by kernel_rfl) (by kernel_rfl) (fun _ _ _ h => h) (Or.inl ⟨by kernel_rfl, ?_⟩) rfl ?_
  · (intro X hX; subst hX <;> (go_simp; try (with_reducible rfl)))
  (try simp only [Act.put, List.setIfInBounds_toArray, List.set_cons_zero, List.set_cons_succ])
  refine wpAnyN_take (i := 4) (oi := { dst := some 49, op := Go.Op.move (Go.Operand.tmp 1), type := 107, pos := "fetched.go:54", after := #[], guard := none }) (oL := { dst := some 8, op := Go.Op.assign (Go.Operand.tmp 56), type := 4, pos := "fetched.go:54", after := #[{ on := 12, ground := Go.Ground.data }, { on := 13, ground := Go.Ground.chain }, { on := 0, ground := Go.Ground.phase }, { on := 1, ground := Go.Ground.phase }, { on := 2, ground := Go.Ground.phase }, { on := 3, ground := Go.Ground.phase }, { on := 4, ground := Go.Ground.phase }, { on := 5, ground := Go.Ground.phase }, { on := 6, ground := Go.Ground.phase }, { on := 7, ground := Go.Ground.phase }, { on := 8, ground := Go.Ground.phase }, { on := 9, ground := Go.Ground.phase }, { on := 10, ground := Go.Ground.phase }, { on := 11, ground := Go.Ground.phase }, { on := 12, ground := Go.Ground.phase }, { on := 13, ground := Go.Ground.phase }], guard := none }) (v := .pointer (some ⟨D, 0, none⟩)) rfl rfl (by kernel_rfl) (by kernel_rfl) (by kernel_rfl) (by kernel_rfl) (fun _ _ _ h => h) (Or.inl ⟨by kernel_rfl, ?_⟩) rfl ?_
  · (intro X hX; subst hX <;> (go_simp; try (with_reducible rfl)))
  (try simp only [Act.put, List.setIfInBounds_toArray, List.set_cons_zero, List.set_cons_succ])
  refine wpAnyN_take (i := 5) (oi := { dst := some 50, op := Go.Op.nilCheck (Go.Operand.tmp 49), type := 0, pos := "fetched.go:54", after := #[{ on := 4, ground := Go.Ground.data }], guard := none }) (oL := { dst := some 8, op := Go.Op.assign (Go.Operand.tmp 56), type := 4, pos := "fetched.go:54", after := #[{ on := 12, ground := Go.Ground.data }, { on := 13, ground := Go.Ground.chain }, { on := 0, ground := Go.Ground.phase }, { on := 1, ground := Go.Ground.phase }, { on := 2, ground := Go.Ground.phase }, { on := 3, ground := Go.Ground.phase }, { on := 4, ground := Go.Ground.phase }, { on := 5, ground := Go.Ground.phase }, { on := 6, ground := Go.Ground.phase }, { on := 7, ground := Go.Ground.phase }, { on := 8, ground := Go.Ground.phase }, { on := 9, ground := Go.Ground.phase }, { on := 10, ground := Go.Ground.phase }, { on := 11, ground := Go.Ground.phase }, { on := 12, ground := Go.Ground.phase }, { on := 13, ground := Go.Ground.phase }], guard := none }) (v := .pointer (some ⟨D, 0, none⟩)) rfl rfl (by kernel_rfl) (by kernel_rfl) (by kernel_rfl) (by kernel_rfl) (fun _ _ _ h => h) (Or.inl ⟨by kernel_rfl, ?_⟩) rfl ?_
  · (intro X hX; subst hX <;> (go_simp; try (with_reducible rfl)))
  (try simp only [Act.put, List.setIfInBounds_toArray, List.set_cons_zero, List.set_cons_succ])
  refine wpAnyN_take (i := 6) (oi := { dst := some 51, op := Go.Op.fieldAddr 105 (Go.Operand.tmp 50) 0, type := 0, pos := "fetched.go:54", after := #[{ on := 5, ground := Go.Ground.data }], guard := none }) (oL := { dst := some 8, op := Go.Op.assign (Go.Operand.tmp 56), type := 4, pos := "fetched.go:54", after := #[{ on := 12, ground := Go.Ground.data }, { on := 13, ground := Go.Ground.chain }, { on := 0, ground := Go.Ground.phase }, { on := 1, ground := Go.Ground.phase }, { on := 2, ground := Go.Ground.phase }, { on := 3, ground := Go.Ground.phase }, { on := 4, ground := Go.Ground.phase }, { on := 5, ground := Go.Ground.phase }, { on := 6, ground := Go.Ground.phase }, { on := 7, ground := Go.Ground.phase }, { on := 8, ground := Go.Ground.phase }, { on := 9, ground := Go.Ground.phase }, { on := 10, ground := Go.Ground.phase }, { on := 11, ground := Go.Ground.phase }, { on := 12, ground := Go.Ground.phase }, { on := 13, ground := Go.Ground.phase }], guard := none }) (v := .pointer (some ⟨D, 0, none⟩)) rfl rfl (by kernel_rfl) (by kernel_rfl) (by kernel_rfl) (by kernel_rfl) (fun _ _ _ h => h) (Or.inl ⟨by kernel_rfl, ?_⟩) rfl ?_
  · (intro X hX; subst hX <;> (go_simp; try (with_reducible rfl)))
  (try simp only [Act.put, List.setIfInBounds_toArray, List.set_cons_zero, List.set_cons_succ])
  refine wpAnyN_take (i := 7) (oi := { dst := some 52, op := Go.Op.fieldAddr 98 (Go.Operand.tmp 51) 0, type := 0, pos := "fetched.go:54", after := #[{ on := 6, ground := Go.Ground.data }], guard := none }) (oL := { dst := some 8, op := Go.Op.assign (Go.Operand.tmp 56), type := 4, pos := "fetched.go:54", after := #[{ on := 12, ground := Go.Ground.data }, { on := 13, ground := Go.Ground.chain }, { on := 0, ground := Go.Ground.phase }, { on := 1, ground := Go.Ground.phase }, { on := 2, ground := Go.Ground.phase }, { on := 3, ground := Go.Ground.phase }, { on := 4, ground := Go.Ground.phase }, { on := 5, ground := Go.Ground.phase }, { on := 6, ground := Go.Ground.phase }, { on := 7, ground := Go.Ground.phase }, { on := 8, ground := Go.Ground.phase }, { on := 9, ground := Go.Ground.phase }, { on := 10, ground := Go.Ground.phase }, { on := 11, ground := Go.Ground.phase }, { on := 12, ground := Go.Ground.phase }, { on := 13, ground := Go.Ground.phase }], guard := none }) (v := .pointer (some ⟨D, 0, none⟩)) rfl rfl (by kernel_rfl) (by kernel_rfl) (by kernel_rfl) (by kernel_rfl) (fun _ _ _ h => h) (Or.inl ⟨by kernel_rfl, ?_⟩) rfl ?_
  · (intro X hX; subst hX <;> (go_simp; try (with_reducible rfl)))
  (try simp only [Act.put, List.setIfInBounds_toArray, List.set_cons_zero, List.set_cons_succ])
  refine wpAnyN_take (i := 8) (oi := { dst := some 53, op := Go.Op.load 3 (Go.Operand.tmp 52), type := 3, pos := "fetched.go:54", after := #[{ on := 7, ground := Go.Ground.data }], guard := none }) (oL := { dst := some 8, op := Go.Op.assign (Go.Operand.tmp 56), type := 4, pos := "fetched.go:54", after := #[{ on := 12, ground := Go.Ground.data }, { on := 13, ground := Go.Ground.chain }, { on := 0, ground := Go.Ground.phase }, { on := 1, ground := Go.Ground.phase }, { on := 2, ground := Go.Ground.phase }, { on := 3, ground := Go.Ground.phase }, { on := 4, ground := Go.Ground.phase }, { on := 5, ground := Go.Ground.phase }, { on := 6, ground := Go.Ground.phase }, { on := 7, ground := Go.Ground.phase }, { on := 8, ground := Go.Ground.phase }, { on := 9, ground := Go.Ground.phase }, { on := 10, ground := Go.Ground.phase }, { on := 11, ground := Go.Ground.phase }, { on := 12, ground := Go.Ground.phase }, { on := 13, ground := Go.Ground.phase }], guard := none }) (v := .int .i64 n) rfl rfl (by kernel_rfl) (by kernel_rfl) (by kernel_rfl) (by kernel_rfl) (fun _ _ _ h => h) (Or.inl ⟨by kernel_rfl, ?_⟩) rfl ?_
  · (intro X hX; subst hX <;> (go_simp; try (with_reducible rfl)))
  (try simp only [Act.put, List.setIfInBounds_toArray, List.set_cons_zero, List.set_cons_succ])
  refine wpAnyN_take (i := 9) (oi := { dst := some 54, op := Go.Op.lookup 71 (Go.Operand.tmp 48) (Go.Operand.tmp 53) true, type := 128, pos := "fetched.go:54", after := #[{ on := 3, ground := Go.Ground.data }, { on := 8, ground := Go.Ground.data }], guard := none }) (oL := { dst := some 8, op := Go.Op.assign (Go.Operand.tmp 56), type := 4, pos := "fetched.go:54", after := #[{ on := 12, ground := Go.Ground.data }, { on := 13, ground := Go.Ground.chain }, { on := 0, ground := Go.Ground.phase }, { on := 1, ground := Go.Ground.phase }, { on := 2, ground := Go.Ground.phase }, { on := 3, ground := Go.Ground.phase }, { on := 4, ground := Go.Ground.phase }, { on := 5, ground := Go.Ground.phase }, { on := 6, ground := Go.Ground.phase }, { on := 7, ground := Go.Ground.phase }, { on := 8, ground := Go.Ground.phase }, { on := 9, ground := Go.Ground.phase }, { on := 10, ground := Go.Ground.phase }, { on := 11, ground := Go.Ground.phase }, { on := 12, ground := Go.Ground.phase }, { on := 13, ground := Go.Ground.phase }], guard := none }) (v := .tuple #[.slice la ln lc, .bool true]) rfl rfl (by kernel_rfl) (by kernel_rfl) (by kernel_rfl) (by kernel_rfl) (fun _ _ _ h => h) (Or.inl ⟨by kernel_rfl, ?_⟩) rfl ?_
  · (intro X hX; subst hX <;> (go_simp; try (with_reducible rfl)))
  (try simp only [Act.put, List.setIfInBounds_toArray, List.set_cons_zero, List.set_cons_succ])
  refine wpAnyN_take (i := 10) (oi := { dst := some 44, op := Go.Op.move (Go.Operand.tmp 54), type := 128, pos := "fetched.go:54", after := #[{ on := 9, ground := Go.Ground.data }], guard := none }) (oL := { dst := some 8, op := Go.Op.assign (Go.Operand.tmp 56), type := 4, pos := "fetched.go:54", after := #[{ on := 12, ground := Go.Ground.data }, { on := 13, ground := Go.Ground.chain }, { on := 0, ground := Go.Ground.phase }, { on := 1, ground := Go.Ground.phase }, { on := 2, ground := Go.Ground.phase }, { on := 3, ground := Go.Ground.phase }, { on := 4, ground := Go.Ground.phase }, { on := 5, ground := Go.Ground.phase }, { on := 6, ground := Go.Ground.phase }, { on := 7, ground := Go.Ground.phase }, { on := 8, ground := Go.Ground.phase }, { on := 9, ground := Go.Ground.phase }, { on := 10, ground := Go.Ground.phase }, { on := 11, ground := Go.Ground.phase }, { on := 12, ground := Go.Ground.phase }, { on := 13, ground := Go.Ground.phase }], guard := none }) (v := .tuple #[.slice la ln lc, .bool true]) rfl rfl (by kernel_rfl) (by kernel_rfl) (by kernel_rfl) (by kernel_rfl) (fun _ _ _ h => h) (Or.inl ⟨by kernel_rfl, ?_⟩) rfl ?_
  · (intro X hX; subst hX <;> (go_simp; try (with_reducible rfl)))
  (try simp only [Act.put, List.setIfInBounds_toArray, List.set_cons_zero, List.set_cons_succ])
  refine wpAnyN_take (i := 11) (oi := { dst := some 55, op := Go.Op.extract (Go.Operand.tmp 44) 0, type := 27, pos := "fetched.go:54", after := #[{ on := 10, ground := Go.Ground.data }], guard := none }) (oL := { dst := some 8, op := Go.Op.assign (Go.Operand.tmp 56), type := 4, pos := "fetched.go:54", after := #[{ on := 12, ground := Go.Ground.data }, { on := 13, ground := Go.Ground.chain }, { on := 0, ground := Go.Ground.phase }, { on := 1, ground := Go.Ground.phase }, { on := 2, ground := Go.Ground.phase }, { on := 3, ground := Go.Ground.phase }, { on := 4, ground := Go.Ground.phase }, { on := 5, ground := Go.Ground.phase }, { on := 6, ground := Go.Ground.phase }, { on := 7, ground := Go.Ground.phase }, { on := 8, ground := Go.Ground.phase }, { on := 9, ground := Go.Ground.phase }, { on := 10, ground := Go.Ground.phase }, { on := 11, ground := Go.Ground.phase }, { on := 12, ground := Go.Ground.phase }, { on := 13, ground := Go.Ground.phase }], guard := none }) (v := .slice la ln lc) rfl rfl (by kernel_rfl) (by kernel_rfl) (by kernel_rfl) (by kernel_rfl) (fun _ _ _ h => h) (Or.inl ⟨by kernel_rfl, ?_⟩) rfl ?_
  · (intro X hX; subst hX <;> (go_simp; try (with_reducible rfl)))
  (try simp only [Act.put, List.setIfInBounds_toArray, List.set_cons_zero, List.set_cons_succ])
  refine wpAnyN_take (i := 12) (oi := { dst := some 56, op := Go.Op.extract (Go.Operand.tmp 44) 1, type := 4, pos := "fetched.go:54", after := #[{ on := 10, ground := Go.Ground.data }, { on := 13, ground := Go.Ground.gcOnly Go.Departure.lateStores }], guard := none }) (oL := { dst := some 8, op := Go.Op.assign (Go.Operand.tmp 56), type := 4, pos := "fetched.go:54", after := #[{ on := 12, ground := Go.Ground.data }, { on := 13, ground := Go.Ground.chain }, { on := 0, ground := Go.Ground.phase }, { on := 1, ground := Go.Ground.phase }, { on := 2, ground := Go.Ground.phase }, { on := 3, ground := Go.Ground.phase }, { on := 4, ground := Go.Ground.phase }, { on := 5, ground := Go.Ground.phase }, { on := 6, ground := Go.Ground.phase }, { on := 7, ground := Go.Ground.phase }, { on := 8, ground := Go.Ground.phase }, { on := 9, ground := Go.Ground.phase }, { on := 10, ground := Go.Ground.phase }, { on := 11, ground := Go.Ground.phase }, { on := 12, ground := Go.Ground.phase }, { on := 13, ground := Go.Ground.phase }], guard := none }) (v := .bool true) rfl rfl (by kernel_rfl) (by kernel_rfl) (by kernel_rfl) (by kernel_rfl) (fun _ _ _ h => h) (Or.inl ⟨by kernel_rfl, ?_⟩) rfl ?_
  · (intro X hX; subst hX <;> (go_simp; try (with_reducible rfl)))
  (try simp only [Act.put, List.setIfInBounds_toArray, List.set_cons_zero, List.set_cons_succ])
  refine wpAnyN_take (i := 13) (oi := { dst := some 7, op := Go.Op.assign (Go.Operand.tmp 55), type := 27, pos := "fetched.go:54", after := #[{ on := 11, ground := Go.Ground.data }, { on := 0, ground := Go.Ground.phase }, { on := 1, ground := Go.Ground.phase }, { on := 2, ground := Go.Ground.phase }, { on := 3, ground := Go.Ground.phase }, { on := 4, ground := Go.Ground.phase }, { on := 5, ground := Go.Ground.phase }, { on := 6, ground := Go.Ground.phase }, { on := 7, ground := Go.Ground.phase }, { on := 8, ground := Go.Ground.phase }, { on := 9, ground := Go.Ground.phase }, { on := 10, ground := Go.Ground.phase }, { on := 11, ground := Go.Ground.phase }, { on := 12, ground := Go.Ground.textOnly Go.Departure.lateStores }], guard := none }) (oL := { dst := some 8, op := Go.Op.assign (Go.Operand.tmp 56), type := 4, pos := "fetched.go:54", after := #[{ on := 12, ground := Go.Ground.data }, { on := 13, ground := Go.Ground.chain }, { on := 0, ground := Go.Ground.phase }, { on := 1, ground := Go.Ground.phase }, { on := 2, ground := Go.Ground.phase }, { on := 3, ground := Go.Ground.phase }, { on := 4, ground := Go.Ground.phase }, { on := 5, ground := Go.Ground.phase }, { on := 6, ground := Go.Ground.phase }, { on := 7, ground := Go.Ground.phase }, { on := 8, ground := Go.Ground.phase }, { on := 9, ground := Go.Ground.phase }, { on := 10, ground := Go.Ground.phase }, { on := 11, ground := Go.Ground.phase }, { on := 12, ground := Go.Ground.phase }, { on := 13, ground := Go.Ground.phase }], guard := none }) (v := .slice la ln lc) rfl rfl (by kernel_rfl) (by kernel_rfl) (by kernel_rfl) (by kernel_rfl) (fun _ _ _ h => h) (Or.inl ⟨by kernel_rfl, ?_⟩) rfl ?_
  · (intro X hX; subst hX <;> (go_simp; try (with_reducible rfl)))
  (try simp only [Act.put, List.setIfInBounds_toArray, List.set_cons_zero, List.set_cons_succ])
  refine wpAnyN_one (i := 14) (o := { dst := some 8, op := Go.Op.assign (Go.Operand.tmp 56), type := 4, pos := "fetched.go:54", after := #[{ on := 12, ground := Go.Ground.data }, { on := 13, ground := Go.Ground.chain }, { on := 0, ground := Go.Ground.phase }, { on := 1, ground := Go.Ground.phase }, { on := 2, ground := Go.Ground.phase }, { on := 3, ground := Go.Ground.phase }, { on := 4, ground := Go.Ground.phase }, { on := 5, ground := Go.Ground.phase }, { on := 6, ground := Go.Ground.phase }, { on := 7, ground := Go.Ground.phase }, { on := 8, ground := Go.Ground.phase }, { on := 9, ground := Go.Ground.phase }, { on := 10, ground := Go.Ground.phase }, { on := 11, ground := Go.Ground.phase }, { on := 12, ground := Go.Ground.phase }, { on := 13, ground := Go.Ground.phase }], guard := none }) (by kernel_rfl) rfl (fun K hK => ?_)
  go_simp
  refine hK.out _ _ (fun e => absurd (e.symm.trans (by kernel_rfl) : false = true) Bool.false_ne_true) ?_
  clear hK K
  (try simp only [Act.put, List.setIfInBounds_toArray, List.set_cons_zero, List.set_cons_succ])
  refine wpAnyN_of_H (S' := fun _ => True) _ _ _ _ (by kernel_rfl) ?_
  refine wpAnyH_done (by kernel_rfl) ?_ _
  clear hlook
  rw [HKn.out] at e1
  go_wp2_with fail
  go_ret
  obtain ⟨s1, s2, s4, hls⟩ := HS.out
  refine ⟨rfl, s1.drew, fun d' e => ?_⟩
  injection e with e
  subst e
  exact ⟨fv, s2, s4⟩
set_option maxRecDepth 20000 in
set_option maxHeartbeats 4000000 in
theorem uid_was (P : Nat) (fr : List Nat) (M : PM) (B D : Nat) (i : Nat) (d : PD) (k n : Int) (t : ByteArray) (ka : Option Addr) (kn kc : Nat) (w : World) (h : MAt P fr M w) (hd : DrIn fr B D i d w) (hD : D ∉ fr) (hi : i < M.rows.length) (hrn : M.rows.length ≤ 1000000) (hnm : isNm k n 1 = true) (hu : d.r.uid = 0) (hf : fitsM M.rows i n = true) (f : List ByteArray) (hfw : M.was n = some f) (hkn : d.r.kn = false) : Calls Tryd.prog 61 #[.pointer (some ⟨P, 1, none⟩), .pointer (some ⟨D, 0, none⟩), .agg #[.int .i64 k, .int .i64 n, .string t, .slice ka kn kc]] w (LrO fr B D i (some ⟨⟨n, true, f⟩, d.h⟩) w) := by
  obtain ⟨Y, hY⟩ : ∃ Y, w.alloc (.cells #[.int .i64 k, .int .i64 n, .string t, .slice ka kn kc] 64) = Y := ⟨_, rfl⟩
  have b0 : Below w.heap.size w Y := by rw [← hY]; exact (Below.refl _ _).alloc (Nat.le_refl _) _
  have r0 : Y.heap[w.heap.size]? = some (.cells #[.int .i64 k, .int .i64 n, .string t, .slice ka kn kc] 64 (0, 0)) := by rw [← hY]; exact heap_new _ _
  obtain ⟨fv, hdf, hfl⟩ := hd
  have hDl := lt_of_heap hdf
  have HRG : Hid (Y.rangeAt w.heap.size 0 [.int .i64 k, .int .i64 n, .string t, .slice ka kn kc]) := Lib.hid (box_range (z := 4) (cs := [.int .i64 k, .int .i64 n, .string t, .slice ka kn kc]) r0 0)
  have HI : Hid (Calls Tryd.prog 59 #[.agg #[.int .i64 k, .int .i64 n, .string t, .slice ka kn kc], .int .i64 1] Y fun e w' => e = .returned (.bool (isNm k n 1)) ∧ Below Y.heap.size Y w') := Lib.hid (isNumber_any k n 1 t ka kn kc Y)
  have HX : Hid (∀ X, Below Y.heap.size Y X → X.cell? ⟨w.heap.size, 1, none⟩ = some (.int .i64 n) ∧ X.heap[D]? = some (dfO d.r.uid d.r.kn fv i d.h) ∧ Below w.heap.size w X) := Lib.hid (fun X hX => ⟨cell_of (bel_at hX (lt_of_heap r0) r0) 1, bel_at (b0.trans (hX.mono b0.size)) hDl hdf, b0.trans (hX.mono b0.size)⟩)
  rw [hnm] at HI
  rw [hu] at HX
  have hfrl := h.lt
  have HFt : Hid (∀ X, Below Y.heap.size Y X → Calls Tryd.prog 70 #[.pointer (some ⟨P, 1, none⟩), .int .i64 (i : Int), .int .i64 n] X fun e w' => e = .returned (.bool true) ∧ Below X.heap.size X w') := Lib.hid (fun X hX => by rw [← hf]; exact fits_M (h.bel (b0.trans (hX.mono b0.size))) i n hi hrn)
  have HZ : Hid (∀ X, Below Y.heap.size Y X → X.frozen? ⟨D, 0, none⟩ = false) := Lib.hid (fun X hX => df_fz (bel_at (b0.trans (hX.mono b0.size)) hDl hdf) 0)
  have HW2 : Hid (∀ X W2, Below Y.heap.size Y X → W2 = X.setCell ⟨D, 0, none⟩ (.int .i64 n) → Stays [D] w W2 ∧ W2.heap[D]? = some (dfO n d.r.kn fv i d.h) ∧ MAt P fr M W2 ∧ (StrsIn fr W2 fv d.r.fl ∨ StrsNew B W2 fv d.r.fl)) := Lib.hid (fun X W2 hX e => by
    subst e
    have hb := b0.trans (hX.mono b0.size)
    have kD := bel_at hb hDl hdf
    have hs : Stays [D] w (X.setCell ⟨D, 0, none⟩ (.int .i64 n)) := (Stays.ofBelow (fp := [D]) hb).setCell (.inl (by simp)) _
    refine ⟨hs, ?_, h.on (fun b hbf => hs.block b (hfrl b hbf) (fun hm => hD ((show b = D by simpa using hm) ▸ hbf))) hs.size, strs_turn hs hdf hD hfrl hfl⟩
    unfold dfO at kD ⊢
    rw [heap_setCell_at _ kD]
    rfl)
  have HKn := Lib.hid hkn
  have HFw := Lib.hid hfw
  have HDn := Lib.hid (And.intro hD hfrl)
  clear h hD hi hrn hnm hf hu hfrl hfw hkn
  have HY := Lib.hid hY
  clear hY b0 r0 hfl hdf hDl
  go_enter Tryd.func61, Tryd.ntmps61
  go_upto_region 1 with fail
  rw [HY.out]
  clear HY
  go_upto_region 3 with (first | (refine wpList_load_mid rfl 64 _ rfl w.heap.size 0 rfl [.int .i64 k, .int .i64 n, .string t, .slice ka kn kc] _ HRG.out Tryd.underlying64 rfl Tryd.sizeVl ?_) | (go_at_call 59; refine HI.out.mono ?_; rintro e w3 ⟨rfl, hb3⟩; have HB3 := Lib.hid hb3; clear hb3))
  obtain ⟨x1, x2, x3⟩ := HX.out _ HB3.out
  obtain ⟨y0, _, _, y3, _⟩ := df_cells x2
  have HBX := Lib.hid x3
  clear x2 x3
  go_upto_region 5 with fail
  refine wp_region_N 7 (fun X => X = w3.drew) (by kernel_rfl) ?_
  refine wpAnyN_take (i := 0) (oi := { dst := some 29, op := Go.Op.move (Go.Operand.tmp 0), type := 96, pos := "fetched.go:50", after := #[], guard := none }) (oL := { dst := some 36, op := Go.Op.call { callee := Go.Callee.value (Go.Operand.func 70), args := #[Go.Operand.tmp 29, Go.Operand.tmp 33, Go.Operand.tmp 35], argTypes := #[96, 3, 3] }, type := 4, pos := "fetched.go:50", after := #[{ on := 0, ground := Go.Ground.data }, { on := 4, ground := Go.Ground.data }, { on := 6, ground := Go.Ground.data }], guard := none }) (v := .pointer (some ⟨P, 1, none⟩)) rfl rfl (by kernel_rfl) (by kernel_rfl) (by kernel_rfl) (by kernel_rfl) (fun _ _ _ h => h) (Or.inl ⟨by kernel_rfl, ?_⟩) rfl ?_
  · (intro X hX; subst hX <;> (go_simp; try (with_reducible rfl)))
  (try simp only [Act.put, List.setIfInBounds_toArray, List.set_cons_zero, List.set_cons_succ])
  refine wpAnyN_take (i := 1) (oi := { dst := some 30, op := Go.Op.move (Go.Operand.tmp 1), type := 107, pos := "fetched.go:50", after := #[], guard := none }) (oL := { dst := some 36, op := Go.Op.call { callee := Go.Callee.value (Go.Operand.func 70), args := #[Go.Operand.tmp 29, Go.Operand.tmp 33, Go.Operand.tmp 35], argTypes := #[96, 3, 3] }, type := 4, pos := "fetched.go:50", after := #[{ on := 0, ground := Go.Ground.data }, { on := 4, ground := Go.Ground.data }, { on := 6, ground := Go.Ground.data }], guard := none }) (v := .pointer (some ⟨D, 0, none⟩)) rfl rfl (by kernel_rfl) (by kernel_rfl) (by kernel_rfl) (by kernel_rfl) (fun _ _ _ h => h) (Or.inl ⟨by kernel_rfl, ?_⟩) rfl ?_
  · (intro X hX; subst hX <;> (go_simp; try (with_reducible rfl)))
  (try simp only [Act.put, List.setIfInBounds_toArray, List.set_cons_zero, List.set_cons_succ])
  refine wpAnyN_take (i := 2) (oi := { dst := some 31, op := Go.Op.nilCheck (Go.Operand.tmp 30), type := 0, pos := "fetched.go:50", after := #[{ on := 1, ground := Go.Ground.data }], guard := none }) (oL := { dst := some 36, op := Go.Op.call { callee := Go.Callee.value (Go.Operand.func 70), args := #[Go.Operand.tmp 29, Go.Operand.tmp 33, Go.Operand.tmp 35], argTypes := #[96, 3, 3] }, type := 4, pos := "fetched.go:50", after := #[{ on := 0, ground := Go.Ground.data }, { on := 4, ground := Go.Ground.data }, { on := 6, ground := Go.Ground.data }], guard := none }) (v := .pointer (some ⟨D, 0, none⟩)) rfl rfl (by kernel_rfl) (by kernel_rfl) (by kernel_rfl) (by kernel_rfl) (fun _ _ _ h => h) (Or.inl ⟨by kernel_rfl, ?_⟩) rfl ?_
  · (intro X hX; subst hX <;> (go_simp; try (with_reducible rfl)))
  (try simp only [Act.put, List.setIfInBounds_toArray, List.set_cons_zero, List.set_cons_succ])
  refine wpAnyN_take (i := 3) (oi := { dst := some 32, op := Go.Op.fieldAddr 105 (Go.Operand.tmp 31) 1, type := 0, pos := "fetched.go:50", after := #[{ on := 2, ground := Go.Ground.data }], guard := none }) (oL := { dst := some 36, op := Go.Op.call { callee := Go.Callee.value (Go.Operand.func 70), args := #[Go.Operand.tmp 29, Go.Operand.tmp 33, Go.Operand.tmp 35], argTypes := #[96, 3, 3] }, type := 4, pos := "fetched.go:50", after := #[{ on := 0, ground := Go.Ground.data }, { on := 4, ground := Go.Ground.data }, { on := 6, ground := Go.Ground.data }], guard := none }) (v := .pointer (some ⟨D, 3, none⟩)) rfl rfl (by kernel_rfl) (by kernel_rfl) (by kernel_rfl) (by kernel_rfl) (fun _ _ _ h => h) (Or.inl ⟨by kernel_rfl, ?_⟩) rfl ?_
  · (intro X hX; subst hX <;> (go_simp; try (with_reducible rfl)))
  (try simp only [Act.put, List.setIfInBounds_toArray, List.set_cons_zero, List.set_cons_succ])
  refine wpAnyN_take (i := 4) (oi := { dst := some 33, op := Go.Op.load 3 (Go.Operand.tmp 32), type := 3, pos := "fetched.go:50", after := #[{ on := 3, ground := Go.Ground.data }], guard := none }) (oL := { dst := some 36, op := Go.Op.call { callee := Go.Callee.value (Go.Operand.func 70), args := #[Go.Operand.tmp 29, Go.Operand.tmp 33, Go.Operand.tmp 35], argTypes := #[96, 3, 3] }, type := 4, pos := "fetched.go:50", after := #[{ on := 0, ground := Go.Ground.data }, { on := 4, ground := Go.Ground.data }, { on := 6, ground := Go.Ground.data }], guard := none }) (v := .int .i64 (i : Int)) rfl rfl (by kernel_rfl) (by kernel_rfl) (by kernel_rfl) (by kernel_rfl) (fun _ _ _ h => h) (Or.inl ⟨by kernel_rfl, ?_⟩) rfl ?_
  · (intro X hX; subst hX <;> (go_simp; try (with_reducible rfl)))
  (try simp only [Act.put, List.setIfInBounds_toArray, List.set_cons_zero, List.set_cons_succ])
  refine wpAnyN_take (i := 5) (oi := { dst := some 34, op := Go.Op.fieldAddr 64 (Go.Operand.tmp 5) 1, type := 0, pos := "fetched.go:50", after := #[], guard := none }) (oL := { dst := some 36, op := Go.Op.call { callee := Go.Callee.value (Go.Operand.func 70), args := #[Go.Operand.tmp 29, Go.Operand.tmp 33, Go.Operand.tmp 35], argTypes := #[96, 3, 3] }, type := 4, pos := "fetched.go:50", after := #[{ on := 0, ground := Go.Ground.data }, { on := 4, ground := Go.Ground.data }, { on := 6, ground := Go.Ground.data }], guard := none }) (v := .pointer (some ⟨w.heap.size, 1, none⟩)) rfl rfl (by kernel_rfl) (by kernel_rfl) (by kernel_rfl) (by kernel_rfl) (fun _ _ _ h => h) (Or.inl ⟨by kernel_rfl, ?_⟩) rfl ?_
  · (intro X hX; subst hX <;> (go_simp; try (with_reducible rfl)))
  (try simp only [Act.put, List.setIfInBounds_toArray, List.set_cons_zero, List.set_cons_succ])
  refine wpAnyN_take (i := 6) (oi := { dst := some 35, op := Go.Op.load 3 (Go.Operand.tmp 34), type := 3, pos := "fetched.go:50", after := #[{ on := 5, ground := Go.Ground.data }], guard := none }) (oL := { dst := some 36, op := Go.Op.call { callee := Go.Callee.value (Go.Operand.func 70), args := #[Go.Operand.tmp 29, Go.Operand.tmp 33, Go.Operand.tmp 35], argTypes := #[96, 3, 3] }, type := 4, pos := "fetched.go:50", after := #[{ on := 0, ground := Go.Ground.data }, { on := 4, ground := Go.Ground.data }, { on := 6, ground := Go.Ground.data }], guard := none }) (v := .int .i64 n) rfl rfl (by kernel_rfl) (by kernel_rfl) (by kernel_rfl) (by kernel_rfl) (fun _ _ _ h => h) (Or.inl ⟨by kernel_rfl, ?_⟩) rfl ?_
  · (intro X hX; subst hX <;> (go_simp; try (with_reducible rfl)))
  (try simp only [Act.put, List.setIfInBounds_toArray, List.set_cons_zero, List.set_cons_succ])
  refine wpAnyN_one (i := 7) (o := { dst := some 36, op := Go.Op.call { callee := Go.Callee.value (Go.Operand.func 70), args := #[Go.Operand.tmp 29, Go.Operand.tmp 33, Go.Operand.tmp 35], argTypes := #[96, 3, 3] }, type := 4, pos := "fetched.go:50", after := #[{ on := 0, ground := Go.Ground.data }, { on := 4, ground := Go.Ground.data }, { on := 6, ground := Go.Ground.data }], guard := none }) (by kernel_rfl) rfl (fun K hK => ?_)
  go_simp
  refine (HFt.out _ HB3.out.drew).mono ?_
  rintro e w4 ⟨rfl, hb4⟩
  have HB4 := Lib.hid hb4
  clear hb4
  refine hK.out _ _ (fun e => absurd (e.symm.trans (by kernel_rfl) : false = true) Bool.false_ne_true) ?_
  clear hK K
  (try simp only [Act.put, List.setIfInBounds_toArray, List.set_cons_zero, List.set_cons_succ])
  refine wpAnyN_of_H (S' := fun _ => True) _ _ _ _ (by kernel_rfl) ?_
  refine wpAnyH_take (i := 8) (oi := { dst := some 37, op := Go.Op.unOp Go.UnOp.not 4 (Go.Operand.tmp 36), type := 4, pos := "fetched.go:50", after := #[{ on := 7, ground := Go.Ground.data }], guard := none }) (v := .bool false) rfl (by kernel_rfl) (by kernel_rfl) (by kernel_rfl) (fun _ _ _ h => h) (Or.inl ⟨by kernel_rfl, ?_⟩) trivial ?_
  · (intro X hX; go_simp; try (with_reducible rfl))
  (try simp only [Act.put, List.setIfInBounds_toArray, List.set_cons_zero, List.set_cons_succ])
  refine wpAnyH_take (i := 9) (oi := { dst := some 28, op := Go.Op.assign (Go.Operand.tmp 37), type := 4, pos := "fetched.go:50", after := #[{ on := 8, ground := Go.Ground.data }, { on := 7, ground := Go.Ground.chain }], guard := none }) (v := .bool false) rfl (by kernel_rfl) (by kernel_rfl) (by kernel_rfl) (fun _ _ _ h => h) (Or.inl ⟨by kernel_rfl, ?_⟩) trivial ?_
  · (intro X hX; go_simp; try (with_reducible rfl))
  (try simp only [Act.put, List.setIfInBounds_toArray, List.set_cons_zero, List.set_cons_succ])
  refine wpAnyH_done (by kernel_rfl) ?_ _
  have hb4 : Below Y.heap.size Y w4 := HB3.out.drew.trans (HB4.out.mono HB3.out.size)
  obtain ⟨q1, q2, q3⟩ := HX.out _ hb4
  obtain ⟨p0, _, _, _, _⟩ := df_cells q2
  have z0 := HZ.out _ hb4
  have HB5 := Lib.hid hb4
  clear q2 q3 hb4 x1 y0 y3
  go_upto_region 8 with fail
  refine wp_gen (fun W2 hW2 => ?_)
  obtain ⟨s1, s2, s3, s4⟩ := HW2.out _ _ HB5.out hW2
  obtain ⟨qv, rowsV, was, hM, _, _, hWs⟩ := s3.ex
  obtain ⟨la, ln, lc, lb, hlook, hlb, hls⟩ := look_in (X := W2.drew) (hWs : WasIn fr W2.drew was M.was) n
  rw [HFw.out] at hlb hls
  obtain rfl : lb = true := hlb
  have m6 := (mir_cells hM).c6
  obtain ⟨e0, e1, e2, e3, e4⟩ := df_cells s2
  have g1 := df_fz s2 1
  have g2 := df_fz s2 2
  have HS := Lib.hid (And.intro s1 (And.intro s2 (And.intro s4 hls)))
  clear hW2 s1 s2 s3 s4 hM hWs hls p0 z0 q1
  refine wp_region_N 14 (fun X => X = W2.drew) (by kernel_rfl) ?_
  refine wpAnyN_take (i := 0) (oi := { dst := some 45, op := Go.Op.move (Go.Operand.tmp 0), type := 96, pos := "fetched.go:54", after := #[], guard := none }) (oL := { dst := some 8, op := Go.Op.assign (Go.Operand.tmp 56), type := 4, pos := "fetched.go:54", after := #[{ on := 12, ground := Go.Ground.data }, { on := 13, ground := Go.Ground.chain }, { on := 0, ground := Go.Ground.phase }, { on := 1, ground := Go.Ground.phase }, { on := 2, ground := Go.Ground.phase }, { on := 3, ground := Go.Ground.phase }, { on := 4, ground := Go.Ground.phase }, { on := 5, ground := Go.Ground.phase }, { on := 6, ground := Go.Ground.phase }, { on := 7, ground := Go.Ground.phase }, { on := 8, ground := Go.Ground.phase }, { on := 9, ground := Go.Ground.phase }, { on := 10, ground := Go.Ground.phase }, { on := 11, ground := Go.Ground.phase }, { on := 12, ground := Go.Ground.phase }, { on := 13, ground := Go.Ground.phase }], guard := none }) (v := .pointer (some ⟨P, 1, none⟩)) rfl rfl (by kernel_rfl) (by kernel_rfl) (by kernel_rfl) (by kernel_rfl) (fun _ _ _ h => h) (Or.inl ⟨by kernel_rfl, ?_⟩) rfl ?_
  · (intro X hX; subst hX <;> (go_simp; try (with_reducible rfl)))
  (try simp only [Act.put, List.setIfInBounds_toArray, List.set_cons_zero, List.set_cons_succ])
  refine wpAnyN_take (i := 1) (oi := { dst := some 46, op := Go.Op.nilCheck (Go.Operand.tmp 45), type := 0, pos := "fetched.go:54", after := #[{ on := 0, ground := Go.Ground.data }], guard := none }) (oL := { dst := some 8, op := Go.Op.assign (Go.Operand.tmp 56), type := 4, pos := "fetched.go:54", after := #[{ on := 12, ground := Go.Ground.data }, { on := 13, ground := Go.Ground.chain }, { on := 0, ground := Go.Ground.phase }, { on := 1, ground := Go.Ground.phase }, { on := 2, ground := Go.Ground.phase }, { on := 3, ground := Go.Ground.phase }, { on := 4, ground := Go.Ground.phase }, { on := 5, ground := Go.Ground.phase }, { on := 6, ground := Go.Ground.phase }, { on := 7, ground := Go.Ground.phase }, { on := 8, ground := Go.Ground.phase }, { on := 9, ground := Go.Ground.phase }, { on := 10, ground := Go.Ground.phase }, { on := 11, ground := Go.Ground.phase }, { on := 12, ground := Go.Ground.phase }, { on := 13, ground := Go.Ground.phase }], guard := none }) (v := .pointer (some ⟨P, 1, none⟩)) rfl rfl (by kernel_rfl) (by kernel_rfl) (by kernel_rfl) (by kernel_rfl) (fun _ _ _ h => h) (Or.inl ⟨by kernel_rfl, ?_⟩) rfl ?_
  · (intro X hX; subst hX <;> (go_simp; try (with_reducible rfl)))
  (try simp only [Act.put, List.setIfInBounds_toArray, List.set_cons_zero, List.set_cons_succ])
  refine wpAnyN_take (i := 2) (oi := { dst := some 47, op := Go.Op.fieldAddr 73 (Go.Operand.tmp 46) 5, type := 0, pos := "fetched.go:54", after := #[{ on := 1, ground := Go.Ground.data }], guard := none }) (oL := { dst := some 8, op := Go.Op.assign (Go.Operand.tmp 56), type := 4, pos := "fetched.go:54", after := #[{ on := 12, ground := Go.Ground.data }, { on := 13, ground := Go.Ground.chain }, { on := 0, ground := Go.Ground.phase }, { on := 1, ground := Go.Ground.phase }, { on := 2, ground := Go.Ground.phase }, { on := 3, ground := Go.Ground.phase }, { on := 4, ground := Go.Ground.phase }, { on := 5, ground := Go.Ground.phase }, { on := 6, ground := Go.Ground.phase }, { on := 7, ground := Go.Ground.phase }, { on := 8, ground := Go.Ground.phase }, { on := 9, ground := Go.Ground.phase }, { on := 10, ground := Go.Ground.phase }, { on := 11, ground := Go.Ground.phase }, { on := 12, ground := Go.Ground.phase }, { on := 13, ground := Go.Ground.phase }], guard := none }) (v := .pointer (some ⟨P, 6, none⟩)) rfl rfl (by kernel_rfl) (by kernel_rfl) (by kernel_rfl) (by kernel_rfl) (fun _ _ _ h => h) (Or.inl ⟨by kernel_rfl, ?_⟩) rfl ?_
  · (intro X hX; subst hX <;> (go_simp; try (with_reducible rfl)))
  (try simp only [Act.put, List.setIfInBounds_toArray, List.set_cons_zero, List.set_cons_succ])
  refine wpAnyN_take (i := 3) (oi := { dst := some 48, op := Go.Op.load 71 (Go.Operand.tmp 47), type := 71, pos := "fetched.go:54", after := #[{ on := 2, ground := Go.Ground.data }], guard := none }) (oL := { dst := some 8, op := Go.Op.assign (Go.Operand.tmp 56), type := 4, pos := "fetched.go:54", after := #[{ on := 12, ground := Go.Ground.data }, { on := 13, ground := Go.Ground.chain }, { on := 0, ground := Go.Ground.phase }, { on := 1, ground := Go.Ground.phase }, { on := 2, ground := Go.Ground.phase }, { on := 3, ground := Go.Ground.phase }, { on := 4, ground := Go.Ground.phase }, { on := 5, ground := Go.Ground.phase }, { on := 6, ground := Go.Ground.phase }, { on := 7, ground := Go.Ground.phase }, { on := 8, ground := Go.Ground.phase }, { on := 9, ground := Go.Ground.phase }, { on := 10, ground := Go.Ground.phase }, { on := 11, ground := Go.Ground.phase }, { on := 12, ground := Go.Ground.phase }, { on := 13, ground := Go.Ground.phase }], guard := none }) (v := was) rfl rfl (by kernel_rfl) (by kernel_rfl) (by kernel_rfl) (by kernel_rfl) (fun _ _ _ h => h) (Or.inl ⟨by kernel_rfl, ?_⟩) rfl ?_
  · (intro X hX; subst hX <;> (go_simp; try (with_reducible rfl)))
  (try simp only [Act.put, List.setIfInBounds_toArray, List.set_cons_zero, List.set_cons_succ])
  refine wpAnyN_take (i := 4) (oi := { dst := some 49, op := Go.Op.move (Go.Operand.tmp 1), type := 107, pos := "fetched.go:54", after := #[], guard := none }) (oL := { dst := some 8, op := Go.Op.assign (Go.Operand.tmp 56), type := 4, pos := "fetched.go:54", after := #[{ on := 12, ground := Go.Ground.data }, { on := 13, ground := Go.Ground.chain }, { on := 0, ground := Go.Ground.phase }, { on := 1, ground := Go.Ground.phase }, { on := 2, ground := Go.Ground.phase }, { on := 3, ground := Go.Ground.phase }, { on := 4, ground := Go.Ground.phase }, { on := 5, ground := Go.Ground.phase }, { on := 6, ground := Go.Ground.phase }, { on := 7, ground := Go.Ground.phase }, { on := 8, ground := Go.Ground.phase }, { on := 9, ground := Go.Ground.phase }, { on := 10, ground := Go.Ground.phase }, { on := 11, ground := Go.Ground.phase }, { on := 12, ground := Go.Ground.phase }, { on := 13, ground := Go.Ground.phase }], guard := none }) (v := .pointer (some ⟨D, 0, none⟩)) rfl rfl (by kernel_rfl) (by kernel_rfl) (by kernel_rfl) (by kernel_rfl) (fun _ _ _ h => h) (Or.inl ⟨by kernel_rfl, ?_⟩) rfl ?_
  · (intro X hX; subst hX <;> (go_simp; try (with_reducible rfl)))
  (try simp only [Act.put, List.setIfInBounds_toArray, List.set_cons_zero, List.set_cons_succ])
  refine wpAnyN_take (i := 5) (oi := { dst := some 50, op := Go.Op.nilCheck (Go.Operand.tmp 49), type := 0, pos := "fetched.go:54", after := #[{ on := 4, ground := Go.Ground.data }], guard := none }) (oL := { dst := some 8, op := Go.Op.assign (Go.Operand.tmp 56), type := 4, pos := "fetched.go:54", after := #[{ on := 12, ground := Go.Ground.data }, { on := 13, ground := Go.Ground.chain }, { on := 0, ground := Go.Ground.phase }, { on := 1, ground := Go.Ground.phase }, { on := 2, ground := Go.Ground.phase }, { on := 3, ground := Go.Ground.phase }, { on := 4, ground := Go.Ground.phase }, { on := 5, ground := Go.Ground.phase }, { on := 6, ground := Go.Ground.phase }, { on := 7, ground := Go.Ground.phase }, { on := 8, ground := Go.Ground.phase }, { on := 9, ground := Go.Ground.phase }, { on := 10, ground := Go.Ground.phase }, { on := 11, ground := Go.Ground.phase }, { on := 12, ground := Go.Ground.phase }, { on := 13, ground := Go.Ground.phase }], guard := none }) (v := .pointer (some ⟨D, 0, none⟩)) rfl rfl (by kernel_rfl) (by kernel_rfl) (by kernel_rfl) (by kernel_rfl) (fun _ _ _ h => h) (Or.inl ⟨by kernel_rfl, ?_⟩) rfl ?_
  · (intro X hX; subst hX <;> (go_simp; try (with_reducible rfl)))
  (try simp only [Act.put, List.setIfInBounds_toArray, List.set_cons_zero, List.set_cons_succ])
  refine wpAnyN_take (i := 6) (oi := { dst := some 51, op := Go.Op.fieldAddr 105 (Go.Operand.tmp 50) 0, type := 0, pos := "fetched.go:54", after := #[{ on := 5, ground := Go.Ground.data }], guard := none }) (oL := { dst := some 8, op := Go.Op.assign (Go.Operand.tmp 56), type := 4, pos := "fetched.go:54", after := #[{ on := 12, ground := Go.Ground.data }, { on := 13, ground := Go.Ground.chain }, { on := 0, ground := Go.Ground.phase }, { on := 1, ground := Go.Ground.phase }, { on := 2, ground := Go.Ground.phase }, { on := 3, ground := Go.Ground.phase }, { on := 4, ground := Go.Ground.phase }, { on := 5, ground := Go.Ground.phase }, { on := 6, ground := Go.Ground.phase }, { on := 7, ground := Go.Ground.phase }, { on := 8, ground := Go.Ground.phase }, { on := 9, ground := Go.Ground.phase }, { on := 10, ground := Go.Ground.phase }, { on := 11, ground := Go.Ground.phase }, { on := 12, ground := Go.Ground.phase }, { on := 13, ground := Go.Ground.phase }], guard := none }) (v := .pointer (some ⟨D, 0, none⟩)) rfl rfl (by kernel_rfl) (by kernel_rfl) (by kernel_rfl) (by kernel_rfl) (fun _ _ _ h => h) (Or.inl ⟨by kernel_rfl, ?_⟩) rfl ?_
  · (intro X hX; subst hX <;> (go_simp; try (with_reducible rfl)))
  (try simp only [Act.put, List.setIfInBounds_toArray, List.set_cons_zero, List.set_cons_succ])
  refine wpAnyN_take (i := 7) (oi := { dst := some 52, op := Go.Op.fieldAddr 98 (Go.Operand.tmp 51) 0, type := 0, pos := "fetched.go:54", after := #[{ on := 6, ground := Go.Ground.data }], guard := none }) (oL := { dst := some 8, op := Go.Op.assign (Go.Operand.tmp 56), type := 4, pos := "fetched.go:54", after := #[{ on := 12, ground := Go.Ground.data }, { on := 13, ground := Go.Ground.chain }, { on := 0, ground := Go.Ground.phase }, { on := 1, ground := Go.Ground.phase }, { on := 2, ground := Go.Ground.phase }, { on := 3, ground := Go.Ground.phase }, { on := 4, ground := Go.Ground.phase }, { on := 5, ground := Go.Ground.phase }, { on := 6, ground := Go.Ground.phase }, { on := 7, ground := Go.Ground.phase }, { on := 8, ground := Go.Ground.phase }, { on := 9, ground := Go.Ground.phase }, { on := 10, ground := Go.Ground.phase }, { on := 11, ground := Go.Ground.phase }, { on := 12, ground := Go.Ground.phase }, { on := 13, ground := Go.Ground.phase }], guard := none }) (v := .pointer (some ⟨D, 0, none⟩)) rfl rfl (by kernel_rfl) (by kernel_rfl) (by kernel_rfl) (by kernel_rfl) (fun _ _ _ h => h) (Or.inl ⟨by kernel_rfl, ?_⟩) rfl ?_
  · (intro X hX; subst hX <;> (go_simp; try (with_reducible rfl)))
  (try simp only [Act.put, List.setIfInBounds_toArray, List.set_cons_zero, List.set_cons_succ])
  refine wpAnyN_take (i := 8) (oi := { dst := some 53, op := Go.Op.load 3 (Go.Operand.tmp 52), type := 3, pos := "fetched.go:54", after := #[{ on := 7, ground := Go.Ground.data }], guard := none }) (oL := { dst := some 8, op := Go.Op.assign (Go.Operand.tmp 56), type := 4, pos := "fetched.go:54", after := #[{ on := 12, ground := Go.Ground.data }, { on := 13, ground := Go.Ground.chain }, { on := 0, ground := Go.Ground.phase }, { on := 1, ground := Go.Ground.phase }, { on := 2, ground := Go.Ground.phase }, { on := 3, ground := Go.Ground.phase }, { on := 4, ground := Go.Ground.phase }, { on := 5, ground := Go.Ground.phase }, { on := 6, ground := Go.Ground.phase }, { on := 7, ground := Go.Ground.phase }, { on := 8, ground := Go.Ground.phase }, { on := 9, ground := Go.Ground.phase }, { on := 10, ground := Go.Ground.phase }, { on := 11, ground := Go.Ground.phase }, { on := 12, ground := Go.Ground.phase }, { on := 13, ground := Go.Ground.phase }], guard := none }) (v := .int .i64 n) rfl rfl (by kernel_rfl) (by kernel_rfl) (by kernel_rfl) (by kernel_rfl) (fun _ _ _ h => h) (Or.inl ⟨by kernel_rfl, ?_⟩) rfl ?_
  · (intro X hX; subst hX <;> (go_simp; try (with_reducible rfl)))
  (try simp only [Act.put, List.setIfInBounds_toArray, List.set_cons_zero, List.set_cons_succ])
  refine wpAnyN_take (i := 9) (oi := { dst := some 54, op := Go.Op.lookup 71 (Go.Operand.tmp 48) (Go.Operand.tmp 53) true, type := 128, pos := "fetched.go:54", after := #[{ on := 3, ground := Go.Ground.data }, { on := 8, ground := Go.Ground.data }], guard := none }) (oL := { dst := some 8, op := Go.Op.assign (Go.Operand.tmp 56), type := 4, pos := "fetched.go:54", after := #[{ on := 12, ground := Go.Ground.data }, { on := 13, ground := Go.Ground.chain }, { on := 0, ground := Go.Ground.phase }, { on := 1, ground := Go.Ground.phase }, { on := 2, ground := Go.Ground.phase }, { on := 3, ground := Go.Ground.phase }, { on := 4, ground := Go.Ground.phase }, { on := 5, ground := Go.Ground.phase }, { on := 6, ground := Go.Ground.phase }, { on := 7, ground := Go.Ground.phase }, { on := 8, ground := Go.Ground.phase }, { on := 9, ground := Go.Ground.phase }, { on := 10, ground := Go.Ground.phase }, { on := 11, ground := Go.Ground.phase }, { on := 12, ground := Go.Ground.phase }, { on := 13, ground := Go.Ground.phase }], guard := none }) (v := .tuple #[.slice la ln lc, .bool true]) rfl rfl (by kernel_rfl) (by kernel_rfl) (by kernel_rfl) (by kernel_rfl) (fun _ _ _ h => h) (Or.inl ⟨by kernel_rfl, ?_⟩) rfl ?_
  · (intro X hX; subst hX <;> (go_simp; try (with_reducible rfl)))
  (try simp only [Act.put, List.setIfInBounds_toArray, List.set_cons_zero, List.set_cons_succ])
  refine wpAnyN_take (i := 10) (oi := { dst := some 44, op := Go.Op.move (Go.Operand.tmp 54), type := 128, pos := "fetched.go:54", after := #[{ on := 9, ground := Go.Ground.data }], guard := none }) (oL := { dst := some 8, op := Go.Op.assign (Go.Operand.tmp 56), type := 4, pos := "fetched.go:54", after := #[{ on := 12, ground := Go.Ground.data }, { on := 13, ground := Go.Ground.chain }, { on := 0, ground := Go.Ground.phase }, { on := 1, ground := Go.Ground.phase }, { on := 2, ground := Go.Ground.phase }, { on := 3, ground := Go.Ground.phase }, { on := 4, ground := Go.Ground.phase }, { on := 5, ground := Go.Ground.phase }, { on := 6, ground := Go.Ground.phase }, { on := 7, ground := Go.Ground.phase }, { on := 8, ground := Go.Ground.phase }, { on := 9, ground := Go.Ground.phase }, { on := 10, ground := Go.Ground.phase }, { on := 11, ground := Go.Ground.phase }, { on := 12, ground := Go.Ground.phase }, { on := 13, ground := Go.Ground.phase }], guard := none }) (v := .tuple #[.slice la ln lc, .bool true]) rfl rfl (by kernel_rfl) (by kernel_rfl) (by kernel_rfl) (by kernel_rfl) (fun _ _ _ h => h) (Or.inl ⟨by kernel_rfl, ?_⟩) rfl ?_
  · (intro X hX; subst hX <;> (go_simp; try (with_reducible rfl)))
  (try simp only [Act.put, List.setIfInBounds_toArray, List.set_cons_zero, List.set_cons_succ])
  refine wpAnyN_take (i := 11) (oi := { dst := some 55, op := Go.Op.extract (Go.Operand.tmp 44) 0, type := 27, pos := "fetched.go:54", after := #[{ on := 10, ground := Go.Ground.data }], guard := none }) (oL := { dst := some 8, op := Go.Op.assign (Go.Operand.tmp 56), type := 4, pos := "fetched.go:54", after := #[{ on := 12, ground := Go.Ground.data }, { on := 13, ground := Go.Ground.chain }, { on := 0, ground := Go.Ground.phase }, { on := 1, ground := Go.Ground.phase }, { on := 2, ground := Go.Ground.phase }, { on := 3, ground := Go.Ground.phase }, { on := 4, ground := Go.Ground.phase }, { on := 5, ground := Go.Ground.phase }, { on := 6, ground := Go.Ground.phase }, { on := 7, ground := Go.Ground.phase }, { on := 8, ground := Go.Ground.phase }, { on := 9, ground := Go.Ground.phase }, { on := 10, ground := Go.Ground.phase }, { on := 11, ground := Go.Ground.phase }, { on := 12, ground := Go.Ground.phase }, { on := 13, ground := Go.Ground.phase }], guard := none }) (v := .slice la ln lc) rfl rfl (by kernel_rfl) (by kernel_rfl) (by kernel_rfl) (by kernel_rfl) (fun _ _ _ h => h) (Or.inl ⟨by kernel_rfl, ?_⟩) rfl ?_
  · (intro X hX; subst hX <;> (go_simp; try (with_reducible rfl)))
  (try simp only [Act.put, List.setIfInBounds_toArray, List.set_cons_zero, List.set_cons_succ])
  refine wpAnyN_take (i := 12) (oi := { dst := some 56, op := Go.Op.extract (Go.Operand.tmp 44) 1, type := 4, pos := "fetched.go:54", after := #[{ on := 10, ground := Go.Ground.data }, { on := 13, ground := Go.Ground.gcOnly Go.Departure.lateStores }], guard := none }) (oL := { dst := some 8, op := Go.Op.assign (Go.Operand.tmp 56), type := 4, pos := "fetched.go:54", after := #[{ on := 12, ground := Go.Ground.data }, { on := 13, ground := Go.Ground.chain }, { on := 0, ground := Go.Ground.phase }, { on := 1, ground := Go.Ground.phase }, { on := 2, ground := Go.Ground.phase }, { on := 3, ground := Go.Ground.phase }, { on := 4, ground := Go.Ground.phase }, { on := 5, ground := Go.Ground.phase }, { on := 6, ground := Go.Ground.phase }, { on := 7, ground := Go.Ground.phase }, { on := 8, ground := Go.Ground.phase }, { on := 9, ground := Go.Ground.phase }, { on := 10, ground := Go.Ground.phase }, { on := 11, ground := Go.Ground.phase }, { on := 12, ground := Go.Ground.phase }, { on := 13, ground := Go.Ground.phase }], guard := none }) (v := .bool true) rfl rfl (by kernel_rfl) (by kernel_rfl) (by kernel_rfl) (by kernel_rfl) (fun _ _ _ h => h) (Or.inl ⟨by kernel_rfl, ?_⟩) rfl ?_
  · (intro X hX; subst hX <;> (go_simp; try (with_reducible rfl)))
  (try simp only [Act.put, List.setIfInBounds_toArray, List.set_cons_zero, List.set_cons_succ])
  refine wpAnyN_take (i := 13) (oi := { dst := some 7, op := Go.Op.assign (Go.Operand.tmp 55), type := 27, pos := "fetched.go:54", after := #[{ on := 11, ground := Go.Ground.data }, { on := 0, ground := Go.Ground.phase }, { on := 1, ground := Go.Ground.phase }, { on := 2, ground := Go.Ground.phase }, { on := 3, ground := Go.Ground.phase }, { on := 4, ground := Go.Ground.phase }, { on := 5, ground := Go.Ground.phase }, { on := 6, ground := Go.Ground.phase }, { on := 7, ground := Go.Ground.phase }, { on := 8, ground := Go.Ground.phase }, { on := 9, ground := Go.Ground.phase }, { on := 10, ground := Go.Ground.phase }, { on := 11, ground := Go.Ground.phase }, { on := 12, ground := Go.Ground.textOnly Go.Departure.lateStores }], guard := none }) (oL := { dst := some 8, op := Go.Op.assign (Go.Operand.tmp 56), type := 4, pos := "fetched.go:54", after := #[{ on := 12, ground := Go.Ground.data }, { on := 13, ground := Go.Ground.chain }, { on := 0, ground := Go.Ground.phase }, { on := 1, ground := Go.Ground.phase }, { on := 2, ground := Go.Ground.phase }, { on := 3, ground := Go.Ground.phase }, { on := 4, ground := Go.Ground.phase }, { on := 5, ground := Go.Ground.phase }, { on := 6, ground := Go.Ground.phase }, { on := 7, ground := Go.Ground.phase }, { on := 8, ground := Go.Ground.phase }, { on := 9, ground := Go.Ground.phase }, { on := 10, ground := Go.Ground.phase }, { on := 11, ground := Go.Ground.phase }, { on := 12, ground := Go.Ground.phase }, { on := 13, ground := Go.Ground.phase }], guard := none }) (v := .slice la ln lc) rfl rfl (by kernel_rfl) (by kernel_rfl) (by kernel_rfl) (by kernel_rfl) (fun _ _ _ h => h) (Or.inl ⟨by kernel_rfl, ?_⟩) rfl ?_
  · (intro X hX; subst hX <;> (go_simp; try (with_reducible rfl)))
  (try simp only [Act.put, List.setIfInBounds_toArray, List.set_cons_zero, List.set_cons_succ])
  refine wpAnyN_one (i := 14) (o := { dst := some 8, op := Go.Op.assign (Go.Operand.tmp 56), type := 4, pos := "fetched.go:54", after := #[{ on := 12, ground := Go.Ground.data }, { on := 13, ground := Go.Ground.chain }, { on := 0, ground := Go.Ground.phase }, { on := 1, ground := Go.Ground.phase }, { on := 2, ground := Go.Ground.phase }, { on := 3, ground := Go.Ground.phase }, { on := 4, ground := Go.Ground.phase }, { on := 5, ground := Go.Ground.phase }, { on := 6, ground := Go.Ground.phase }, { on := 7, ground := Go.Ground.phase }, { on := 8, ground := Go.Ground.phase }, { on := 9, ground := Go.Ground.phase }, { on := 10, ground := Go.Ground.phase }, { on := 11, ground := Go.Ground.phase }, { on := 12, ground := Go.Ground.phase }, { on := 13, ground := Go.Ground.phase }], guard := none }) (by kernel_rfl) rfl (fun K hK => ?_)
  go_simp
  refine hK.out _ _ (fun e => absurd (e.symm.trans (by kernel_rfl) : false = true) Bool.false_ne_true) ?_
  clear hK K
  (try simp only [Act.put, List.setIfInBounds_toArray, List.set_cons_zero, List.set_cons_succ])
  refine wpAnyN_of_H (S' := fun _ => True) _ _ _ _ (by kernel_rfl) ?_
  refine wpAnyH_done (by kernel_rfl) ?_ _
  clear hlook
  rw [HKn.out] at e1
  go_wp2_with fail
  go_ret
  obtain ⟨s1, s2, s4, hls⟩ := HS.out
  have hs2 : Stays [D] W2 ((W2.setCell ⟨D, 1, none⟩ (.bool true)).setCell ⟨D, 2, none⟩ (.slice la ln lc)) := ((Stays.refl [D] W2).setCell (.inl (by simp)) _).setCell (.inl (by simp)) _
  refine ⟨rfl, (s1.trans hs2 (fun _ e => .inl e)).drew, fun d' e => ?_⟩
  injection e with e
  subst e
  refine ⟨.slice la ln lc, ?_, ?_⟩
  · have k2 := s2
    unfold dfO at k2 ⊢
    show ((W2.setCell ⟨D, 1, none⟩ (.bool true)).setCell ⟨D, 2, none⟩ (.slice la ln lc)).heap[D]? = _
    rw [heap_setCell_at _ (heap_setCell_at _ k2)]
    rfl
  · exact .inl ((hls f rfl : StrsIn fr W2 _ _).on (X' := ((W2.setCell ⟨D, 1, none⟩ (.bool true)).setCell ⟨D, 2, none⟩ (.slice la ln lc)).drew) (fun b hbf => hs2.block b (Nat.lt_of_lt_of_le (HDn.out.2 b hbf) s1.size) (fun hm => HDn.out.1 ((show b = D by simpa using hm) ▸ hbf))) (fun _ e => e))
theorem uid_any (P : Nat) (fr : List Nat) (M : PM) (B D : Nat) (i : Nat) (d : PD) (k n : Int) (t : ByteArray) (ka : Option Addr) (kn kc : Nat) (w : World) (h : MAt P fr M w) (hd : DrIn fr B D i d w) (hD : D ∉ fr) (hi : i < M.rows.length) (hrn : M.rows.length ≤ 1000000) (v : PV) (hv : v.k = k ∧ v.n = n) : Calls Tryd.prog 61 #[.pointer (some ⟨P, 1, none⟩), .pointer (some ⟨D, 0, none⟩), .agg #[.int .i64 k, .int .i64 n, .string t, .slice ka kn kc]] w (LrO fr B D i (learnUid M i d v) w) := by
  obtain ⟨rfl, rfl⟩ := hv
  unfold learnUid
  cases hnm : isNm v.k v.n 1 with
  | false => exact uid_bad P fr M B D i d _ _ t ka kn kc w h hd hD hi hrn hnm
  | true =>
    simp only [Bool.not_true, Bool.false_eq_true, if_false]
    by_cases hu : d.r.uid = 0
    · rw [if_neg (by simp [hu])]
      cases hf : fitsM M.rows i v.n with
      | false => exact uid_unfit P fr M B D i d _ _ t ka kn kc w h hd hD hi hrn hnm hu hf
      | true =>
        simp only [Bool.not_true, Bool.false_eq_true, if_false]
        cases hfw : M.was v.n with
        | none => exact uid_new P fr M B D i d _ _ t ka kn kc w h hd hD hi hrn hnm hu hf hfw
        | some f =>
          cases hkn : d.r.kn with
          | true =>
            have := uid_kept P fr M B D i d _ _ t ka kn kc w h hd hD hi hrn hnm hu hf f hfw hkn
            rw [hkn] at this
            exact this
          | false => exact uid_was P fr M B D i d _ _ t ka kn kc w h hd hD hi hrn hnm hu hf f hfw hkn
    · rw [if_pos (by simpa using hu)]
      exact uid_told P fr M B D i d _ _ t ka kn kc w h hd hD hi hrn hnm hu
end Go.Proofs.YtlmlbcnjohjnlaaDoor

/- mirror: a datum is learnt. -/
namespace Go.Proofs.YtlmlbcnjohjnlaaDoor
open Go.RowKit

def learnD (M : PM) (i : Nat) (d : PD) (x : ByteArray × PV) : Option PD :=
  if (x.1.toList == [85, 73, 68]) = true then learnUid M i d x.2
  else if (x.1.toList == [70, 76, 65, 71, 83]) = true then learnFlags d x.2
  else if (x.1.toList == [77, 79, 68, 83, 69, 81]) = true then learnModseq d x.2
  else some d
set_option maxRecDepth 20000 in
set_option maxHeartbeats 4000000 in
theorem learn_uid (P : Nat) (fr : List Nat) (M : PM) (B D : Nat) (i : Nat) (d : PD) (nm : ByteArray) (k n : Int) (t : ByteArray) (ka : Option Addr) (kn kc : Nat) (l : List (Int × Int × ByteArray)) (w : World) (h : MAt P fr M w) (hd : DrIn fr B D i d w) (hk : KidsA w (.slice ka kn kc) l) (hD : D ∉ fr) (hB : B ≤ w.heap.size) (hi : i < M.rows.length) (hrn : M.rows.length ≤ 1000000) (n1 : (nm.toList == [85, 73, 68]) = true) : Calls Tryd.prog 49 #[.pointer (some ⟨P, 1, none⟩), .pointer (some ⟨D, 0, none⟩), .agg #[.string nm, .int .i64 k, .int .i64 n, .string t, .slice ka kn kc]] w (LrO fr B D i (learnUid M i d ⟨k, n, l⟩) w) := by
  obtain ⟨Y, hY⟩ : ∃ Y, w.alloc (.cells #[.string nm, .int .i64 k, .int .i64 n, .string t, .slice ka kn kc] 66) = Y := ⟨_, rfl⟩
  have b0 : Below w.heap.size w Y := by rw [← hY]; exact (Below.refl _ _).alloc (Nat.le_refl _) _
  have r0 : Y.heap[w.heap.size]? = some (.cells #[.string nm, .int .i64 k, .int .i64 n, .string t, .slice ka kn kc] 66 (0, 0)) := by rw [← hY]; exact heap_new _ _
  have c0 : Y.cell? ⟨w.heap.size, 0, none⟩ = some (.string nm) := cell_of r0 0
  have HRG : Hid (Y.rangeAt w.heap.size 1 [.int .i64 k, .int .i64 n, .string t, .slice ka kn kc]) := Lib.hid (box_range (z := 4) (cs := [.string nm, .int .i64 k, .int .i64 n, .string t, .slice ka kn kc]) r0 1)
  obtain ⟨fv, hdf, hfl⟩ := hd
  have hfrl := h.lt
  have hd0 : DrIn fr B D i d Y := ⟨fv, bel_at b0 (lt_of_heap hdf) hdf, strs_turn (Stays.ofBelow b0) hdf hD hfrl hfl⟩
  have HB0 := Lib.hid b0
  have hall := And.intro hB hk
  clear hall
  have HC := Lib.hid (uid_any P fr M B D i d k n t ka kn kc Y (h.bel b0) hd0 hD hi hrn ⟨k, n, l⟩ ⟨rfl, rfl⟩)
  generalize (learnUid M i d ⟨k, n, l⟩) = res at *
  have HY := Lib.hid hY
  clear hY b0 r0 hfl hdf hfrl hd0 h hk hD hB hi hrn
  go_enter Tryd.func49, Tryd.ntmps49
  go_upto_region 1 with fail
  rw [HY.out]
  clear HY
  go_wp2_with (first | (refine wpList_load_mid rfl 64 _ rfl w.heap.size 1 rfl [.int .i64 k, .int .i64 n, .string t, .slice ka kn kc] _ HRG.out Tryd.underlying64 rfl Tryd.sizeVl ?_) | (go_at_call 61; refine HC.out.mono ?_; rintro e w3 hr; obtain ⟨rfl, hr2, hr3⟩ := hr; have HR := Lib.hid (And.intro hr2 hr3); clear hr2 hr3))
  go_ret
  exact ⟨rfl, (Stays.ofBelow (fp := [D]) HB0.out).trans HR.out.1 (fun _ e => .inl e), HR.out.2⟩
set_option maxRecDepth 20000 in
set_option maxHeartbeats 4000000 in
theorem learn_flags (P : Nat) (fr : List Nat) (M : PM) (B D : Nat) (i : Nat) (d : PD) (nm : ByteArray) (k n : Int) (t : ByteArray) (ka : Option Addr) (kn kc : Nat) (l : List (Int × Int × ByteArray)) (w : World) (h : MAt P fr M w) (hd : DrIn fr B D i d w) (hk : KidsA w (.slice ka kn kc) l) (hD : D ∉ fr) (hB : B ≤ w.heap.size) (hi : i < M.rows.length) (hrn : M.rows.length ≤ 1000000) (n1 : (nm.toList == [85, 73, 68]) = false) (n2 : (nm.toList == [70, 76, 65, 71, 83]) = true) : Calls Tryd.prog 49 #[.pointer (some ⟨P, 1, none⟩), .pointer (some ⟨D, 0, none⟩), .agg #[.string nm, .int .i64 k, .int .i64 n, .string t, .slice ka kn kc]] w (LrO fr B D i (learnFlags d ⟨k, n, l⟩) w) := by
  obtain ⟨Y, hY⟩ : ∃ Y, w.alloc (.cells #[.string nm, .int .i64 k, .int .i64 n, .string t, .slice ka kn kc] 66) = Y := ⟨_, rfl⟩
  have b0 : Below w.heap.size w Y := by rw [← hY]; exact (Below.refl _ _).alloc (Nat.le_refl _) _
  have r0 : Y.heap[w.heap.size]? = some (.cells #[.string nm, .int .i64 k, .int .i64 n, .string t, .slice ka kn kc] 66 (0, 0)) := by rw [← hY]; exact heap_new _ _
  have c0 : Y.cell? ⟨w.heap.size, 0, none⟩ = some (.string nm) := cell_of r0 0
  have HRG : Hid (Y.rangeAt w.heap.size 1 [.int .i64 k, .int .i64 n, .string t, .slice ka kn kc]) := Lib.hid (box_range (z := 4) (cs := [.string nm, .int .i64 k, .int .i64 n, .string t, .slice ka kn kc]) r0 1)
  obtain ⟨fv, hdf, hfl⟩ := hd
  have hfrl := h.lt
  have hd0 : DrIn fr B D i d Y := ⟨fv, bel_at b0 (lt_of_heap hdf) hdf, strs_turn (Stays.ofBelow b0) hdf hD hfrl hfl⟩
  have HB0 := Lib.hid b0
  have hall := And.intro hi hrn
  clear hall
  have HC := Lib.hid (flags_any fr B D i d k n t (.slice ka kn kc) l Y hd0 (hk.on b0) hD (fun b hb => Nat.lt_of_lt_of_le (hfrl b hb) b0.size) (Nat.le_trans hB b0.size))
  generalize (learnFlags d ⟨k, n, l⟩) = res at *
  have HY := Lib.hid hY
  clear hY b0 r0 hfl hdf hfrl hd0 h hk hD hB hi hrn
  go_enter Tryd.func49, Tryd.ntmps49
  go_upto_region 1 with fail
  rw [HY.out]
  clear HY
  go_wp2_with (first | (refine wpList_load_mid rfl 64 _ rfl w.heap.size 1 rfl [.int .i64 k, .int .i64 n, .string t, .slice ka kn kc] _ HRG.out Tryd.underlying64 rfl Tryd.sizeVl ?_) | (go_at_call 62; refine HC.out.mono ?_; rintro e w3 hr; obtain ⟨rfl, hr2, hr3⟩ := hr; have HR := Lib.hid (And.intro hr2 hr3); clear hr2 hr3))
  go_ret
  exact ⟨rfl, (Stays.ofBelow (fp := [D]) HB0.out).trans HR.out.1 (fun _ e => .inl e), HR.out.2⟩
set_option maxRecDepth 20000 in
set_option maxHeartbeats 4000000 in
theorem learn_modseq (P : Nat) (fr : List Nat) (M : PM) (B D : Nat) (i : Nat) (d : PD) (nm : ByteArray) (k n : Int) (t : ByteArray) (ka : Option Addr) (kn kc : Nat) (l : List (Int × Int × ByteArray)) (w : World) (h : MAt P fr M w) (hd : DrIn fr B D i d w) (hk : KidsA w (.slice ka kn kc) l) (hD : D ∉ fr) (hB : B ≤ w.heap.size) (hi : i < M.rows.length) (hrn : M.rows.length ≤ 1000000) (n1 : (nm.toList == [85, 73, 68]) = false) (n2 : (nm.toList == [70, 76, 65, 71, 83]) = false) (n3 : (nm.toList == [77, 79, 68, 83, 69, 81]) = true) : Calls Tryd.prog 49 #[.pointer (some ⟨P, 1, none⟩), .pointer (some ⟨D, 0, none⟩), .agg #[.string nm, .int .i64 k, .int .i64 n, .string t, .slice ka kn kc]] w (LrO fr B D i (learnModseq d ⟨k, n, l⟩) w) := by
  obtain ⟨Y, hY⟩ : ∃ Y, w.alloc (.cells #[.string nm, .int .i64 k, .int .i64 n, .string t, .slice ka kn kc] 66) = Y := ⟨_, rfl⟩
  have b0 : Below w.heap.size w Y := by rw [← hY]; exact (Below.refl _ _).alloc (Nat.le_refl _) _
  have r0 : Y.heap[w.heap.size]? = some (.cells #[.string nm, .int .i64 k, .int .i64 n, .string t, .slice ka kn kc] 66 (0, 0)) := by rw [← hY]; exact heap_new _ _
  have c0 : Y.cell? ⟨w.heap.size, 0, none⟩ = some (.string nm) := cell_of r0 0
  have HRG : Hid (Y.rangeAt w.heap.size 1 [.int .i64 k, .int .i64 n, .string t, .slice ka kn kc]) := Lib.hid (box_range (z := 4) (cs := [.string nm, .int .i64 k, .int .i64 n, .string t, .slice ka kn kc]) r0 1)
  obtain ⟨fv, hdf, hfl⟩ := hd
  have hfrl := h.lt
  have hd0 : DrIn fr B D i d Y := ⟨fv, bel_at b0 (lt_of_heap hdf) hdf, strs_turn (Stays.ofBelow b0) hdf hD hfrl hfl⟩
  have HB0 := Lib.hid b0
  have hall := And.intro hB (And.intro hi hrn)
  clear hall
  have HC := Lib.hid (modseq_any fr B D i d k n t (.slice ka kn kc) l Y hd0 (hk.on b0) hD (fun b hb => Nat.lt_of_lt_of_le (hfrl b hb) b0.size))
  generalize (learnModseq d ⟨k, n, l⟩) = res at *
  have HY := Lib.hid hY
  clear hY b0 r0 hfl hdf hfrl hd0 h hk hD hB hi hrn
  go_enter Tryd.func49, Tryd.ntmps49
  go_upto_region 1 with fail
  rw [HY.out]
  clear HY
  go_wp2_with (first | (refine wpList_load_mid rfl 64 _ rfl w.heap.size 1 rfl [.int .i64 k, .int .i64 n, .string t, .slice ka kn kc] _ HRG.out Tryd.underlying64 rfl Tryd.sizeVl ?_) | (go_at_call 63; refine HC.out.mono ?_; rintro e w3 hr; obtain ⟨rfl, hr2, hr3⟩ := hr; have HR := Lib.hid (And.intro hr2 hr3); clear hr2 hr3))
  go_ret
  exact ⟨rfl, (Stays.ofBelow (fp := [D]) HB0.out).trans HR.out.1 (fun _ e => .inl e), HR.out.2⟩
set_option maxRecDepth 20000 in
set_option maxHeartbeats 4000000 in
theorem learn_other (P : Nat) (fr : List Nat) (M : PM) (B D : Nat) (i : Nat) (d : PD) (nm : ByteArray) (k n : Int) (t : ByteArray) (ka : Option Addr) (kn kc : Nat) (l : List (Int × Int × ByteArray)) (w : World) (h : MAt P fr M w) (hd : DrIn fr B D i d w) (hk : KidsA w (.slice ka kn kc) l) (hD : D ∉ fr) (hB : B ≤ w.heap.size) (hi : i < M.rows.length) (hrn : M.rows.length ≤ 1000000) (n1 : (nm.toList == [85, 73, 68]) = false) (n2 : (nm.toList == [70, 76, 65, 71, 83]) = false) (n3 : (nm.toList == [77, 79, 68, 83, 69, 81]) = false) : Calls Tryd.prog 49 #[.pointer (some ⟨P, 1, none⟩), .pointer (some ⟨D, 0, none⟩), .agg #[.string nm, .int .i64 k, .int .i64 n, .string t, .slice ka kn kc]] w (LrO fr B D i (some d) w) := by
  have hall := And.intro hB (And.intro hi (And.intro hrn hk))
  clear hall
  obtain ⟨Y, hY⟩ : ∃ Y, w.alloc (.cells #[.string nm, .int .i64 k, .int .i64 n, .string t, .slice ka kn kc] 66) = Y := ⟨_, rfl⟩
  have b0 : Below w.heap.size w Y := by rw [← hY]; exact (Below.refl _ _).alloc (Nat.le_refl _) _
  have r0 : Y.heap[w.heap.size]? = some (.cells #[.string nm, .int .i64 k, .int .i64 n, .string t, .slice ka kn kc] 66 (0, 0)) := by rw [← hY]; exact heap_new _ _
  have c0 : Y.cell? ⟨w.heap.size, 0, none⟩ = some (.string nm) := cell_of r0 0
  have HRG : Hid (Y.rangeAt w.heap.size 1 [.int .i64 k, .int .i64 n, .string t, .slice ka kn kc]) := Lib.hid (box_range (z := 4) (cs := [.string nm, .int .i64 k, .int .i64 n, .string t, .slice ka kn kc]) r0 1)
  obtain ⟨fv, hdf, hfl⟩ := hd
  have hfrl := h.lt
  have hd0 : DrIn fr B D i d Y := ⟨fv, bel_at b0 (lt_of_heap hdf) hdf, strs_turn (Stays.ofBelow b0) hdf hD hfrl hfl⟩
  have HB0 := Lib.hid b0
  have HF := Lib.hid hd0
  have HY := Lib.hid hY
  clear hY b0 r0 hfl hdf hfrl hd0 h hk hD hB hi hrn
  go_enter Tryd.func49, Tryd.ntmps49
  go_upto_region 1 with fail
  rw [HY.out]
  clear HY
  go_wp2_with fail
  go_ret
  exact ⟨rfl, Stays.ofBelow HB0.out, fun d' e => by injection e with e; exact e ▸ HF.out⟩
theorem learn_any (P : Nat) (fr : List Nat) (M : PM) (B D : Nat) (i : Nat) (d : PD) (nm : ByteArray) (k n : Int) (t : ByteArray) (ka : Option Addr) (kn kc : Nat) (l : List (Int × Int × ByteArray)) (w : World) (h : MAt P fr M w) (hd : DrIn fr B D i d w) (hk : KidsA w (.slice ka kn kc) l) (hD : D ∉ fr) (hB : B ≤ w.heap.size) (hi : i < M.rows.length) (hrn : M.rows.length ≤ 1000000) : Calls Tryd.prog 49 #[.pointer (some ⟨P, 1, none⟩), .pointer (some ⟨D, 0, none⟩), .agg #[.string nm, .int .i64 k, .int .i64 n, .string t, .slice ka kn kc]] w (LrO fr B D i (learnD M i d (nm, ⟨k, n, l⟩)) w) := by
  unfold learnD
  cases n1 : (nm.toList == [85, 73, 68]) with
  | true => rw [if_pos rfl]; exact learn_uid P fr M B D i d nm k n t ka kn kc l w h hd hk hD hB hi hrn n1
  | false =>
    rw [if_neg (by decide)]
    cases n2 : (nm.toList == [70, 76, 65, 71, 83]) with
    | true => rw [if_pos rfl]; exact learn_flags P fr M B D i d nm k n t ka kn kc l w h hd hk hD hB hi hrn n1 n2
    | false =>
      rw [if_neg (by decide)]
      cases n3 : (nm.toList == [77, 79, 68, 83, 69, 81]) with
      | true => rw [if_pos rfl]; exact learn_modseq P fr M B D i d nm k n t ka kn kc l w h hd hk hD hB hi hrn n1 n2 n3
      | false => rw [if_neg (by decide)]; exact learn_other P fr M B D i d nm k n t ka kn kc l w h hd hk hD hB hi hrn n1 n2 n3
end Go.Proofs.YtlmlbcnjohjnlaaDoor

/- DiskKeeps: notes (Append, Sync, Read, Remove). -/
import Derived.Test.YtbnicjpkfldcdaaDoorK9h
import Derived.Test.YtbnicjpkfldcdaaDoorZv
namespace Go.Proofs.YtbnicjpkfldcdaaDoor
open Go.RowKit Go.Lib

theorem LogOut.pre {B bp : Nat} {vn va vs : Value} {G : List LE} {w W w' : World} (hb : Below w.heap.size w W) (h : LogOut B bp vn va vs G W w') : LogOut B bp vn va vs G w w' := by
  obtain ⟨vn', va', vs', h1, h2, h3⟩ := h
  refine ⟨vn', va', vs', h1, (Stays.ofBelow (fp := fpG bp vn va vs) hb).trans h2 (fun b hb' => .inl hb'), fun b hb' => ?_⟩
  rcases h3 b hb' with e | e
  · exact .inl e
  · exact .inr (Nat.le_trans hb.size e)
set_option maxRecDepth 10000 in
set_option maxHeartbeats 1000000 in
theorem notes_new {B bp : Nat} {vn va vs : Value} {G : List LE} {w : World} (h : LogAt B bp vn va vs G w) (hB : B ≤ w.heap.size) (hl : G.length ≤ 1000000) {on : Int} {name dest data : ByteArray} {n : Int} {sa : Option Addr} {sn sc : Nat} (hi : idxL name G = none) :
    Calls Tryd.prog 14 #[.pointer (some ⟨bp, 0, none⟩), .agg #[.int .i64 1, .int .i64 on, .string name, .string dest, .string data, .int .i64 n, .slice sa sn sc]] w fun e w' => e = .returned (.tuple #[]) ∧ LogOut B bp vn va vs (G ++ [⟨name, data, ⟨#[]⟩⟩]) w w' := by
  have hbx : Below w.heap.size w (w.alloc (.cells #[.int .i64 1, .int .i64 on, .string name, .string dest, .string data, .int .i64 n, .slice sa sn sc] 35)) := (Below.refl _ _).alloc (Nat.le_refl _) _
  have hob := heap_alloc_new w (.cells #[.int .i64 1, .int .i64 on, .string name, .string dest, .string data, .int .i64 n, .slice sa sn sc] 35)
  obtain ⟨W, hW⟩ : ∃ W, w.alloc (.cells #[.int .i64 1, .int .i64 on, .string name, .string dest, .string data, .int .i64 n, .slice sa sn sc] 35) = W := ⟨_, rfl⟩
  rw [hW] at hbx hob
  have d0 := cell_of hob 0
  have d2 := cell_of hob 2
  have d3 := cell_of hob 3
  have d4 := cell_of hob 4
  have d5 := cell_of hob 5
  simp only [List.getElem?_toArray, List.getElem?_cons_zero, List.getElem?_cons_succ] at d0 d2 d3 d4 d5
  have HW := Lib.hid hW
  have HB := Lib.hid hbx
  have hL := h.on hbx
  have hat := at_any hL hl name
  rw [show atL name G = -1 by unfold atL; rw [hi]] at hat
  have HAt := Lib.hid hat
  have HC := Lib.hid (set_new hL (Nat.le_trans hB hbx.size) hl hi data ⟨#[]⟩)
  clear h hB hl hi hat hL hbx hob hW
  go_enter Tryd.func14, Tryd.ntmps14
  go_upto_region 1 with fail
  rw [HW.out]
  go_wp2_with (first | (go_at_call 13; refine HAt.out.mono ?_; rintro e w' ⟨rfl, hw⟩; subst w') | (go_at_call 29; refine HC.out.mono ?_; rintro e w2 ⟨rfl, hO⟩; have HO := Lib.hid hO; clear hO))
  first | refine bodyPost_end (results_none rfl _ _ _) rfl ?_ | refine bodyPost_ret (results_none rfl _ _ _) rfl ?_
  exact ⟨rfl, LogOut.pre HB.out HO.out⟩
set_option maxRecDepth 10000 in
set_option maxHeartbeats 1000000 in
theorem notes_grow {B bp : Nat} {vn va vs : Value} {G : List LE} {w : World} (h : LogAt B bp vn va vs G w) (hl : G.length ≤ 1000000) {on : Int} {name dest data : ByteArray} {n : Int} {sa : Option Addr} {sn sc : Nat} {i : Nat} {x : LE} (hi : idxL name G = some i) (hx : G[i]? = some x) (hsz : x.all.size + data.size ≤ 9223372036854775807) :
    Calls Tryd.prog 14 #[.pointer (some ⟨bp, 0, none⟩), .agg #[.int .i64 1, .int .i64 on, .string name, .string dest, .string data, .int .i64 n, .slice sa sn sc]] w fun e w' => e = .returned (.tuple #[]) ∧ LogOut B bp vn va vs (G.set i ⟨x.name, x.all ++ data, x.sure⟩) w w' := by
  have hbx : Below w.heap.size w (w.alloc (.cells #[.int .i64 1, .int .i64 on, .string name, .string dest, .string data, .int .i64 n, .slice sa sn sc] 35)) := (Below.refl _ _).alloc (Nat.le_refl _) _
  have hob := heap_alloc_new w (.cells #[.int .i64 1, .int .i64 on, .string name, .string dest, .string data, .int .i64 n, .slice sa sn sc] 35)
  obtain ⟨W, hW⟩ : ∃ W, w.alloc (.cells #[.int .i64 1, .int .i64 on, .string name, .string dest, .string data, .int .i64 n, .slice sa sn sc] 35) = W := ⟨_, rfl⟩
  rw [hW] at hbx hob
  have d0 := cell_of hob 0
  have d2 := cell_of hob 2
  have d3 := cell_of hob 3
  have d4 := cell_of hob 4
  have d5 := cell_of hob 5
  simp only [List.getElem?_toArray, List.getElem?_cons_zero, List.getElem?_cons_succ] at d0 d2 d3 d4 d5
  have HW := Lib.hid hW
  have HB := Lib.hid hbx
  have hL := h.on hbx
  have hat := at_any hL hl name
  rw [show atL name G = (i : Int) by unfold atL; rw [hi]] at hat
  have HAt := Lib.hid hat
  have hil : i < G.length := (List.getElem?_eq_some_iff.1 hx).1
  obtain ⟨g1, k1, hv1, c1, z1, p1⟩ := hL.put1 (i := i) (y := x.all) (by rw [List.getElem?_map, hx]; rfl)
  obtain ⟨h1, f1⟩ := p1 (x.all ++ data)
  rw [List.length_map] at hv1
  subst hv1
  have b1 := cell_of hL.self 1
  simp only [List.getElem?_toArray, List.getElem?_cons_zero, List.getElem?_cons_succ] at b1
  have HO : Hid (LogOut B bp vn (.slice (some ⟨g1, 0, none⟩) G.length k1) vs (G.set i ⟨x.name, x.all ++ data, x.sure⟩) w (W.setCell ⟨g1, i, none⟩ (.string (x.all ++ data)))) := Lib.hid (LogOut.pre hbx (by
    refine ⟨_, _, _, ?_, f1.1, f1.2⟩
    unfold LogAt
    rw [List.map_set, List.map_set, List.map_set]
    have en : (G.map LE.name).set i x.name = G.map LE.name := set_self (by rw [List.getElem?_map, hx]; rfl)
    have es : (G.map LE.sure).set i x.sure = G.map LE.sure := set_self (by rw [List.getElem?_map, hx]; rfl)
    simp only [en, es]
    exact h1))
  clear h hi hat hL hbx hob hW p1 h1 f1 hx
  generalize x.all = xa at *
  generalize G.length = l1 at *
  have hii : (i : Int) < (l1 : Int) := by omega
  have hll : (l1 : Int) ≤ 1000000 := by omega
  clear hl hil
  go_enter Tryd.func14, Tryd.ntmps14
  go_upto_region 1 with fail
  rw [HW.out]
  go_wp2_with (go_at_call 13; refine HAt.out.mono ?_; rintro e w' ⟨rfl, hw⟩; subst w')
  refine wp_region_N 16 (fun X => X = W.drew) (by kernel_rfl) ?_
  refine wpAnyN_take (i := 0) (oi := { dst := some 23, op := Go.Op.move (Go.Operand.tmp 0), type := 29, pos := "outright.go:66", after := #[], guard := none }) (oL := { dst := none, op := Go.Op.store 9 (Go.Operand.tmp 38) (Go.Operand.tmp 37), type := 0, pos := "outright.go:66", after := #[{ on := 15, ground := Go.Ground.data }, { on := 14, ground := Go.Ground.data }, { on := 0, ground := Go.Ground.phase }, { on := 1, ground := Go.Ground.phase }, { on := 2, ground := Go.Ground.phase }, { on := 3, ground := Go.Ground.phase }, { on := 4, ground := Go.Ground.phase }, { on := 5, ground := Go.Ground.phase }, { on := 6, ground := Go.Ground.phase }, { on := 7, ground := Go.Ground.phase }, { on := 8, ground := Go.Ground.phase }, { on := 9, ground := Go.Ground.phase }, { on := 10, ground := Go.Ground.phase }, { on := 11, ground := Go.Ground.phase }, { on := 12, ground := Go.Ground.phase }, { on := 13, ground := Go.Ground.phase }, { on := 14, ground := Go.Ground.phase }], guard := none }) (v := .pointer (some ⟨bp, 0, none⟩)) rfl rfl (by kernel_rfl) (by kernel_rfl) (by kernel_rfl) (by kernel_rfl) (fun _ _ _ h => h) (Or.inl ⟨by kernel_rfl, ?_⟩) rfl ?_
  · (intro X hX; subst hX <;> (go_simp; (try (with_reducible rfl)); (try omega)))
  (try simp only [Act.put, List.setIfInBounds_toArray, List.set_cons_zero, List.set_cons_succ])
  refine wpAnyN_take (i := 1) (oi := { dst := some 24, op := Go.Op.nilCheck (Go.Operand.tmp 23), type := 0, pos := "outright.go:66", after := #[{ on := 0, ground := Go.Ground.data }], guard := none }) (oL := { dst := none, op := Go.Op.store 9 (Go.Operand.tmp 38) (Go.Operand.tmp 37), type := 0, pos := "outright.go:66", after := #[{ on := 15, ground := Go.Ground.data }, { on := 14, ground := Go.Ground.data }, { on := 0, ground := Go.Ground.phase }, { on := 1, ground := Go.Ground.phase }, { on := 2, ground := Go.Ground.phase }, { on := 3, ground := Go.Ground.phase }, { on := 4, ground := Go.Ground.phase }, { on := 5, ground := Go.Ground.phase }, { on := 6, ground := Go.Ground.phase }, { on := 7, ground := Go.Ground.phase }, { on := 8, ground := Go.Ground.phase }, { on := 9, ground := Go.Ground.phase }, { on := 10, ground := Go.Ground.phase }, { on := 11, ground := Go.Ground.phase }, { on := 12, ground := Go.Ground.phase }, { on := 13, ground := Go.Ground.phase }, { on := 14, ground := Go.Ground.phase }], guard := none }) (v := .pointer (some ⟨bp, 0, none⟩)) rfl rfl (by kernel_rfl) (by kernel_rfl) (by kernel_rfl) (by kernel_rfl) (fun _ _ _ h => h) (Or.inl ⟨by kernel_rfl, ?_⟩) rfl ?_
  · (intro X hX; subst hX <;> (go_simp; (try (with_reducible rfl)); (try omega)))
  (try simp only [Act.put, List.setIfInBounds_toArray, List.set_cons_zero, List.set_cons_succ])
  refine wpAnyN_take (i := 2) (oi := { dst := some 25, op := Go.Op.fieldAddr 32 (Go.Operand.tmp 24) 1, type := 0, pos := "outright.go:66", after := #[{ on := 1, ground := Go.Ground.data }], guard := none }) (oL := { dst := none, op := Go.Op.store 9 (Go.Operand.tmp 38) (Go.Operand.tmp 37), type := 0, pos := "outright.go:66", after := #[{ on := 15, ground := Go.Ground.data }, { on := 14, ground := Go.Ground.data }, { on := 0, ground := Go.Ground.phase }, { on := 1, ground := Go.Ground.phase }, { on := 2, ground := Go.Ground.phase }, { on := 3, ground := Go.Ground.phase }, { on := 4, ground := Go.Ground.phase }, { on := 5, ground := Go.Ground.phase }, { on := 6, ground := Go.Ground.phase }, { on := 7, ground := Go.Ground.phase }, { on := 8, ground := Go.Ground.phase }, { on := 9, ground := Go.Ground.phase }, { on := 10, ground := Go.Ground.phase }, { on := 11, ground := Go.Ground.phase }, { on := 12, ground := Go.Ground.phase }, { on := 13, ground := Go.Ground.phase }, { on := 14, ground := Go.Ground.phase }], guard := none }) (v := .pointer (some ⟨bp, 1, none⟩)) rfl rfl (by kernel_rfl) (by kernel_rfl) (by kernel_rfl) (by kernel_rfl) (fun _ _ _ h => h) (Or.inl ⟨by kernel_rfl, ?_⟩) rfl ?_
  · (intro X hX; subst hX <;> (go_simp; (try (with_reducible rfl)); (try omega)))
  (try simp only [Act.put, List.setIfInBounds_toArray, List.set_cons_zero, List.set_cons_succ])
  refine wpAnyN_take (i := 3) (oi := { dst := some 26, op := Go.Op.load 30 (Go.Operand.tmp 25), type := 30, pos := "outright.go:66", after := #[{ on := 2, ground := Go.Ground.data }], guard := none }) (oL := { dst := none, op := Go.Op.store 9 (Go.Operand.tmp 38) (Go.Operand.tmp 37), type := 0, pos := "outright.go:66", after := #[{ on := 15, ground := Go.Ground.data }, { on := 14, ground := Go.Ground.data }, { on := 0, ground := Go.Ground.phase }, { on := 1, ground := Go.Ground.phase }, { on := 2, ground := Go.Ground.phase }, { on := 3, ground := Go.Ground.phase }, { on := 4, ground := Go.Ground.phase }, { on := 5, ground := Go.Ground.phase }, { on := 6, ground := Go.Ground.phase }, { on := 7, ground := Go.Ground.phase }, { on := 8, ground := Go.Ground.phase }, { on := 9, ground := Go.Ground.phase }, { on := 10, ground := Go.Ground.phase }, { on := 11, ground := Go.Ground.phase }, { on := 12, ground := Go.Ground.phase }, { on := 13, ground := Go.Ground.phase }, { on := 14, ground := Go.Ground.phase }], guard := none }) (v := .slice (some ⟨g1, 0, none⟩) l1 k1) rfl rfl (by kernel_rfl) (by kernel_rfl) (by kernel_rfl) (by kernel_rfl) (fun _ _ _ h => h) (Or.inl ⟨by kernel_rfl, ?_⟩) rfl ?_
  · (intro X hX; subst hX <;> (go_simp; (try (with_reducible rfl)); (try omega)))
  (try simp only [Act.put, List.setIfInBounds_toArray, List.set_cons_zero, List.set_cons_succ])
  refine wpAnyN_take (i := 4) (oi := { dst := some 27, op := Go.Op.move (Go.Operand.tmp 4), type := 3, pos := "outright.go:66", after := #[], guard := none }) (oL := { dst := none, op := Go.Op.store 9 (Go.Operand.tmp 38) (Go.Operand.tmp 37), type := 0, pos := "outright.go:66", after := #[{ on := 15, ground := Go.Ground.data }, { on := 14, ground := Go.Ground.data }, { on := 0, ground := Go.Ground.phase }, { on := 1, ground := Go.Ground.phase }, { on := 2, ground := Go.Ground.phase }, { on := 3, ground := Go.Ground.phase }, { on := 4, ground := Go.Ground.phase }, { on := 5, ground := Go.Ground.phase }, { on := 6, ground := Go.Ground.phase }, { on := 7, ground := Go.Ground.phase }, { on := 8, ground := Go.Ground.phase }, { on := 9, ground := Go.Ground.phase }, { on := 10, ground := Go.Ground.phase }, { on := 11, ground := Go.Ground.phase }, { on := 12, ground := Go.Ground.phase }, { on := 13, ground := Go.Ground.phase }, { on := 14, ground := Go.Ground.phase }], guard := none }) (v := .int .i64 (i : Int)) rfl rfl (by kernel_rfl) (by kernel_rfl) (by kernel_rfl) (by kernel_rfl) (fun _ _ _ h => h) (Or.inl ⟨by kernel_rfl, ?_⟩) rfl ?_
  · (intro X hX; subst hX <;> (go_simp; (try (with_reducible rfl)); (try omega)))
  (try simp only [Act.put, List.setIfInBounds_toArray, List.set_cons_zero, List.set_cons_succ])
  refine wpAnyN_take (i := 5) (oi := { dst := some 28, op := Go.Op.move (Go.Operand.tmp 0), type := 29, pos := "outright.go:66", after := #[], guard := none }) (oL := { dst := none, op := Go.Op.store 9 (Go.Operand.tmp 38) (Go.Operand.tmp 37), type := 0, pos := "outright.go:66", after := #[{ on := 15, ground := Go.Ground.data }, { on := 14, ground := Go.Ground.data }, { on := 0, ground := Go.Ground.phase }, { on := 1, ground := Go.Ground.phase }, { on := 2, ground := Go.Ground.phase }, { on := 3, ground := Go.Ground.phase }, { on := 4, ground := Go.Ground.phase }, { on := 5, ground := Go.Ground.phase }, { on := 6, ground := Go.Ground.phase }, { on := 7, ground := Go.Ground.phase }, { on := 8, ground := Go.Ground.phase }, { on := 9, ground := Go.Ground.phase }, { on := 10, ground := Go.Ground.phase }, { on := 11, ground := Go.Ground.phase }, { on := 12, ground := Go.Ground.phase }, { on := 13, ground := Go.Ground.phase }, { on := 14, ground := Go.Ground.phase }], guard := none }) (v := .pointer (some ⟨bp, 0, none⟩)) rfl rfl (by kernel_rfl) (by kernel_rfl) (by kernel_rfl) (by kernel_rfl) (fun _ _ _ h => h) (Or.inl ⟨by kernel_rfl, ?_⟩) rfl ?_
  · (intro X hX; subst hX <;> (go_simp; (try (with_reducible rfl)); (try omega)))
  (try simp only [Act.put, List.setIfInBounds_toArray, List.set_cons_zero, List.set_cons_succ])
  refine wpAnyN_take (i := 6) (oi := { dst := some 29, op := Go.Op.nilCheck (Go.Operand.tmp 28), type := 0, pos := "outright.go:66", after := #[{ on := 5, ground := Go.Ground.data }], guard := none }) (oL := { dst := none, op := Go.Op.store 9 (Go.Operand.tmp 38) (Go.Operand.tmp 37), type := 0, pos := "outright.go:66", after := #[{ on := 15, ground := Go.Ground.data }, { on := 14, ground := Go.Ground.data }, { on := 0, ground := Go.Ground.phase }, { on := 1, ground := Go.Ground.phase }, { on := 2, ground := Go.Ground.phase }, { on := 3, ground := Go.Ground.phase }, { on := 4, ground := Go.Ground.phase }, { on := 5, ground := Go.Ground.phase }, { on := 6, ground := Go.Ground.phase }, { on := 7, ground := Go.Ground.phase }, { on := 8, ground := Go.Ground.phase }, { on := 9, ground := Go.Ground.phase }, { on := 10, ground := Go.Ground.phase }, { on := 11, ground := Go.Ground.phase }, { on := 12, ground := Go.Ground.phase }, { on := 13, ground := Go.Ground.phase }, { on := 14, ground := Go.Ground.phase }], guard := none }) (v := .pointer (some ⟨bp, 0, none⟩)) rfl rfl (by kernel_rfl) (by kernel_rfl) (by kernel_rfl) (by kernel_rfl) (fun _ _ _ h => h) (Or.inl ⟨by kernel_rfl, ?_⟩) rfl ?_
  · (intro X hX; subst hX <;> (go_simp; (try (with_reducible rfl)); (try omega)))
  (try simp only [Act.put, List.setIfInBounds_toArray, List.set_cons_zero, List.set_cons_succ])
  refine wpAnyN_take (i := 7) (oi := { dst := some 30, op := Go.Op.fieldAddr 32 (Go.Operand.tmp 29) 1, type := 0, pos := "outright.go:66", after := #[{ on := 6, ground := Go.Ground.data }], guard := none }) (oL := { dst := none, op := Go.Op.store 9 (Go.Operand.tmp 38) (Go.Operand.tmp 37), type := 0, pos := "outright.go:66", after := #[{ on := 15, ground := Go.Ground.data }, { on := 14, ground := Go.Ground.data }, { on := 0, ground := Go.Ground.phase }, { on := 1, ground := Go.Ground.phase }, { on := 2, ground := Go.Ground.phase }, { on := 3, ground := Go.Ground.phase }, { on := 4, ground := Go.Ground.phase }, { on := 5, ground := Go.Ground.phase }, { on := 6, ground := Go.Ground.phase }, { on := 7, ground := Go.Ground.phase }, { on := 8, ground := Go.Ground.phase }, { on := 9, ground := Go.Ground.phase }, { on := 10, ground := Go.Ground.phase }, { on := 11, ground := Go.Ground.phase }, { on := 12, ground := Go.Ground.phase }, { on := 13, ground := Go.Ground.phase }, { on := 14, ground := Go.Ground.phase }], guard := none }) (v := .pointer (some ⟨bp, 1, none⟩)) rfl rfl (by kernel_rfl) (by kernel_rfl) (by kernel_rfl) (by kernel_rfl) (fun _ _ _ h => h) (Or.inl ⟨by kernel_rfl, ?_⟩) rfl ?_
  · (intro X hX; subst hX <;> (go_simp; (try (with_reducible rfl)); (try omega)))
  (try simp only [Act.put, List.setIfInBounds_toArray, List.set_cons_zero, List.set_cons_succ])
  refine wpAnyN_take (i := 8) (oi := { dst := some 31, op := Go.Op.load 30 (Go.Operand.tmp 30), type := 30, pos := "outright.go:66", after := #[{ on := 7, ground := Go.Ground.data }], guard := none }) (oL := { dst := none, op := Go.Op.store 9 (Go.Operand.tmp 38) (Go.Operand.tmp 37), type := 0, pos := "outright.go:66", after := #[{ on := 15, ground := Go.Ground.data }, { on := 14, ground := Go.Ground.data }, { on := 0, ground := Go.Ground.phase }, { on := 1, ground := Go.Ground.phase }, { on := 2, ground := Go.Ground.phase }, { on := 3, ground := Go.Ground.phase }, { on := 4, ground := Go.Ground.phase }, { on := 5, ground := Go.Ground.phase }, { on := 6, ground := Go.Ground.phase }, { on := 7, ground := Go.Ground.phase }, { on := 8, ground := Go.Ground.phase }, { on := 9, ground := Go.Ground.phase }, { on := 10, ground := Go.Ground.phase }, { on := 11, ground := Go.Ground.phase }, { on := 12, ground := Go.Ground.phase }, { on := 13, ground := Go.Ground.phase }, { on := 14, ground := Go.Ground.phase }], guard := none }) (v := .slice (some ⟨g1, 0, none⟩) l1 k1) rfl rfl (by kernel_rfl) (by kernel_rfl) (by kernel_rfl) (by kernel_rfl) (fun _ _ _ h => h) (Or.inl ⟨by kernel_rfl, ?_⟩) rfl ?_
  · (intro X hX; subst hX <;> (go_simp; (try (with_reducible rfl)); (try omega)))
  (try simp only [Act.put, List.setIfInBounds_toArray, List.set_cons_zero, List.set_cons_succ])
  refine wpAnyN_take (i := 9) (oi := { dst := some 32, op := Go.Op.move (Go.Operand.tmp 4), type := 3, pos := "outright.go:66", after := #[], guard := none }) (oL := { dst := none, op := Go.Op.store 9 (Go.Operand.tmp 38) (Go.Operand.tmp 37), type := 0, pos := "outright.go:66", after := #[{ on := 15, ground := Go.Ground.data }, { on := 14, ground := Go.Ground.data }, { on := 0, ground := Go.Ground.phase }, { on := 1, ground := Go.Ground.phase }, { on := 2, ground := Go.Ground.phase }, { on := 3, ground := Go.Ground.phase }, { on := 4, ground := Go.Ground.phase }, { on := 5, ground := Go.Ground.phase }, { on := 6, ground := Go.Ground.phase }, { on := 7, ground := Go.Ground.phase }, { on := 8, ground := Go.Ground.phase }, { on := 9, ground := Go.Ground.phase }, { on := 10, ground := Go.Ground.phase }, { on := 11, ground := Go.Ground.phase }, { on := 12, ground := Go.Ground.phase }, { on := 13, ground := Go.Ground.phase }, { on := 14, ground := Go.Ground.phase }], guard := none }) (v := .int .i64 (i : Int)) rfl rfl (by kernel_rfl) (by kernel_rfl) (by kernel_rfl) (by kernel_rfl) (fun _ _ _ h => h) (Or.inl ⟨by kernel_rfl, ?_⟩) rfl ?_
  · (intro X hX; subst hX <;> (go_simp; (try (with_reducible rfl)); (try omega)))
  (try simp only [Act.put, List.setIfInBounds_toArray, List.set_cons_zero, List.set_cons_succ])
  refine wpAnyN_take (i := 10) (oi := { dst := some 33, op := Go.Op.indexAddr 30 (Go.Operand.tmp 31) (Go.Operand.tmp 32), type := 0, pos := "outright.go:66", after := #[{ on := 8, ground := Go.Ground.data }, { on := 9, ground := Go.Ground.data }], guard := none }) (oL := { dst := none, op := Go.Op.store 9 (Go.Operand.tmp 38) (Go.Operand.tmp 37), type := 0, pos := "outright.go:66", after := #[{ on := 15, ground := Go.Ground.data }, { on := 14, ground := Go.Ground.data }, { on := 0, ground := Go.Ground.phase }, { on := 1, ground := Go.Ground.phase }, { on := 2, ground := Go.Ground.phase }, { on := 3, ground := Go.Ground.phase }, { on := 4, ground := Go.Ground.phase }, { on := 5, ground := Go.Ground.phase }, { on := 6, ground := Go.Ground.phase }, { on := 7, ground := Go.Ground.phase }, { on := 8, ground := Go.Ground.phase }, { on := 9, ground := Go.Ground.phase }, { on := 10, ground := Go.Ground.phase }, { on := 11, ground := Go.Ground.phase }, { on := 12, ground := Go.Ground.phase }, { on := 13, ground := Go.Ground.phase }, { on := 14, ground := Go.Ground.phase }], guard := none }) (v := .pointer (some ⟨g1, i, none⟩)) rfl rfl (by kernel_rfl) (by kernel_rfl) (by kernel_rfl) (by kernel_rfl) (fun _ _ _ h => h) (Or.inl ⟨by kernel_rfl, ?_⟩) rfl ?_
  · (intro X hX; subst hX <;> (go_simp; (try (with_reducible rfl)); (try omega)))
  (try simp only [Act.put, List.setIfInBounds_toArray, List.set_cons_zero, List.set_cons_succ])
  refine wpAnyN_take (i := 11) (oi := { dst := some 34, op := Go.Op.load 9 (Go.Operand.tmp 33), type := 9, pos := "outright.go:66", after := #[{ on := 10, ground := Go.Ground.data }], guard := none }) (oL := { dst := none, op := Go.Op.store 9 (Go.Operand.tmp 38) (Go.Operand.tmp 37), type := 0, pos := "outright.go:66", after := #[{ on := 15, ground := Go.Ground.data }, { on := 14, ground := Go.Ground.data }, { on := 0, ground := Go.Ground.phase }, { on := 1, ground := Go.Ground.phase }, { on := 2, ground := Go.Ground.phase }, { on := 3, ground := Go.Ground.phase }, { on := 4, ground := Go.Ground.phase }, { on := 5, ground := Go.Ground.phase }, { on := 6, ground := Go.Ground.phase }, { on := 7, ground := Go.Ground.phase }, { on := 8, ground := Go.Ground.phase }, { on := 9, ground := Go.Ground.phase }, { on := 10, ground := Go.Ground.phase }, { on := 11, ground := Go.Ground.phase }, { on := 12, ground := Go.Ground.phase }, { on := 13, ground := Go.Ground.phase }, { on := 14, ground := Go.Ground.phase }], guard := none }) (v := .string xa) rfl rfl (by kernel_rfl) (by kernel_rfl) (by kernel_rfl) (by kernel_rfl) (fun _ _ _ h => h) (Or.inl ⟨by kernel_rfl, ?_⟩) rfl ?_
  · (intro X hX; subst hX <;> (go_simp; (try (with_reducible rfl)); (try omega)))
  (try simp only [Act.put, List.setIfInBounds_toArray, List.set_cons_zero, List.set_cons_succ])
  refine wpAnyN_take (i := 12) (oi := { dst := some 35, op := Go.Op.fieldAddr 35 (Go.Operand.tmp 3) 4, type := 0, pos := "outright.go:66", after := #[], guard := none }) (oL := { dst := none, op := Go.Op.store 9 (Go.Operand.tmp 38) (Go.Operand.tmp 37), type := 0, pos := "outright.go:66", after := #[{ on := 15, ground := Go.Ground.data }, { on := 14, ground := Go.Ground.data }, { on := 0, ground := Go.Ground.phase }, { on := 1, ground := Go.Ground.phase }, { on := 2, ground := Go.Ground.phase }, { on := 3, ground := Go.Ground.phase }, { on := 4, ground := Go.Ground.phase }, { on := 5, ground := Go.Ground.phase }, { on := 6, ground := Go.Ground.phase }, { on := 7, ground := Go.Ground.phase }, { on := 8, ground := Go.Ground.phase }, { on := 9, ground := Go.Ground.phase }, { on := 10, ground := Go.Ground.phase }, { on := 11, ground := Go.Ground.phase }, { on := 12, ground := Go.Ground.phase }, { on := 13, ground := Go.Ground.phase }, { on := 14, ground := Go.Ground.phase }], guard := none }) (v := .pointer (some ⟨w.heap.size, 4, none⟩)) rfl rfl (by kernel_rfl) (by kernel_rfl) (by kernel_rfl) (by kernel_rfl) (fun _ _ _ h => h) (Or.inl ⟨by kernel_rfl, ?_⟩) rfl ?_
  · (intro X hX; subst hX <;> (go_simp; (try (with_reducible rfl)); (try omega)))
  (try simp only [Act.put, List.setIfInBounds_toArray, List.set_cons_zero, List.set_cons_succ])
  refine wpAnyN_take (i := 13) (oi := { dst := some 36, op := Go.Op.load 9 (Go.Operand.tmp 35), type := 9, pos := "outright.go:66", after := #[{ on := 12, ground := Go.Ground.data }], guard := none }) (oL := { dst := none, op := Go.Op.store 9 (Go.Operand.tmp 38) (Go.Operand.tmp 37), type := 0, pos := "outright.go:66", after := #[{ on := 15, ground := Go.Ground.data }, { on := 14, ground := Go.Ground.data }, { on := 0, ground := Go.Ground.phase }, { on := 1, ground := Go.Ground.phase }, { on := 2, ground := Go.Ground.phase }, { on := 3, ground := Go.Ground.phase }, { on := 4, ground := Go.Ground.phase }, { on := 5, ground := Go.Ground.phase }, { on := 6, ground := Go.Ground.phase }, { on := 7, ground := Go.Ground.phase }, { on := 8, ground := Go.Ground.phase }, { on := 9, ground := Go.Ground.phase }, { on := 10, ground := Go.Ground.phase }, { on := 11, ground := Go.Ground.phase }, { on := 12, ground := Go.Ground.phase }, { on := 13, ground := Go.Ground.phase }, { on := 14, ground := Go.Ground.phase }], guard := none }) (v := .string data) rfl rfl (by kernel_rfl) (by kernel_rfl) (by kernel_rfl) (by kernel_rfl) (fun _ _ _ h => h) (Or.inl ⟨by kernel_rfl, ?_⟩) rfl ?_
  · (intro X hX; subst hX <;> (go_simp; (try (with_reducible rfl)); (try omega)))
  (try simp only [Act.put, List.setIfInBounds_toArray, List.set_cons_zero, List.set_cons_succ])
  refine wpAnyN_take (i := 14) (oi := { dst := some 37, op := Go.Op.binOp Go.BinOp.add 9 (Go.Operand.tmp 34) (Go.Operand.tmp 36) 9, type := 9, pos := "outright.go:66", after := #[{ on := 11, ground := Go.Ground.data }, { on := 13, ground := Go.Ground.data }], guard := none }) (oL := { dst := none, op := Go.Op.store 9 (Go.Operand.tmp 38) (Go.Operand.tmp 37), type := 0, pos := "outright.go:66", after := #[{ on := 15, ground := Go.Ground.data }, { on := 14, ground := Go.Ground.data }, { on := 0, ground := Go.Ground.phase }, { on := 1, ground := Go.Ground.phase }, { on := 2, ground := Go.Ground.phase }, { on := 3, ground := Go.Ground.phase }, { on := 4, ground := Go.Ground.phase }, { on := 5, ground := Go.Ground.phase }, { on := 6, ground := Go.Ground.phase }, { on := 7, ground := Go.Ground.phase }, { on := 8, ground := Go.Ground.phase }, { on := 9, ground := Go.Ground.phase }, { on := 10, ground := Go.Ground.phase }, { on := 11, ground := Go.Ground.phase }, { on := 12, ground := Go.Ground.phase }, { on := 13, ground := Go.Ground.phase }, { on := 14, ground := Go.Ground.phase }], guard := none }) (v := .string (xa ++ data)) rfl rfl (by kernel_rfl) (by kernel_rfl) (by kernel_rfl) (by kernel_rfl) (fun _ _ _ h => h) (Or.inl ⟨by kernel_rfl, ?_⟩) rfl ?_
  · (intro X hX; subst hX <;> (go_simp; (try (with_reducible rfl)); (try omega)))
  (try simp only [Act.put, List.setIfInBounds_toArray, List.set_cons_zero, List.set_cons_succ])
  refine wpAnyN_take (i := 15) (oi := { dst := some 38, op := Go.Op.indexAddr 30 (Go.Operand.tmp 26) (Go.Operand.tmp 27), type := 0, pos := "outright.go:66", after := #[{ on := 3, ground := Go.Ground.data }, { on := 4, ground := Go.Ground.data }, { on := 0, ground := Go.Ground.phase }, { on := 1, ground := Go.Ground.phase }, { on := 2, ground := Go.Ground.phase }, { on := 3, ground := Go.Ground.phase }, { on := 4, ground := Go.Ground.phase }, { on := 5, ground := Go.Ground.phase }, { on := 6, ground := Go.Ground.phase }, { on := 7, ground := Go.Ground.phase }, { on := 8, ground := Go.Ground.phase }, { on := 9, ground := Go.Ground.phase }, { on := 10, ground := Go.Ground.phase }, { on := 11, ground := Go.Ground.phase }, { on := 12, ground := Go.Ground.phase }, { on := 13, ground := Go.Ground.phase }, { on := 14, ground := Go.Ground.phase }], guard := none }) (oL := { dst := none, op := Go.Op.store 9 (Go.Operand.tmp 38) (Go.Operand.tmp 37), type := 0, pos := "outright.go:66", after := #[{ on := 15, ground := Go.Ground.data }, { on := 14, ground := Go.Ground.data }, { on := 0, ground := Go.Ground.phase }, { on := 1, ground := Go.Ground.phase }, { on := 2, ground := Go.Ground.phase }, { on := 3, ground := Go.Ground.phase }, { on := 4, ground := Go.Ground.phase }, { on := 5, ground := Go.Ground.phase }, { on := 6, ground := Go.Ground.phase }, { on := 7, ground := Go.Ground.phase }, { on := 8, ground := Go.Ground.phase }, { on := 9, ground := Go.Ground.phase }, { on := 10, ground := Go.Ground.phase }, { on := 11, ground := Go.Ground.phase }, { on := 12, ground := Go.Ground.phase }, { on := 13, ground := Go.Ground.phase }, { on := 14, ground := Go.Ground.phase }], guard := none }) (v := .pointer (some ⟨g1, i, none⟩)) rfl rfl (by kernel_rfl) (by kernel_rfl) (by kernel_rfl) (by kernel_rfl) (fun _ _ _ h => h) (Or.inl ⟨by kernel_rfl, ?_⟩) rfl ?_
  · (intro X hX; subst hX <;> (go_simp; (try (with_reducible rfl)); (try omega)))
  (try simp only [Act.put, List.setIfInBounds_toArray, List.set_cons_zero, List.set_cons_succ])
  refine wpAnyN_one (i := 16) (o := { dst := none, op := Go.Op.store 9 (Go.Operand.tmp 38) (Go.Operand.tmp 37), type := 0, pos := "outright.go:66", after := #[{ on := 15, ground := Go.Ground.data }, { on := 14, ground := Go.Ground.data }, { on := 0, ground := Go.Ground.phase }, { on := 1, ground := Go.Ground.phase }, { on := 2, ground := Go.Ground.phase }, { on := 3, ground := Go.Ground.phase }, { on := 4, ground := Go.Ground.phase }, { on := 5, ground := Go.Ground.phase }, { on := 6, ground := Go.Ground.phase }, { on := 7, ground := Go.Ground.phase }, { on := 8, ground := Go.Ground.phase }, { on := 9, ground := Go.Ground.phase }, { on := 10, ground := Go.Ground.phase }, { on := 11, ground := Go.Ground.phase }, { on := 12, ground := Go.Ground.phase }, { on := 13, ground := Go.Ground.phase }, { on := 14, ground := Go.Ground.phase }], guard := none }) (by kernel_rfl) rfl (fun K hK => ?_)
  go_simp
  refine hK.out _ _ (fun e => absurd (e.symm.trans (by kernel_rfl) : false = true) Bool.false_ne_true) ?_
  clear hK K
  (try simp only [Act.put, List.setIfInBounds_toArray, List.set_cons_zero, List.set_cons_succ])
  refine wpAnyN_of_H (S' := fun _ => True) _ _ _ _ (by kernel_rfl) ?_
  refine wpAnyH_done (by kernel_rfl) ?_ _
  (try go_wp2_with fail)
  first | refine bodyPost_end (results_none rfl _ _ _) rfl ?_ | refine bodyPost_ret (results_none rfl _ _ _) rfl ?_
  exact ⟨rfl, HO.out.like rfl rfl rfl rfl⟩
set_option maxRecDepth 10000 in
set_option maxHeartbeats 1000000 in
theorem notes_sync {B bp : Nat} {vn va vs : Value} {G : List LE} {w : World} (h : LogAt B bp vn va vs G w) (hl : G.length ≤ 1000000) {on : Int} {name dest data : ByteArray} {n : Int} {sa : Option Addr} {sn sc : Nat} {i : Nat} {x : LE} (hi : idxL name G = some i) (hx : G[i]? = some x) :
    Calls Tryd.prog 14 #[.pointer (some ⟨bp, 0, none⟩), .agg #[.int .i64 2, .int .i64 on, .string name, .string dest, .string data, .int .i64 n, .slice sa sn sc]] w fun e w' => e = .returned (.tuple #[]) ∧ LogOut B bp vn va vs (G.set i ⟨x.name, x.all, x.all⟩) w w' := by
  have hbx : Below w.heap.size w (w.alloc (.cells #[.int .i64 2, .int .i64 on, .string name, .string dest, .string data, .int .i64 n, .slice sa sn sc] 35)) := (Below.refl _ _).alloc (Nat.le_refl _) _
  have hob := heap_alloc_new w (.cells #[.int .i64 2, .int .i64 on, .string name, .string dest, .string data, .int .i64 n, .slice sa sn sc] 35)
  obtain ⟨W, hW⟩ : ∃ W, w.alloc (.cells #[.int .i64 2, .int .i64 on, .string name, .string dest, .string data, .int .i64 n, .slice sa sn sc] 35) = W := ⟨_, rfl⟩
  rw [hW] at hbx hob
  have d0 := cell_of hob 0
  have d2 := cell_of hob 2
  have d3 := cell_of hob 3
  have d4 := cell_of hob 4
  have d5 := cell_of hob 5
  simp only [List.getElem?_toArray, List.getElem?_cons_zero, List.getElem?_cons_succ] at d0 d2 d3 d4 d5
  have HW := Lib.hid hW
  have HB := Lib.hid hbx
  have hL := h.on hbx
  have hat := at_any hL hl name
  rw [show atL name G = (i : Int) by unfold atL; rw [hi]] at hat
  have HAt := Lib.hid hat
  have hil : i < G.length := (List.getElem?_eq_some_iff.1 hx).1
  obtain ⟨g1, k1, hv1, c1, z1⟩ := row_at hL.ra (i := i) (x := x.all) (by rw [List.getElem?_map, hx]; rfl)
  obtain ⟨g2, k2, hv2, c2, z2, p2⟩ := hL.put2 (i := i) (y := x.sure) (by rw [List.getElem?_map, hx]; rfl)
  obtain ⟨h2, f2⟩ := p2 x.all
  rw [List.length_map] at hv1 hv2
  subst hv1 hv2
  have b1 := cell_of hL.self 1
  have b2 := cell_of hL.self 2
  simp only [List.getElem?_toArray, List.getElem?_cons_zero, List.getElem?_cons_succ] at b1 b2
  have HO : Hid (LogOut B bp vn (.slice (some ⟨g1, 0, none⟩) G.length k1) (.slice (some ⟨g2, 0, none⟩) G.length k2) (G.set i ⟨x.name, x.all, x.all⟩) w (W.setCell ⟨g2, i, none⟩ (.string x.all))) := Lib.hid (LogOut.pre hbx (by
    refine ⟨_, _, _, ?_, f2.1, f2.2⟩
    unfold LogAt
    rw [List.map_set, List.map_set, List.map_set]
    have en : (G.map LE.name).set i x.name = G.map LE.name := set_self (by rw [List.getElem?_map, hx]; rfl)
    have ea : (G.map LE.all).set i x.all = G.map LE.all := set_self (by rw [List.getElem?_map, hx]; rfl)
    simp only [en, ea]
    exact h2))
  clear h hi hat hL hbx hob hW p2 h2 f2 hx
  generalize x.all = xa at *
  generalize G.length = l1 at *
  have hii : (i : Int) < (l1 : Int) := by omega
  have hll : (l1 : Int) ≤ 1000000 := by omega
  clear hl hil
  go_enter Tryd.func14, Tryd.ntmps14
  go_upto_region 1 with fail
  rw [HW.out]
  go_wp2_with (go_at_call 13; refine HAt.out.mono ?_; rintro e w' ⟨rfl, hw⟩; subst w')
  refine wp_region_N 13 (fun X => X = W.drew) (by kernel_rfl) ?_
  refine wpAnyN_take (i := 0) (oi := { dst := some 41, op := Go.Op.move (Go.Operand.tmp 0), type := 29, pos := "outright.go:68", after := #[], guard := none }) (oL := { dst := none, op := Go.Op.store 9 (Go.Operand.tmp 53) (Go.Operand.tmp 52), type := 0, pos := "outright.go:68", after := #[{ on := 12, ground := Go.Ground.data }, { on := 11, ground := Go.Ground.data }, { on := 0, ground := Go.Ground.phase }, { on := 1, ground := Go.Ground.phase }, { on := 2, ground := Go.Ground.phase }, { on := 3, ground := Go.Ground.phase }, { on := 4, ground := Go.Ground.phase }, { on := 5, ground := Go.Ground.phase }, { on := 6, ground := Go.Ground.phase }, { on := 7, ground := Go.Ground.phase }, { on := 8, ground := Go.Ground.phase }, { on := 9, ground := Go.Ground.phase }, { on := 10, ground := Go.Ground.phase }, { on := 11, ground := Go.Ground.phase }], guard := none }) (v := .pointer (some ⟨bp, 0, none⟩)) rfl rfl (by kernel_rfl) (by kernel_rfl) (by kernel_rfl) (by kernel_rfl) (fun _ _ _ h => h) (Or.inl ⟨by kernel_rfl, ?_⟩) rfl ?_
  · (intro X hX; subst hX <;> (go_simp; (try (with_reducible rfl)); (try omega)))
  (try simp only [Act.put, List.setIfInBounds_toArray, List.set_cons_zero, List.set_cons_succ])
  refine wpAnyN_take (i := 1) (oi := { dst := some 42, op := Go.Op.nilCheck (Go.Operand.tmp 41), type := 0, pos := "outright.go:68", after := #[{ on := 0, ground := Go.Ground.data }], guard := none }) (oL := { dst := none, op := Go.Op.store 9 (Go.Operand.tmp 53) (Go.Operand.tmp 52), type := 0, pos := "outright.go:68", after := #[{ on := 12, ground := Go.Ground.data }, { on := 11, ground := Go.Ground.data }, { on := 0, ground := Go.Ground.phase }, { on := 1, ground := Go.Ground.phase }, { on := 2, ground := Go.Ground.phase }, { on := 3, ground := Go.Ground.phase }, { on := 4, ground := Go.Ground.phase }, { on := 5, ground := Go.Ground.phase }, { on := 6, ground := Go.Ground.phase }, { on := 7, ground := Go.Ground.phase }, { on := 8, ground := Go.Ground.phase }, { on := 9, ground := Go.Ground.phase }, { on := 10, ground := Go.Ground.phase }, { on := 11, ground := Go.Ground.phase }], guard := none }) (v := .pointer (some ⟨bp, 0, none⟩)) rfl rfl (by kernel_rfl) (by kernel_rfl) (by kernel_rfl) (by kernel_rfl) (fun _ _ _ h => h) (Or.inl ⟨by kernel_rfl, ?_⟩) rfl ?_
  · (intro X hX; subst hX <;> (go_simp; (try (with_reducible rfl)); (try omega)))
  (try simp only [Act.put, List.setIfInBounds_toArray, List.set_cons_zero, List.set_cons_succ])
  refine wpAnyN_take (i := 2) (oi := { dst := some 43, op := Go.Op.fieldAddr 32 (Go.Operand.tmp 42) 2, type := 0, pos := "outright.go:68", after := #[{ on := 1, ground := Go.Ground.data }], guard := none }) (oL := { dst := none, op := Go.Op.store 9 (Go.Operand.tmp 53) (Go.Operand.tmp 52), type := 0, pos := "outright.go:68", after := #[{ on := 12, ground := Go.Ground.data }, { on := 11, ground := Go.Ground.data }, { on := 0, ground := Go.Ground.phase }, { on := 1, ground := Go.Ground.phase }, { on := 2, ground := Go.Ground.phase }, { on := 3, ground := Go.Ground.phase }, { on := 4, ground := Go.Ground.phase }, { on := 5, ground := Go.Ground.phase }, { on := 6, ground := Go.Ground.phase }, { on := 7, ground := Go.Ground.phase }, { on := 8, ground := Go.Ground.phase }, { on := 9, ground := Go.Ground.phase }, { on := 10, ground := Go.Ground.phase }, { on := 11, ground := Go.Ground.phase }], guard := none }) (v := .pointer (some ⟨bp, 2, none⟩)) rfl rfl (by kernel_rfl) (by kernel_rfl) (by kernel_rfl) (by kernel_rfl) (fun _ _ _ h => h) (Or.inl ⟨by kernel_rfl, ?_⟩) rfl ?_
  · (intro X hX; subst hX <;> (go_simp; (try (with_reducible rfl)); (try omega)))
  (try simp only [Act.put, List.setIfInBounds_toArray, List.set_cons_zero, List.set_cons_succ])
  refine wpAnyN_take (i := 3) (oi := { dst := some 44, op := Go.Op.load 30 (Go.Operand.tmp 43), type := 30, pos := "outright.go:68", after := #[{ on := 2, ground := Go.Ground.data }], guard := none }) (oL := { dst := none, op := Go.Op.store 9 (Go.Operand.tmp 53) (Go.Operand.tmp 52), type := 0, pos := "outright.go:68", after := #[{ on := 12, ground := Go.Ground.data }, { on := 11, ground := Go.Ground.data }, { on := 0, ground := Go.Ground.phase }, { on := 1, ground := Go.Ground.phase }, { on := 2, ground := Go.Ground.phase }, { on := 3, ground := Go.Ground.phase }, { on := 4, ground := Go.Ground.phase }, { on := 5, ground := Go.Ground.phase }, { on := 6, ground := Go.Ground.phase }, { on := 7, ground := Go.Ground.phase }, { on := 8, ground := Go.Ground.phase }, { on := 9, ground := Go.Ground.phase }, { on := 10, ground := Go.Ground.phase }, { on := 11, ground := Go.Ground.phase }], guard := none }) (v := .slice (some ⟨g2, 0, none⟩) l1 k2) rfl rfl (by kernel_rfl) (by kernel_rfl) (by kernel_rfl) (by kernel_rfl) (fun _ _ _ h => h) (Or.inl ⟨by kernel_rfl, ?_⟩) rfl ?_
  · (intro X hX; subst hX <;> (go_simp; (try (with_reducible rfl)); (try omega)))
  (try simp only [Act.put, List.setIfInBounds_toArray, List.set_cons_zero, List.set_cons_succ])
  refine wpAnyN_take (i := 4) (oi := { dst := some 45, op := Go.Op.move (Go.Operand.tmp 4), type := 3, pos := "outright.go:68", after := #[], guard := none }) (oL := { dst := none, op := Go.Op.store 9 (Go.Operand.tmp 53) (Go.Operand.tmp 52), type := 0, pos := "outright.go:68", after := #[{ on := 12, ground := Go.Ground.data }, { on := 11, ground := Go.Ground.data }, { on := 0, ground := Go.Ground.phase }, { on := 1, ground := Go.Ground.phase }, { on := 2, ground := Go.Ground.phase }, { on := 3, ground := Go.Ground.phase }, { on := 4, ground := Go.Ground.phase }, { on := 5, ground := Go.Ground.phase }, { on := 6, ground := Go.Ground.phase }, { on := 7, ground := Go.Ground.phase }, { on := 8, ground := Go.Ground.phase }, { on := 9, ground := Go.Ground.phase }, { on := 10, ground := Go.Ground.phase }, { on := 11, ground := Go.Ground.phase }], guard := none }) (v := .int .i64 (i : Int)) rfl rfl (by kernel_rfl) (by kernel_rfl) (by kernel_rfl) (by kernel_rfl) (fun _ _ _ h => h) (Or.inl ⟨by kernel_rfl, ?_⟩) rfl ?_
  · (intro X hX; subst hX <;> (go_simp; (try (with_reducible rfl)); (try omega)))
  (try simp only [Act.put, List.setIfInBounds_toArray, List.set_cons_zero, List.set_cons_succ])
  refine wpAnyN_take (i := 5) (oi := { dst := some 46, op := Go.Op.move (Go.Operand.tmp 0), type := 29, pos := "outright.go:68", after := #[], guard := none }) (oL := { dst := none, op := Go.Op.store 9 (Go.Operand.tmp 53) (Go.Operand.tmp 52), type := 0, pos := "outright.go:68", after := #[{ on := 12, ground := Go.Ground.data }, { on := 11, ground := Go.Ground.data }, { on := 0, ground := Go.Ground.phase }, { on := 1, ground := Go.Ground.phase }, { on := 2, ground := Go.Ground.phase }, { on := 3, ground := Go.Ground.phase }, { on := 4, ground := Go.Ground.phase }, { on := 5, ground := Go.Ground.phase }, { on := 6, ground := Go.Ground.phase }, { on := 7, ground := Go.Ground.phase }, { on := 8, ground := Go.Ground.phase }, { on := 9, ground := Go.Ground.phase }, { on := 10, ground := Go.Ground.phase }, { on := 11, ground := Go.Ground.phase }], guard := none }) (v := .pointer (some ⟨bp, 0, none⟩)) rfl rfl (by kernel_rfl) (by kernel_rfl) (by kernel_rfl) (by kernel_rfl) (fun _ _ _ h => h) (Or.inl ⟨by kernel_rfl, ?_⟩) rfl ?_
  · (intro X hX; subst hX <;> (go_simp; (try (with_reducible rfl)); (try omega)))
  (try simp only [Act.put, List.setIfInBounds_toArray, List.set_cons_zero, List.set_cons_succ])
  refine wpAnyN_take (i := 6) (oi := { dst := some 47, op := Go.Op.nilCheck (Go.Operand.tmp 46), type := 0, pos := "outright.go:68", after := #[{ on := 5, ground := Go.Ground.data }], guard := none }) (oL := { dst := none, op := Go.Op.store 9 (Go.Operand.tmp 53) (Go.Operand.tmp 52), type := 0, pos := "outright.go:68", after := #[{ on := 12, ground := Go.Ground.data }, { on := 11, ground := Go.Ground.data }, { on := 0, ground := Go.Ground.phase }, { on := 1, ground := Go.Ground.phase }, { on := 2, ground := Go.Ground.phase }, { on := 3, ground := Go.Ground.phase }, { on := 4, ground := Go.Ground.phase }, { on := 5, ground := Go.Ground.phase }, { on := 6, ground := Go.Ground.phase }, { on := 7, ground := Go.Ground.phase }, { on := 8, ground := Go.Ground.phase }, { on := 9, ground := Go.Ground.phase }, { on := 10, ground := Go.Ground.phase }, { on := 11, ground := Go.Ground.phase }], guard := none }) (v := .pointer (some ⟨bp, 0, none⟩)) rfl rfl (by kernel_rfl) (by kernel_rfl) (by kernel_rfl) (by kernel_rfl) (fun _ _ _ h => h) (Or.inl ⟨by kernel_rfl, ?_⟩) rfl ?_
  · (intro X hX; subst hX <;> (go_simp; (try (with_reducible rfl)); (try omega)))
  (try simp only [Act.put, List.setIfInBounds_toArray, List.set_cons_zero, List.set_cons_succ])
  refine wpAnyN_take (i := 7) (oi := { dst := some 48, op := Go.Op.fieldAddr 32 (Go.Operand.tmp 47) 1, type := 0, pos := "outright.go:68", after := #[{ on := 6, ground := Go.Ground.data }], guard := none }) (oL := { dst := none, op := Go.Op.store 9 (Go.Operand.tmp 53) (Go.Operand.tmp 52), type := 0, pos := "outright.go:68", after := #[{ on := 12, ground := Go.Ground.data }, { on := 11, ground := Go.Ground.data }, { on := 0, ground := Go.Ground.phase }, { on := 1, ground := Go.Ground.phase }, { on := 2, ground := Go.Ground.phase }, { on := 3, ground := Go.Ground.phase }, { on := 4, ground := Go.Ground.phase }, { on := 5, ground := Go.Ground.phase }, { on := 6, ground := Go.Ground.phase }, { on := 7, ground := Go.Ground.phase }, { on := 8, ground := Go.Ground.phase }, { on := 9, ground := Go.Ground.phase }, { on := 10, ground := Go.Ground.phase }, { on := 11, ground := Go.Ground.phase }], guard := none }) (v := .pointer (some ⟨bp, 1, none⟩)) rfl rfl (by kernel_rfl) (by kernel_rfl) (by kernel_rfl) (by kernel_rfl) (fun _ _ _ h => h) (Or.inl ⟨by kernel_rfl, ?_⟩) rfl ?_
  · (intro X hX; subst hX <;> (go_simp; (try (with_reducible rfl)); (try omega)))
  (try simp only [Act.put, List.setIfInBounds_toArray, List.set_cons_zero, List.set_cons_succ])
  refine wpAnyN_take (i := 8) (oi := { dst := some 49, op := Go.Op.load 30 (Go.Operand.tmp 48), type := 30, pos := "outright.go:68", after := #[{ on := 7, ground := Go.Ground.data }], guard := none }) (oL := { dst := none, op := Go.Op.store 9 (Go.Operand.tmp 53) (Go.Operand.tmp 52), type := 0, pos := "outright.go:68", after := #[{ on := 12, ground := Go.Ground.data }, { on := 11, ground := Go.Ground.data }, { on := 0, ground := Go.Ground.phase }, { on := 1, ground := Go.Ground.phase }, { on := 2, ground := Go.Ground.phase }, { on := 3, ground := Go.Ground.phase }, { on := 4, ground := Go.Ground.phase }, { on := 5, ground := Go.Ground.phase }, { on := 6, ground := Go.Ground.phase }, { on := 7, ground := Go.Ground.phase }, { on := 8, ground := Go.Ground.phase }, { on := 9, ground := Go.Ground.phase }, { on := 10, ground := Go.Ground.phase }, { on := 11, ground := Go.Ground.phase }], guard := none }) (v := .slice (some ⟨g1, 0, none⟩) l1 k1) rfl rfl (by kernel_rfl) (by kernel_rfl) (by kernel_rfl) (by kernel_rfl) (fun _ _ _ h => h) (Or.inl ⟨by kernel_rfl, ?_⟩) rfl ?_
  · (intro X hX; subst hX <;> (go_simp; (try (with_reducible rfl)); (try omega)))
  (try simp only [Act.put, List.setIfInBounds_toArray, List.set_cons_zero, List.set_cons_succ])
  refine wpAnyN_take (i := 9) (oi := { dst := some 50, op := Go.Op.move (Go.Operand.tmp 4), type := 3, pos := "outright.go:68", after := #[], guard := none }) (oL := { dst := none, op := Go.Op.store 9 (Go.Operand.tmp 53) (Go.Operand.tmp 52), type := 0, pos := "outright.go:68", after := #[{ on := 12, ground := Go.Ground.data }, { on := 11, ground := Go.Ground.data }, { on := 0, ground := Go.Ground.phase }, { on := 1, ground := Go.Ground.phase }, { on := 2, ground := Go.Ground.phase }, { on := 3, ground := Go.Ground.phase }, { on := 4, ground := Go.Ground.phase }, { on := 5, ground := Go.Ground.phase }, { on := 6, ground := Go.Ground.phase }, { on := 7, ground := Go.Ground.phase }, { on := 8, ground := Go.Ground.phase }, { on := 9, ground := Go.Ground.phase }, { on := 10, ground := Go.Ground.phase }, { on := 11, ground := Go.Ground.phase }], guard := none }) (v := .int .i64 (i : Int)) rfl rfl (by kernel_rfl) (by kernel_rfl) (by kernel_rfl) (by kernel_rfl) (fun _ _ _ h => h) (Or.inl ⟨by kernel_rfl, ?_⟩) rfl ?_
  · (intro X hX; subst hX <;> (go_simp; (try (with_reducible rfl)); (try omega)))
  (try simp only [Act.put, List.setIfInBounds_toArray, List.set_cons_zero, List.set_cons_succ])
  refine wpAnyN_take (i := 10) (oi := { dst := some 51, op := Go.Op.indexAddr 30 (Go.Operand.tmp 49) (Go.Operand.tmp 50), type := 0, pos := "outright.go:68", after := #[{ on := 8, ground := Go.Ground.data }, { on := 9, ground := Go.Ground.data }], guard := none }) (oL := { dst := none, op := Go.Op.store 9 (Go.Operand.tmp 53) (Go.Operand.tmp 52), type := 0, pos := "outright.go:68", after := #[{ on := 12, ground := Go.Ground.data }, { on := 11, ground := Go.Ground.data }, { on := 0, ground := Go.Ground.phase }, { on := 1, ground := Go.Ground.phase }, { on := 2, ground := Go.Ground.phase }, { on := 3, ground := Go.Ground.phase }, { on := 4, ground := Go.Ground.phase }, { on := 5, ground := Go.Ground.phase }, { on := 6, ground := Go.Ground.phase }, { on := 7, ground := Go.Ground.phase }, { on := 8, ground := Go.Ground.phase }, { on := 9, ground := Go.Ground.phase }, { on := 10, ground := Go.Ground.phase }, { on := 11, ground := Go.Ground.phase }], guard := none }) (v := .pointer (some ⟨g1, i, none⟩)) rfl rfl (by kernel_rfl) (by kernel_rfl) (by kernel_rfl) (by kernel_rfl) (fun _ _ _ h => h) (Or.inl ⟨by kernel_rfl, ?_⟩) rfl ?_
  · (intro X hX; subst hX <;> (go_simp; (try (with_reducible rfl)); (try omega)))
  (try simp only [Act.put, List.setIfInBounds_toArray, List.set_cons_zero, List.set_cons_succ])
  refine wpAnyN_take (i := 11) (oi := { dst := some 52, op := Go.Op.load 9 (Go.Operand.tmp 51), type := 9, pos := "outright.go:68", after := #[{ on := 10, ground := Go.Ground.data }], guard := none }) (oL := { dst := none, op := Go.Op.store 9 (Go.Operand.tmp 53) (Go.Operand.tmp 52), type := 0, pos := "outright.go:68", after := #[{ on := 12, ground := Go.Ground.data }, { on := 11, ground := Go.Ground.data }, { on := 0, ground := Go.Ground.phase }, { on := 1, ground := Go.Ground.phase }, { on := 2, ground := Go.Ground.phase }, { on := 3, ground := Go.Ground.phase }, { on := 4, ground := Go.Ground.phase }, { on := 5, ground := Go.Ground.phase }, { on := 6, ground := Go.Ground.phase }, { on := 7, ground := Go.Ground.phase }, { on := 8, ground := Go.Ground.phase }, { on := 9, ground := Go.Ground.phase }, { on := 10, ground := Go.Ground.phase }, { on := 11, ground := Go.Ground.phase }], guard := none }) (v := .string xa) rfl rfl (by kernel_rfl) (by kernel_rfl) (by kernel_rfl) (by kernel_rfl) (fun _ _ _ h => h) (Or.inl ⟨by kernel_rfl, ?_⟩) rfl ?_
  · (intro X hX; subst hX <;> (go_simp; (try (with_reducible rfl)); (try omega)))
  (try simp only [Act.put, List.setIfInBounds_toArray, List.set_cons_zero, List.set_cons_succ])
  refine wpAnyN_take (i := 12) (oi := { dst := some 53, op := Go.Op.indexAddr 30 (Go.Operand.tmp 44) (Go.Operand.tmp 45), type := 0, pos := "outright.go:68", after := #[{ on := 3, ground := Go.Ground.data }, { on := 4, ground := Go.Ground.data }, { on := 0, ground := Go.Ground.phase }, { on := 1, ground := Go.Ground.phase }, { on := 2, ground := Go.Ground.phase }, { on := 3, ground := Go.Ground.phase }, { on := 4, ground := Go.Ground.phase }, { on := 5, ground := Go.Ground.phase }, { on := 6, ground := Go.Ground.phase }, { on := 7, ground := Go.Ground.phase }, { on := 8, ground := Go.Ground.phase }, { on := 9, ground := Go.Ground.phase }, { on := 10, ground := Go.Ground.phase }, { on := 11, ground := Go.Ground.phase }], guard := none }) (oL := { dst := none, op := Go.Op.store 9 (Go.Operand.tmp 53) (Go.Operand.tmp 52), type := 0, pos := "outright.go:68", after := #[{ on := 12, ground := Go.Ground.data }, { on := 11, ground := Go.Ground.data }, { on := 0, ground := Go.Ground.phase }, { on := 1, ground := Go.Ground.phase }, { on := 2, ground := Go.Ground.phase }, { on := 3, ground := Go.Ground.phase }, { on := 4, ground := Go.Ground.phase }, { on := 5, ground := Go.Ground.phase }, { on := 6, ground := Go.Ground.phase }, { on := 7, ground := Go.Ground.phase }, { on := 8, ground := Go.Ground.phase }, { on := 9, ground := Go.Ground.phase }, { on := 10, ground := Go.Ground.phase }, { on := 11, ground := Go.Ground.phase }], guard := none }) (v := .pointer (some ⟨g2, i, none⟩)) rfl rfl (by kernel_rfl) (by kernel_rfl) (by kernel_rfl) (by kernel_rfl) (fun _ _ _ h => h) (Or.inl ⟨by kernel_rfl, ?_⟩) rfl ?_
  · (intro X hX; subst hX <;> (go_simp; (try (with_reducible rfl)); (try omega)))
  (try simp only [Act.put, List.setIfInBounds_toArray, List.set_cons_zero, List.set_cons_succ])
  refine wpAnyN_one (i := 13) (o := { dst := none, op := Go.Op.store 9 (Go.Operand.tmp 53) (Go.Operand.tmp 52), type := 0, pos := "outright.go:68", after := #[{ on := 12, ground := Go.Ground.data }, { on := 11, ground := Go.Ground.data }, { on := 0, ground := Go.Ground.phase }, { on := 1, ground := Go.Ground.phase }, { on := 2, ground := Go.Ground.phase }, { on := 3, ground := Go.Ground.phase }, { on := 4, ground := Go.Ground.phase }, { on := 5, ground := Go.Ground.phase }, { on := 6, ground := Go.Ground.phase }, { on := 7, ground := Go.Ground.phase }, { on := 8, ground := Go.Ground.phase }, { on := 9, ground := Go.Ground.phase }, { on := 10, ground := Go.Ground.phase }, { on := 11, ground := Go.Ground.phase }], guard := none }) (by kernel_rfl) rfl (fun K hK => ?_)
  go_simp
  refine hK.out _ _ (fun e => absurd (e.symm.trans (by kernel_rfl) : false = true) Bool.false_ne_true) ?_
  clear hK K
  (try simp only [Act.put, List.setIfInBounds_toArray, List.set_cons_zero, List.set_cons_succ])
  refine wpAnyN_of_H (S' := fun _ => True) _ _ _ _ (by kernel_rfl) ?_
  refine wpAnyH_done (by kernel_rfl) ?_ _
  (try go_wp2_with fail)
  first | refine bodyPost_end (results_none rfl _ _ _) rfl ?_ | refine bodyPost_ret (results_none rfl _ _ _) rfl ?_
  exact ⟨rfl, HO.out.like rfl rfl rfl rfl⟩
set_option maxRecDepth 10000 in
set_option maxHeartbeats 1000000 in
theorem notes_read {B bp : Nat} {vn va vs : Value} {G : List LE} {w : World} (h : LogAt B bp vn va vs G w) (hl : G.length ≤ 1000000) {on : Int} {name dest data : ByteArray} {n : Int} {sa : Option Addr} {sn sc : Nat}  :
    Calls Tryd.prog 14 #[.pointer (some ⟨bp, 0, none⟩), .agg #[.int .i64 3, .int .i64 on, .string name, .string dest, .string data, .int .i64 n, .slice sa sn sc]] w fun e w' => e = .returned (.tuple #[]) ∧ LogOut B bp vn va vs G w w' := by
  have hbx : Below w.heap.size w (w.alloc (.cells #[.int .i64 3, .int .i64 on, .string name, .string dest, .string data, .int .i64 n, .slice sa sn sc] 35)) := (Below.refl _ _).alloc (Nat.le_refl _) _
  have hob := heap_alloc_new w (.cells #[.int .i64 3, .int .i64 on, .string name, .string dest, .string data, .int .i64 n, .slice sa sn sc] 35)
  obtain ⟨W, hW⟩ : ∃ W, w.alloc (.cells #[.int .i64 3, .int .i64 on, .string name, .string dest, .string data, .int .i64 n, .slice sa sn sc] 35) = W := ⟨_, rfl⟩
  rw [hW] at hbx hob
  have d0 := cell_of hob 0
  have d2 := cell_of hob 2
  have d3 := cell_of hob 3
  have d4 := cell_of hob 4
  have d5 := cell_of hob 5
  simp only [List.getElem?_toArray, List.getElem?_cons_zero, List.getElem?_cons_succ] at d0 d2 d3 d4 d5
  have HW := Lib.hid hW
  have HB := Lib.hid hbx
  have hL := h.on hbx
  have hat := at_any hL hl name
  have HAt := Lib.hid hat
  have HO := Lib.hid (LogOut.of_below h hbx)
  clear h hl hat hL hbx hob hW
  go_enter Tryd.func14, Tryd.ntmps14
  go_upto_region 1 with fail
  rw [HW.out]
  go_wp2_with (go_at_call 13; refine HAt.out.mono ?_; rintro e w' ⟨rfl, hw⟩; subst w')
  first | refine bodyPost_end (results_none rfl _ _ _) rfl ?_ | refine bodyPost_ret (results_none rfl _ _ _) rfl ?_
  exact ⟨rfl, HO.out⟩
set_option maxRecDepth 10000 in
set_option maxHeartbeats 1000000 in
theorem notes_gone {B bp : Nat} {vn va vs : Value} {G M : List LE} {w : World} (h : LogAt B bp vn va vs G w) (hl : G.length ≤ 1000000) {on : Int} {name dest data : ByteArray} {n : Int} {sa : Option Addr} {sn sc : Nat} {z : LE} {i : Nat} (hi : idxL name G = some i) (hG : G = M ++ [z]) :
    Calls Tryd.prog 14 #[.pointer (some ⟨bp, 0, none⟩), .agg #[.int .i64 5, .int .i64 on, .string name, .string dest, .string data, .int .i64 n, .slice sa sn sc]] w fun e w' => e = .returned (.tuple #[]) ∧ LogOut B bp vn va vs ((G.set i z).dropLast) w w' := by
  have hbx : Below w.heap.size w (w.alloc (.cells #[.int .i64 5, .int .i64 on, .string name, .string dest, .string data, .int .i64 n, .slice sa sn sc] 35)) := (Below.refl _ _).alloc (Nat.le_refl _) _
  have hob := heap_alloc_new w (.cells #[.int .i64 5, .int .i64 on, .string name, .string dest, .string data, .int .i64 n, .slice sa sn sc] 35)
  obtain ⟨W, hW⟩ : ∃ W, w.alloc (.cells #[.int .i64 5, .int .i64 on, .string name, .string dest, .string data, .int .i64 n, .slice sa sn sc] 35) = W := ⟨_, rfl⟩
  rw [hW] at hbx hob
  have d0 := cell_of hob 0
  have d2 := cell_of hob 2
  have d3 := cell_of hob 3
  have d4 := cell_of hob 4
  have d5 := cell_of hob 5
  simp only [List.getElem?_toArray, List.getElem?_cons_zero, List.getElem?_cons_succ] at d0 d2 d3 d4 d5
  have HW := Lib.hid hW
  have HB := Lib.hid hbx
  have hL := h.on hbx
  have hat := at_any hL hl name
  rw [show atL name G = (i : Int) by unfold atL; rw [hi]] at hat
  have HAt := Lib.hid hat
  have HC := Lib.hid (free_any hL hl hi hG)
  clear h hl hi hG hat hL hbx hob hW
  go_enter Tryd.func14, Tryd.ntmps14
  go_upto_region 1 with fail
  rw [HW.out]
  go_wp2_with (first | (go_at_call 13; refine HAt.out.mono ?_; rintro e w' ⟨rfl, hw⟩; subst w') | (go_at_call 31; refine HC.out.mono ?_; rintro e w2 ⟨rfl, hO⟩; have HO := Lib.hid hO; clear hO))
  first | refine bodyPost_end (results_none rfl _ _ _) rfl ?_ | refine bodyPost_ret (results_none rfl _ _ _) rfl ?_
  exact ⟨rfl, LogOut.pre HB.out HO.out⟩
end Go.Proofs.YtbnicjpkfldcdaaDoor

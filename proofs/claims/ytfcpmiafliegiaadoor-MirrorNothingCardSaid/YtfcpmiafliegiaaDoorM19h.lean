/- mirror: what the changes do. -/
import Derived.Test.YtfcpmiafliegiaaDoorM19e
namespace Go.Proofs.YtfcpmiafliegiaaDoor
open Go.RowKit

section
variable {W : World} {P : Nat} {q : Value} {sel : Bool} {v n h : Int} {rows was : Value} {bg : Bool}
theorem mir_set0 (hM : W.heap[P]? = some (mirO q sel v n h rows was bg)) (x : Value) : (W.setCell ⟨P, 0, none⟩ x).heap[P]? = some (mirO x sel v n h rows was bg) := by
  unfold mirO mirC at hM ⊢; rw [heap_setCell_at _ hM]; rfl
theorem mir_set1 (hM : W.heap[P]? = some (mirO q sel v n h rows was bg)) (x : Bool) : (W.setCell ⟨P, 1, none⟩ (.bool x)).heap[P]? = some (mirO q x v n h rows was bg) := by
  unfold mirO mirC at hM ⊢; rw [heap_setCell_at _ hM]; rfl
theorem mir_set2 (hM : W.heap[P]? = some (mirO q sel v n h rows was bg)) (x : Int) : (W.setCell ⟨P, 2, none⟩ (.int .i64 x)).heap[P]? = some (mirO q sel x n h rows was bg) := by
  unfold mirO mirC at hM ⊢; rw [heap_setCell_at _ hM]; rfl
theorem mir_set5 (hM : W.heap[P]? = some (mirO q sel v n h rows was bg)) (x : Value) : (W.setCell ⟨P, 5, none⟩ x).heap[P]? = some (mirO q sel v n h x was bg) := by
  unfold mirO mirC at hM ⊢; rw [heap_setCell_at _ hM]; rfl
theorem mir_set6 (hM : W.heap[P]? = some (mirO q sel v n h rows was bg)) (x : Value) : (W.setCell ⟨P, 6, none⟩ x).heap[P]? = some (mirO q sel v n h rows x bg) := by
  unfold mirO mirC at hM ⊢; rw [heap_setCell_at _ hM]; rfl
theorem mir_set7 (hM : W.heap[P]? = some (mirO q sel v n h rows was bg)) (x : Bool) : (W.setCell ⟨P, 7, none⟩ (.bool x)).heap[P]? = some (mirO q sel v n h rows was x) := by
  unfold mirO mirC at hM ⊢; rw [heap_setCell_at _ hM]; rfl
theorem mir_fz (hM : W.heap[P]? = some (mirO q sel v n h rows was bg)) (o : Nat) : W.frozen? ⟨P, o, none⟩ = false := by
  unfold mirO mirC at hM; exact frozen_of hM o
end
def rw2 : Obj := .cells #[.int .i64 0, .bool false, .slice none 0 0, .int .i64 0, .bool false, .slice none 0 0] 98
theorem Tryd.mk2 (X : World) : (Instr.makeSlice 70 (.int .i64 2) (.int .i64 2)).run Tryd.prog X = .ok (.slice (some ⟨X.heap.size, 0, none⟩) 2 2) (X.alloc (.cells #[.int .i64 0, .bool false, .slice none 0 0, .int .i64 0, .bool false, .slice none 0 0] 98)) := by kernel_rfl
set_option maxRecDepth 10000 in
theorem exists1_two (P : Nat) (q : Value) (sel : Bool) (v n h : Int) (rows was : Value) (bg : Bool) (a : AN) (ha : a.num = 2) (ba bp : Nat) (w : World) (hA : w.heap[ba]? = some (anO a)) (hB : w.heap[bp]? = some (ppO P)) (hM : w.heap[P]? = some (mirO q sel v n h rows was bg)) :
    Calls Tryd.prog 42 #[.pointer (some ⟨ba, 0, none⟩), .pointer (some ⟨bp, 0, none⟩)] w fun e w' => e = .returned (.tuple #[]) ∧ Stays [P] w w' ∧ w'.heap[P]? = some (mirO q sel v n h (.slice (some ⟨w.heap.size, 0, none⟩) 2 2) was bg) ∧ w'.heap[w.heap.size]? = some rw2 := by
  have c6 : w.cell? ⟨ba, 6, none⟩ = some (.int .i64 2) := by rw [(an_cells hA).2.2.2.2.2, ha]
  have d0 : w.cell? ⟨bp, 0, none⟩ = some (.pointer (some ⟨P, 1, none⟩)) := by unfold ppO at hB; exact cell_of hB 0
  have hPl := lt_of_heap hM
  have hM2 : (w.alloc rw2).heap[P]? = some (mirO q sel v n h rows was bg) := by rw [Below.heap_alloc _ _ _ hPl]; exact hM
  have m5 := (mir_cells hM2).c5
  have f5 := mir_fz hM2 5
  have fin : Stays [P] w ((w.alloc rw2).setCell ⟨P, 5, none⟩ (.slice (some ⟨w.heap.size, 0, none⟩) 2 2)) ∧ ((w.alloc rw2).setCell ⟨P, 5, none⟩ (.slice (some ⟨w.heap.size, 0, none⟩) 2 2)).heap[P]? = some (mirO q sel v n h (.slice (some ⟨w.heap.size, 0, none⟩) 2 2) was bg) ∧ ((w.alloc rw2).setCell ⟨P, 5, none⟩ (.slice (some ⟨w.heap.size, 0, none⟩) 2 2)).heap[w.heap.size]? = some rw2 :=
    ⟨((Stays.refl _ _).alloc _).setCell (.inl (by simp)) _, mir_set5 hM2 _, by rw [Below.heap_setCell _ _ _ _ (by show w.heap.size ≠ P; omega)]; exact heap_new _ _⟩
  have FIN := Lib.hid fin
  have Q1 : Hid (Below w.heap.size w (w.alloc rw2)) := Lib.hid ((Below.refl _ _).alloc (Nat.le_refl _) _)
  have hAl := lt_of_heap hA
  have hBl := lt_of_heap hB
  clear hA hB hM hPl hM2 fin
  have c6' : (w.alloc rw2).cell? ⟨ba, 6, none⟩ = some (.int .i64 2) := by rw [Q1.out.cell (p := ⟨ba, 6, none⟩) hAl]; exact c6
  have d0' : (w.alloc rw2).cell? ⟨bp, 0, none⟩ = some (.pointer (some ⟨P, 1, none⟩)) := by rw [Q1.out.cell (p := ⟨bp, 0, none⟩) hBl]; exact d0
  have mk := Tryd.mk2
  unfold rw2 at m5 f5 c6' d0'
  clear Q1 hAl hBl
  go_enter Tryd.func42, Tryd.ntmps42
  go_wp2_with fail
  refine wp_region_N 6 (fun X => X = w.drew ∨ X = w.drew.alloc (.cells #[.int .i64 0, .bool false, .slice none 0 0, .int .i64 0, .bool false, .slice none 0 0] 98)) (by kernel_rfl) ?_
  refine wpAnyN_take (i := 0) (oi := { dst := some 2, op := Go.Op.load 96 (Go.Operand.tmp 1), type := 96, pos := "hear.go:124", after := #[], guard := none }) (oL := { dst := none, op := Go.Op.store 70 (Go.Operand.tmp 7) (Go.Operand.tmp 5), type := 0, pos := "hear.go:124", after := #[{ on := 5, ground := Go.Ground.data }, { on := 3, ground := Go.Ground.data }, { on := 0, ground := Go.Ground.phase }, { on := 1, ground := Go.Ground.phase }, { on := 2, ground := Go.Ground.phase }, { on := 3, ground := Go.Ground.phase }], guard := none }) (v := .pointer (some ⟨P, 1, none⟩)) rfl rfl (by kernel_rfl) (by kernel_rfl) (by kernel_rfl) (by kernel_rfl) (fun _ _ _ h => h) (Or.inl ⟨by kernel_rfl, ?_⟩) (.inl rfl) ?_
  · (intro X hX; rcases hX with rfl | rfl <;> (go_simp; try (with_reducible rfl)))
  (try simp only [Act.put, List.setIfInBounds_toArray, List.set_cons_zero, List.set_cons_succ])
  refine wpAnyN_take (i := 1) (oi := { dst := some 3, op := Go.Op.fieldAddr 43 (Go.Operand.tmp 0) 6, type := 0, pos := "hear.go:124", after := #[], guard := none }) (oL := { dst := none, op := Go.Op.store 70 (Go.Operand.tmp 7) (Go.Operand.tmp 5), type := 0, pos := "hear.go:124", after := #[{ on := 5, ground := Go.Ground.data }, { on := 3, ground := Go.Ground.data }, { on := 0, ground := Go.Ground.phase }, { on := 1, ground := Go.Ground.phase }, { on := 2, ground := Go.Ground.phase }, { on := 3, ground := Go.Ground.phase }], guard := none }) (v := .pointer (some ⟨ba, 6, none⟩)) rfl rfl (by kernel_rfl) (by kernel_rfl) (by kernel_rfl) (by kernel_rfl) (fun _ _ _ h => h) (Or.inl ⟨by kernel_rfl, ?_⟩) (.inl rfl) ?_
  · (intro X hX; rcases hX with rfl | rfl <;> (go_simp; try (with_reducible rfl)))
  (try simp only [Act.put, List.setIfInBounds_toArray, List.set_cons_zero, List.set_cons_succ])
  refine wpAnyN_take (i := 2) (oi := { dst := some 4, op := Go.Op.load 3 (Go.Operand.tmp 3), type := 3, pos := "hear.go:124", after := #[{ on := 1, ground := Go.Ground.data }], guard := none }) (oL := { dst := none, op := Go.Op.store 70 (Go.Operand.tmp 7) (Go.Operand.tmp 5), type := 0, pos := "hear.go:124", after := #[{ on := 5, ground := Go.Ground.data }, { on := 3, ground := Go.Ground.data }, { on := 0, ground := Go.Ground.phase }, { on := 1, ground := Go.Ground.phase }, { on := 2, ground := Go.Ground.phase }, { on := 3, ground := Go.Ground.phase }], guard := none }) (v := .int .i64 2) rfl rfl (by kernel_rfl) (by kernel_rfl) (by kernel_rfl) (by kernel_rfl) (fun _ _ _ h => h) (Or.inl ⟨by kernel_rfl, ?_⟩) (.inl rfl) ?_
  · (intro X hX; rcases hX with rfl | rfl <;> (go_simp; try (with_reducible rfl)))
  (try simp only [Act.put, List.setIfInBounds_toArray, List.set_cons_zero, List.set_cons_succ])
  refine wpAnyN_one (i := 3) (o := { dst := some 5, op := Go.Op.makeSlice 70 (Go.Operand.tmp 4) (Go.Operand.tmp 4), type := 70, pos := "hear.go:124", after := #[{ on := 2, ground := Go.Ground.data }, { on := 2, ground := Go.Ground.data }], guard := none }) (by kernel_rfl) rfl (fun K hK => ?_)
  go_simp
  refine hK.out _ _ (fun _ => (.inr rfl)) ?_
  clear hK K
  (try simp only [Act.put, List.setIfInBounds_toArray, List.set_cons_zero, List.set_cons_succ])
  refine wpAnyN_take (i := 4) (oi := { dst := some 6, op := Go.Op.nilCheck (Go.Operand.tmp 2), type := 0, pos := "hear.go:124", after := #[{ on := 0, ground := Go.Ground.data }, { on := 0, ground := Go.Ground.phase }, { on := 1, ground := Go.Ground.phase }, { on := 2, ground := Go.Ground.phase }, { on := 3, ground := Go.Ground.phase }], guard := none }) (oL := { dst := none, op := Go.Op.store 70 (Go.Operand.tmp 7) (Go.Operand.tmp 5), type := 0, pos := "hear.go:124", after := #[{ on := 5, ground := Go.Ground.data }, { on := 3, ground := Go.Ground.data }, { on := 0, ground := Go.Ground.phase }, { on := 1, ground := Go.Ground.phase }, { on := 2, ground := Go.Ground.phase }, { on := 3, ground := Go.Ground.phase }], guard := none }) (v := .pointer (some ⟨P, 1, none⟩)) rfl rfl (by kernel_rfl) (by kernel_rfl) (by kernel_rfl) (by kernel_rfl) (fun _ _ _ h => h) (Or.inl ⟨by kernel_rfl, ?_⟩) (.inr rfl) ?_
  · (intro X hX; rcases hX with rfl | rfl <;> (go_simp; try (with_reducible rfl)))
  (try simp only [Act.put, List.setIfInBounds_toArray, List.set_cons_zero, List.set_cons_succ])
  refine wpAnyN_take (i := 5) (oi := { dst := some 7, op := Go.Op.fieldAddr 73 (Go.Operand.tmp 6) 4, type := 0, pos := "hear.go:124", after := #[{ on := 4, ground := Go.Ground.data }, { on := 0, ground := Go.Ground.phase }, { on := 1, ground := Go.Ground.phase }, { on := 2, ground := Go.Ground.phase }, { on := 3, ground := Go.Ground.phase }], guard := none }) (oL := { dst := none, op := Go.Op.store 70 (Go.Operand.tmp 7) (Go.Operand.tmp 5), type := 0, pos := "hear.go:124", after := #[{ on := 5, ground := Go.Ground.data }, { on := 3, ground := Go.Ground.data }, { on := 0, ground := Go.Ground.phase }, { on := 1, ground := Go.Ground.phase }, { on := 2, ground := Go.Ground.phase }, { on := 3, ground := Go.Ground.phase }], guard := none }) (v := .pointer (some ⟨P, 5, none⟩)) rfl rfl (by kernel_rfl) (by kernel_rfl) (by kernel_rfl) (by kernel_rfl) (fun _ _ _ h => h) (Or.inl ⟨by kernel_rfl, ?_⟩) (.inr rfl) ?_
  · (intro X hX; rcases hX with rfl | rfl <;> (go_simp; try (with_reducible rfl)))
  (try simp only [Act.put, List.setIfInBounds_toArray, List.set_cons_zero, List.set_cons_succ])
  refine wpAnyN_one (i := 6) (o := { dst := none, op := Go.Op.store 70 (Go.Operand.tmp 7) (Go.Operand.tmp 5), type := 0, pos := "hear.go:124", after := #[{ on := 5, ground := Go.Ground.data }, { on := 3, ground := Go.Ground.data }, { on := 0, ground := Go.Ground.phase }, { on := 1, ground := Go.Ground.phase }, { on := 2, ground := Go.Ground.phase }, { on := 3, ground := Go.Ground.phase }], guard := none }) (by kernel_rfl) rfl (fun K hK => ?_)
  go_simp
  refine hK.out _ _ (fun e => absurd (e.symm.trans (by kernel_rfl) : false = true) Bool.false_ne_true) ?_
  clear hK K
  (try simp only [Act.put, List.setIfInBounds_toArray, List.set_cons_zero, List.set_cons_succ])
  refine wpAnyN_of_H (S' := fun _ => True) _ _ _ _ (by kernel_rfl) ?_
  refine wpAnyH_done (by kernel_rfl) ?_ _
  go_wp2_with fail
  first | refine bodyPost_end (results_none rfl _ _ _) rfl ?_ | refine bodyPost_ret (results_none rfl _ _ _) rfl ?_
  first | exact ⟨rfl, ⟨FIN.out.1.os, FIN.out.1.tape, FIN.out.1.output, FIN.out.1.size, FIN.out.1.block⟩, FIN.out.2⟩ | exact ⟨⟨FIN.out.1.os, FIN.out.1.tape, FIN.out.1.output, FIN.out.1.size, FIN.out.1.block⟩, FIN.out.2⟩
def piO (P : Nat) : Obj := .cells #[.pointer (some ⟨P, 2, none⟩)] 115
set_option maxRecDepth 10000 in
theorem coded1_val (P : Nat) (q : Value) (sel : Bool) (v n h : Int) (rows was : Value) (bg : Bool) (a : AN) (g : Nat) (x : Int) (ha : a.args = .slice (some ⟨g, 0, none⟩) 1 1) (ba bp : Nat) (w : World) (hg : w.cell? ⟨g, 1, none⟩ = some (.int .i64 x)) (hA : w.heap[ba]? = some (anO a)) (hB : w.heap[bp]? = some (piO P)) (hM : w.heap[P]? = some (mirO q sel v n h rows was bg)) :
    Calls Tryd.prog 60 #[.pointer (some ⟨ba, 0, none⟩), .pointer (some ⟨bp, 0, none⟩)] w fun e w' => e = .returned (.tuple #[]) ∧ Stays [P] w w' ∧ w'.heap[P]? = some (mirO q sel x n h rows was bg) := by
  have c4 : w.cell? ⟨ba, 4, none⟩ = some (.slice (some ⟨g, 0, none⟩) 1 1) := by rw [(an_cells hA).2.2.2.2.1, ha]
  have d0 : w.cell? ⟨bp, 0, none⟩ = some (.pointer (some ⟨P, 2, none⟩)) := by unfold piO at hB; exact cell_of hB 0
  have m2 := (mir_cells hM).c2
  have f2 := mir_fz hM 2
  have fin : Stays [P] w (w.setCell ⟨P, 2, none⟩ (.int .i64 x)) ∧ (w.setCell ⟨P, 2, none⟩ (.int .i64 x)).heap[P]? = some (mirO q sel x n h rows was bg) :=
    ⟨(Stays.refl _ _).setCell (.inl (by simp)) _, mir_set2 hM _⟩
  have FIN := Lib.hid fin
  clear hA hB hM fin
  go_enter Tryd.func60, Tryd.ntmps60
  go_wp2_with fail
  refine wp_region_N 7 (fun X => X = w.drew) (by kernel_rfl) ?_
  refine wpAnyN_take (i := 0) (oi := { dst := some 2, op := Go.Op.load 115 (Go.Operand.tmp 1), type := 115, pos := "hear.go:115", after := #[], guard := none }) (oL := { dst := none, op := Go.Op.store 3 (Go.Operand.tmp 8) (Go.Operand.tmp 7), type := 0, pos := "hear.go:115", after := #[{ on := 6, ground := Go.Ground.data }, { on := 5, ground := Go.Ground.data }, { on := 0, ground := Go.Ground.phase }, { on := 1, ground := Go.Ground.phase }, { on := 2, ground := Go.Ground.phase }, { on := 3, ground := Go.Ground.phase }, { on := 4, ground := Go.Ground.phase }, { on := 5, ground := Go.Ground.phase }], guard := none }) (v := .pointer (some ⟨P, 2, none⟩)) rfl rfl (by kernel_rfl) (by kernel_rfl) (by kernel_rfl) (by kernel_rfl) (fun _ _ _ h => h) (Or.inl ⟨by kernel_rfl, ?_⟩) rfl ?_
  · (intro X hX; subst hX <;> (go_simp; try (with_reducible rfl)))
  (try simp only [Act.put, List.setIfInBounds_toArray, List.set_cons_zero, List.set_cons_succ])
  refine wpAnyN_take (i := 1) (oi := { dst := some 3, op := Go.Op.fieldAddr 43 (Go.Operand.tmp 0) 4, type := 0, pos := "hear.go:115", after := #[], guard := none }) (oL := { dst := none, op := Go.Op.store 3 (Go.Operand.tmp 8) (Go.Operand.tmp 7), type := 0, pos := "hear.go:115", after := #[{ on := 6, ground := Go.Ground.data }, { on := 5, ground := Go.Ground.data }, { on := 0, ground := Go.Ground.phase }, { on := 1, ground := Go.Ground.phase }, { on := 2, ground := Go.Ground.phase }, { on := 3, ground := Go.Ground.phase }, { on := 4, ground := Go.Ground.phase }, { on := 5, ground := Go.Ground.phase }], guard := none }) (v := .pointer (some ⟨ba, 4, none⟩)) rfl rfl (by kernel_rfl) (by kernel_rfl) (by kernel_rfl) (by kernel_rfl) (fun _ _ _ h => h) (Or.inl ⟨by kernel_rfl, ?_⟩) rfl ?_
  · (intro X hX; subst hX <;> (go_simp; try (with_reducible rfl)))
  (try simp only [Act.put, List.setIfInBounds_toArray, List.set_cons_zero, List.set_cons_succ])
  refine wpAnyN_take (i := 2) (oi := { dst := some 4, op := Go.Op.load 39 (Go.Operand.tmp 3), type := 39, pos := "hear.go:115", after := #[{ on := 1, ground := Go.Ground.data }], guard := none }) (oL := { dst := none, op := Go.Op.store 3 (Go.Operand.tmp 8) (Go.Operand.tmp 7), type := 0, pos := "hear.go:115", after := #[{ on := 6, ground := Go.Ground.data }, { on := 5, ground := Go.Ground.data }, { on := 0, ground := Go.Ground.phase }, { on := 1, ground := Go.Ground.phase }, { on := 2, ground := Go.Ground.phase }, { on := 3, ground := Go.Ground.phase }, { on := 4, ground := Go.Ground.phase }, { on := 5, ground := Go.Ground.phase }], guard := none }) (v := .slice (some ⟨g, 0, none⟩) 1 1) rfl rfl (by kernel_rfl) (by kernel_rfl) (by kernel_rfl) (by kernel_rfl) (fun _ _ _ h => h) (Or.inl ⟨by kernel_rfl, ?_⟩) rfl ?_
  · (intro X hX; subst hX <;> (go_simp; try (with_reducible rfl)))
  (try simp only [Act.put, List.setIfInBounds_toArray, List.set_cons_zero, List.set_cons_succ])
  refine wpAnyN_take (i := 3) (oi := { dst := some 5, op := Go.Op.indexAddr 39 (Go.Operand.tmp 4) (Go.Operand.const (Go.Value.int Go.IntKind.i64 0)), type := 0, pos := "hear.go:115", after := #[{ on := 2, ground := Go.Ground.data }], guard := none }) (oL := { dst := none, op := Go.Op.store 3 (Go.Operand.tmp 8) (Go.Operand.tmp 7), type := 0, pos := "hear.go:115", after := #[{ on := 6, ground := Go.Ground.data }, { on := 5, ground := Go.Ground.data }, { on := 0, ground := Go.Ground.phase }, { on := 1, ground := Go.Ground.phase }, { on := 2, ground := Go.Ground.phase }, { on := 3, ground := Go.Ground.phase }, { on := 4, ground := Go.Ground.phase }, { on := 5, ground := Go.Ground.phase }], guard := none }) (v := .pointer (some ⟨g, 0, none⟩)) rfl rfl (by kernel_rfl) (by kernel_rfl) (by kernel_rfl) (by kernel_rfl) (fun _ _ _ h => h) (Or.inl ⟨by kernel_rfl, ?_⟩) rfl ?_
  · (intro X hX; subst hX <;> (go_simp; try (with_reducible rfl)))
  (try simp only [Act.put, List.setIfInBounds_toArray, List.set_cons_zero, List.set_cons_succ])
  refine wpAnyN_take (i := 4) (oi := { dst := some 6, op := Go.Op.fieldAddr 64 (Go.Operand.tmp 5) 1, type := 0, pos := "hear.go:115", after := #[{ on := 3, ground := Go.Ground.data }], guard := none }) (oL := { dst := none, op := Go.Op.store 3 (Go.Operand.tmp 8) (Go.Operand.tmp 7), type := 0, pos := "hear.go:115", after := #[{ on := 6, ground := Go.Ground.data }, { on := 5, ground := Go.Ground.data }, { on := 0, ground := Go.Ground.phase }, { on := 1, ground := Go.Ground.phase }, { on := 2, ground := Go.Ground.phase }, { on := 3, ground := Go.Ground.phase }, { on := 4, ground := Go.Ground.phase }, { on := 5, ground := Go.Ground.phase }], guard := none }) (v := .pointer (some ⟨g, 1, none⟩)) rfl rfl (by kernel_rfl) (by kernel_rfl) (by kernel_rfl) (by kernel_rfl) (fun _ _ _ h => h) (Or.inl ⟨by kernel_rfl, ?_⟩) rfl ?_
  · (intro X hX; subst hX <;> (go_simp; try (with_reducible rfl)))
  (try simp only [Act.put, List.setIfInBounds_toArray, List.set_cons_zero, List.set_cons_succ])
  refine wpAnyN_take (i := 5) (oi := { dst := some 7, op := Go.Op.load 3 (Go.Operand.tmp 6), type := 3, pos := "hear.go:115", after := #[{ on := 4, ground := Go.Ground.data }], guard := none }) (oL := { dst := none, op := Go.Op.store 3 (Go.Operand.tmp 8) (Go.Operand.tmp 7), type := 0, pos := "hear.go:115", after := #[{ on := 6, ground := Go.Ground.data }, { on := 5, ground := Go.Ground.data }, { on := 0, ground := Go.Ground.phase }, { on := 1, ground := Go.Ground.phase }, { on := 2, ground := Go.Ground.phase }, { on := 3, ground := Go.Ground.phase }, { on := 4, ground := Go.Ground.phase }, { on := 5, ground := Go.Ground.phase }], guard := none }) (v := .int .i64 x) rfl rfl (by kernel_rfl) (by kernel_rfl) (by kernel_rfl) (by kernel_rfl) (fun _ _ _ h => h) (Or.inl ⟨by kernel_rfl, ?_⟩) rfl ?_
  · (intro X hX; subst hX <;> (go_simp; try (with_reducible rfl)))
  (try simp only [Act.put, List.setIfInBounds_toArray, List.set_cons_zero, List.set_cons_succ])
  refine wpAnyN_take (i := 6) (oi := { dst := some 8, op := Go.Op.nilCheck (Go.Operand.tmp 2), type := 0, pos := "hear.go:115", after := #[{ on := 0, ground := Go.Ground.data }, { on := 0, ground := Go.Ground.phase }, { on := 1, ground := Go.Ground.phase }, { on := 2, ground := Go.Ground.phase }, { on := 3, ground := Go.Ground.phase }, { on := 4, ground := Go.Ground.phase }, { on := 5, ground := Go.Ground.phase }], guard := none }) (oL := { dst := none, op := Go.Op.store 3 (Go.Operand.tmp 8) (Go.Operand.tmp 7), type := 0, pos := "hear.go:115", after := #[{ on := 6, ground := Go.Ground.data }, { on := 5, ground := Go.Ground.data }, { on := 0, ground := Go.Ground.phase }, { on := 1, ground := Go.Ground.phase }, { on := 2, ground := Go.Ground.phase }, { on := 3, ground := Go.Ground.phase }, { on := 4, ground := Go.Ground.phase }, { on := 5, ground := Go.Ground.phase }], guard := none }) (v := .pointer (some ⟨P, 2, none⟩)) rfl rfl (by kernel_rfl) (by kernel_rfl) (by kernel_rfl) (by kernel_rfl) (fun _ _ _ h => h) (Or.inl ⟨by kernel_rfl, ?_⟩) rfl ?_
  · (intro X hX; subst hX <;> (go_simp; try (with_reducible rfl)))
  (try simp only [Act.put, List.setIfInBounds_toArray, List.set_cons_zero, List.set_cons_succ])
  refine wpAnyN_one (i := 7) (o := { dst := none, op := Go.Op.store 3 (Go.Operand.tmp 8) (Go.Operand.tmp 7), type := 0, pos := "hear.go:115", after := #[{ on := 6, ground := Go.Ground.data }, { on := 5, ground := Go.Ground.data }, { on := 0, ground := Go.Ground.phase }, { on := 1, ground := Go.Ground.phase }, { on := 2, ground := Go.Ground.phase }, { on := 3, ground := Go.Ground.phase }, { on := 4, ground := Go.Ground.phase }, { on := 5, ground := Go.Ground.phase }], guard := none }) (by kernel_rfl) rfl (fun K hK => ?_)
  go_simp
  refine hK.out _ _ (fun e => absurd (e.symm.trans (by kernel_rfl) : false = true) Bool.false_ne_true) ?_
  clear hK K
  (try simp only [Act.put, List.setIfInBounds_toArray, List.set_cons_zero, List.set_cons_succ])
  refine wpAnyN_of_H (S' := fun _ => True) _ _ _ _ (by kernel_rfl) ?_
  refine wpAnyH_done (by kernel_rfl) ?_ _
  go_wp2_with fail
  first | refine bodyPost_end (results_none rfl _ _ _) rfl ?_ | refine bodyPost_ret (results_none rfl _ _ _) rfl ?_
  first | exact ⟨rfl, ⟨FIN.out.1.os, FIN.out.1.tape, FIN.out.1.output, FIN.out.1.size, FIN.out.1.block⟩, FIN.out.2⟩ | exact ⟨⟨FIN.out.1.os, FIN.out.1.tape, FIN.out.1.output, FIN.out.1.size, FIN.out.1.block⟩, FIN.out.2⟩
end Go.Proofs.YtfcpmiafliegiaaDoor

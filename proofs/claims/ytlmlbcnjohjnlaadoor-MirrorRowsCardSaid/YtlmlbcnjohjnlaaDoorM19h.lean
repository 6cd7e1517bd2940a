/- mirror: what the changes do. -/
import Derived.Test.YtlmlbcnjohjnlaaDoorM19e
namespace Go.Proofs.YtlmlbcnjohjnlaaDoor
open Go.RowKit

section
variable {W : World} {P : Nat} {q : Value} {sel : Bool} {v n h : Int} {rows was : Value} {bg : Bool}
theorem mir_set0 (hM : W.heap[P]? = some (mirO q sel v n h rows was bg)) (x : Value) : (W.setCell ⟨P, 0, none⟩ x).heap[P]? = some (mirO x sel v n h rows was bg) := by
  unfold mirO mirC at hM ⊢; rw [heap_setCell_at _ hM]; rfl
theorem mir_set1 (hM : W.heap[P]? = some (mirO q sel v n h rows was bg)) (x : Bool) : (W.setCell ⟨P, 1, none⟩ (.bool x)).heap[P]? = some (mirO q x v n h rows was bg) := by
  unfold mirO mirC at hM ⊢; rw [heap_setCell_at _ hM]; rfl
theorem mir_set2 (hM : W.heap[P]? = some (mirO q sel v n h rows was bg)) (x : Int) : (W.setCell ⟨P, 2, none⟩ (.int .i64 x)).heap[P]? = some (mirO q sel x n h rows was bg) := by
  unfold mirO mirC at hM ⊢; rw [heap_setCell_at _ hM]; rfl
theorem mir_set5 (hM : W.heap[P]? = some (mirO q sel v n h rows was bg)) (x : Value) : (W.setCell ⟨P, 5, none⟩ x).heap[P]? = some (mirO q sel v n h x was bg) := by
  unfold mirO mirC at hM ⊢; rw [heap_setCell_at _ hM]; rfl
theorem mir_set6 (hM : W.heap[P]? = some (mirO q sel v n h rows was bg)) (x : Value) : (W.setCell ⟨P, 6, none⟩ x).heap[P]? = some (mirO q sel v n h rows x bg) := by
  unfold mirO mirC at hM ⊢; rw [heap_setCell_at _ hM]; rfl
theorem mir_set7 (hM : W.heap[P]? = some (mirO q sel v n h rows was bg)) (x : Bool) : (W.setCell ⟨P, 7, none⟩ (.bool x)).heap[P]? = some (mirO q sel v n h rows was x) := by
  unfold mirO mirC at hM ⊢; rw [heap_setCell_at _ hM]; rfl
theorem mir_fz (hM : W.heap[P]? = some (mirO q sel v n h rows was bg)) (o : Nat) : W.frozen? ⟨P, o, none⟩ = false := by
  unfold mirO mirC at hM; exact frozen_of hM o
end
def rw2 : Obj := .cells #[.int .i64 0, .bool false, .slice none 0 0, .int .i64 0, .bool false, .slice none 0 0] 98
theorem Tryd.mk2 (X : World) : (Instr.makeSlice 70 (.int .i64 2) (.int .i64 2)).run Tryd.prog X = .ok (.slice (some ⟨X.heap.size, 0, none⟩) 2 2) (X.alloc (.cells #[.int .i64 0, .bool false, .slice none 0 0, .int .i64 0, .bool false, .slice none 0 0] 98)) := by kernel_rfl
set_option maxRecDepth 10000 in
theorem exists1_two (P : Nat) (q : Value) (sel : Bool) (v n h : Int) (rows was : Value) (bg : Bool) (a : AN) (ha : a.num = 2) (ba bp : Nat) (w : World) (hA : w.heap[ba]? = some (anO a)) (hB : w.heap[bp]? = some (ppO P)) (hM : w.heap[P]? = some (mirO q sel v n h rows was bg)) :
    Calls Tryd.prog 42 #[.pointer (some ⟨ba, 0, none⟩), .pointer (some ⟨bp, 0, none⟩)] w fun e w' => e = .returned (.tuple #[]) ∧ Stays [P] w w' ∧ w'.heap[P]? = some (mirO q sel v n h (.slice (some ⟨w.heap.size, 0, none⟩) 2 2) was bg) ∧ w'.heap[w.heap.size]? = some rw2 := by
  have c6 : w.cell? ⟨ba, 6, none⟩ = some (.int .i64 2) := by rw [(an_cells hA).2.2.2.2.2, ha]
  have d0 : w.cell? ⟨bp, 0, none⟩ = some (.pointer (some ⟨P, 1, none⟩)) := by unfold ppO at hB; exact cell_of hB 0
  have hPl := lt_of_heap hM
  have hM2 : (w.alloc rw2).heap[P]? = some (mirO q sel v n h rows was bg) := by rw [Below.heap_alloc _ _ _ hPl]; exact hM
  have m5 := (mir_cells hM2).c5
  have f5 := mir_fz hM2 5
  have fin : Stays [P] w ((w.alloc rw2).setCell ⟨P, 5, none⟩ (.slice (some ⟨w.heap.size, 0, none⟩) 2 2)) ∧ ((w.alloc rw2).setCell ⟨P, 5, none⟩ (.slice (some ⟨w.heap.size, 0, none⟩) 2 2)).heap[P]? = some (mirO q sel v n h (.slice (some ⟨w.heap.size, 0, none⟩) 2 2) was bg) ∧ ((w.alloc rw2).setCell ⟨P, 5, none⟩ (.slice (some ⟨w.heap.size, 0, none⟩) 2 2)).heap[w.heap.size]? = some rw2 :=
    ⟨((Stays.refl _ _).alloc _).setCell (.inl (by simp)) _, mir_set5 hM2 _, by rw [Below.heap_setCell _ _ _ _ (by show w.heap.size ≠ P; omega)]; exact heap_new _ _⟩
  have FIN := Lib.hid fin
  have Q1 : Hid (Below w.heap.size w (w.alloc rw2)) := Lib.hid ((Below.refl _ _).alloc (Nat.le_refl _) _)
  have hAl := lt_of_heap hA
  have hBl := lt_of_heap hB
  clear hA hB hM hPl hM2 fin
  have c6' : (w.alloc rw2).cell? ⟨ba, 6, none⟩ = some (.int .i64 2) := by rw [Q1.out.cell (p := ⟨ba, 6, none⟩) hAl]; exact c6
  have d0' : (w.alloc rw2).cell? ⟨bp, 0, none⟩ = some (.pointer (some ⟨P, 1, none⟩)) := by rw [Q1.out.cell (p := ⟨bp, 0, none⟩) hBl]; exact d0
  have mk := Tryd.mk2
  unfold rw2 at m5 f5 c6' d0'
  clear Q1 hAl hBl
  go_enter Tryd.func42, Tryd.ntmps42
  go_wp2_with fail
  refine wp_region_N 6 (fun X => X = w.drew ∨ X = w.drew.alloc (.cells #[.int .i64 0, .bool false, .slice none 0 0, .int .i64 0, .bool false, .slice none 0 0] 98)) (by kernel_rfl) ?_
  refine wpAnyN_take (i := 0) (oi := { dst := some 2, op := Go.Op.load 96 (Go.Operand.tmp 1), type := 96, pos := "hear.go:124", after := #[], guard := none }) (oL := { dst := none, op := Go.Op.store 70 (Go.Operand.tmp 7) (Go.Operand.tmp 5), type := 0, pos := "hear.go:124", after := #[{ on := 5, ground := Go.Ground.data }, { on := 3, ground := Go.Ground.data }, { on := 0, ground := Go.Ground.phase }, { on := 1, ground := Go.Ground.phase }, { on := 2, ground := Go.Ground.phase }, { on := 3, ground := Go.Ground.phase }], guard := none }) (v := .pointer (some ⟨P, 1, none⟩)) rfl rfl (by kernel_rfl) (by kernel_rfl) (by kernel_rfl) (by kernel_rfl) (fun _ _ _ h => h) (Or.inl ⟨by kernel_rfl, ?_⟩) (.inl rfl) ?_
  · (intro X hX; rcases hX with rfl | rfl <;> (go_simp; try (with_reducible rfl)))
  (try simp only [Act.put, List.setIfInBounds_toArray, List.set_cons_zero, List.set_cons_succ])
  refine wpAnyN_take (i := 1) (oi := { dst := some 3, op := Go.Op.fieldAddr 43 (Go.Operand.tmp 0) 6, type := 0, pos := "hear.go:124", after := #[], guard := none }) (oL := { dst := none, op := Go.Op.store 70 (Go.Operand.tmp 7) (Go.Operand.tmp 5), type := 0, pos := "hear.go:124", after := #[{ on := 5, ground := Go.Ground.data }, { on := 3, ground := Go.Ground.data }, { on := 0, ground := Go.Ground.phase }, { on := 1, ground := Go.Ground.phase }, { on := 2, ground := Go.Ground.phase }, { on := 3, ground := Go.Ground.phase }], guard := none }) (v := .pointer (some ⟨ba, 6, none⟩)) rfl rfl (by kernel_rfl) (by kernel_rfl) (by kernel_rfl) (by kernel_rfl) (fun _ _ _ h => h) (Or.inl ⟨by kernel_rfl, ?_⟩) (.inl rfl) ?_
  · (intro X hX; rcases hX with rfl | rfl <;> (go_simp; try (with_reducible rfl)))
  (try simp only [Act.put, List.setIfInBounds_toArray, List.set_cons_zero, List.set_cons_succ])
  refine wpAnyN_take (i := 2) (oi := { dst := some 4, op := Go.Op.load 3 (Go.Operand.tmp 3), type := 3, pos := "hear.go:124", after := #[{ on := 1, ground := Go.Ground.data }], guard := none }) (oL := { dst := none, op := Go.Op.store 70 (Go.Operand.tmp 7) (Go.Operand.tmp 5), type := 0, pos := "hear.go:124", after := #[{ on := 5, ground := Go.Ground.data }, { on := 3, ground := Go.Ground.data }, { on := 0, ground := Go.Ground.phase }, { on := 1, ground := Go.Ground.phase }, { on := 2, ground := Go.Ground.phase }, { on := 3, ground := Go.Ground.phase }], guard := none }) (v := .int .i64 2) rfl rfl (by kernel_rfl) (by kernel_rfl) (by kernel_rfl) (by kernel_rfl) (fun _ _ _ h => h) (Or.inl ⟨by kernel_rfl, ?_⟩) (.inl rfl) ?_
  · (intro X hX; rcases hX with rfl | rfl <;> (go_simp; try (with_reducible rfl)))
  (try simp only [Act.put, List.setIfInBounds_toArray, List.set_cons_zero, List.set_cons_succ])
  refine wpAnyN_one (i := 3) (o := { dst := some 5, op := Go.Op.makeSlice 70 (Go.Operand.tmp 4) (Go.Operand.tmp 4), type := 70, pos := "hear.go:124", after := #[{ on := 2, ground := Go.Ground.data }, { on := 2, ground := Go.Ground.data }], guard := none }) (by kernel_rfl) rfl (fun K hK => ?_)
  go_simp
  refine hK.out _ _ (fun _ => (.inr rfl)) ?_
  clear hK K
  (try simp only [Act.put, List.setIfInBounds_toArray, List.set_cons_zero, List.set_cons_succ])
  refine wpAnyN_take (i := 4) (oi := { dst := some 6, op := Go.Op.nilCheck (Go.Operand.tmp 2), type := 0, pos := "hear.go:124", after := #[{ on := 0, ground := Go.Ground.data }, { on := 0, ground := Go.Ground.phase }, { on := 1, ground := Go.Ground.phase }, { on := 2, ground := Go.Ground.phase }, { on := 3, ground := Go.Ground.phase }], guard := none }) (oL := { dst := none, op := Go.Op.store 70 (Go.Operand.tmp 7) (Go.Operand.tmp 5), type := 0, pos := "hear.go:124", after := #[{ on := 5, ground := Go.Ground.data }, { on := 3, ground := Go.Ground.data }, { on := 0, ground := Go.Ground.phase }, { on := 1, ground := Go.Ground.phase }, { on := 2, ground := Go.Ground.phase }, { on := 3, ground := Go.Ground.phase }], guard := none }) (v := .pointer (some ⟨P, 1, none⟩)) rfl rfl (by kernel_rfl) (by kernel_rfl) (by kernel_rfl) (by kernel_rfl) (fun _ _ _ h => h) (Or.inl ⟨by kernel_rfl, ?_⟩) (.inr rfl) ?_
  · (intro X hX; rcases hX with rfl | rfl <;> (go_simp; try (with_reducible rfl)))
  (try simp only [Act.put, List.setIfInBounds_toArray, List.set_cons_zero, List.set_cons_succ])
  refine wpAnyN_take (i := 5) (oi := { dst := some 7, op := Go.Op.fieldAddr 73 (Go.Operand.tmp 6) 4, type := 0, pos := "hear.go:124", after := #[{ on := 4, ground := Go.Ground.data }, { on := 0, ground := Go.Ground.phase }, { on := 1, ground := Go.Ground.phase }, { on := 2, ground := Go.Ground.phase }, { on := 3, ground := Go.Ground.phase }], guard := none }) (oL := { dst := none, op := Go.Op.store 70 (Go.Operand.tmp 7) (Go.Operand.tmp 5), type := 0, pos := "hear.go:124", after := #[{ on := 5, ground := Go.Ground.data }, { on := 3, ground := Go.Ground.data }, { on := 0, ground := Go.Ground.phase }, { on := 1, ground := Go.Ground.phase }, { on := 2, ground := Go.Ground.phase }, { on := 3, ground := Go.Ground.phase }], guard := none }) (v := .pointer (some ⟨P, 5, none⟩)) rfl rfl (by kernel_rfl) (by kernel_rfl) (by kernel_rfl) (by kernel_rfl) (fun _ _ _ h => h) (Or.inl ⟨by kernel_rfl, ?_⟩) (.inr rfl) ?_
  · (intro X hX; rcases hX with rfl | rfl <;> (go_simp; try (with_reducible rfl)))
  (try simp only [Act.put, List.setIfInBounds_toArray, List.set_cons_zero, List.set_cons_succ])
  refine wpAnyN_one (i := 6) (o := { dst := none, op := Go.Op.store 70 (Go.Operand.tmp 7) (Go.Operand.tmp 5), type := 0, pos := "hear.go:124", after := #[{ on := 5, ground := Go.Ground.data }, { on := 3, ground := Go.Ground.data }, { on := 0, ground := Go.Ground.phase }, { on := 1, ground := Go.Ground.phase }, { on := 2, ground := Go.Ground.phase }, { on := 3, ground := Go.Ground.phase }], guard := none }) (by kernel_rfl) rfl (fun K hK => ?_)
  go_simp
  refine hK.out _ _ (fun e => absurd (e.symm.trans (by kernel_rfl) : false = true) Bool.false_ne_true) ?_
  clear hK K
  (try simp only [Act.put, List.setIfInBounds_toArray, List.set_cons_zero, List.set_cons_succ])
  refine wpAnyN_of_H (S' := fun _ => True) _ _ _ _ (by kernel_rfl) ?_
  refine wpAnyH_done (by kernel_rfl) ?_ _
  go_wp2_with fail
  first | refine bodyPost_end (results_none rfl _ _ _) rfl ?_ | refine bodyPost_ret (results_none rfl _ _ _) rfl ?_
  first | exact ⟨rfl, ⟨FIN.out.1.os, FIN.out.1.tape, FIN.out.1.output, FIN.out.1.size, FIN.out.1.block⟩, FIN.out.2⟩ | exact ⟨⟨FIN.out.1.os, FIN.out.1.tape, FIN.out.1.output, FIN.out.1.size, FIN.out.1.block⟩, FIN.out.2⟩
def piO (P : Nat) : Obj := .cells #[.pointer (some ⟨P, 2, none⟩)] 115
set_option maxRecDepth 10000 in
theorem coded1_val (P : Nat) (q : Value) (sel : Bool) (v n h : Int) (rows was : Value) (bg : Bool) (a : AN) (g : Nat) (x : Int) (ha : a.args = .slice (some ⟨g, 0, none⟩) 1 1) (ba bp : Nat) (w : World) (hg : w.cell? ⟨g, 1, none⟩ = some (.int .i64 x)) (hA : w.heap[ba]? = some (anO a)) (hB : w.heap[bp]? = some (piO P)) (hM : w.heap[P]? = some (mirO q sel v n h rows was bg)) :
    Calls Tryd.prog 60 #[.pointer (some ⟨ba, 0, none⟩), .pointer (some ⟨bp, 0, none⟩)] w fun e w' => e = .returned (.tuple #[]) ∧ Stays [P] w w' ∧ w'.heap[P]? = some (mirO q sel x n h rows was bg) := by
  have c4 : w.cell? ⟨ba, 4, none⟩ = some (.slice (some ⟨g, 0, none⟩) 1 1) := by rw [(an_cells hA).2.2.2.2.1, ha]
  have d0 : w.cell? ⟨bp, 0, none⟩ = some (.pointer (some ⟨P, 2, none⟩)) := by unfold piO at hB; exact cell_of hB 0
  have m2 := (mir_cells hM).c2
  have f2 := mir_fz hM 2
  have fin : Stays [P] w (w.setCell ⟨P, 2, none⟩ (.int .i64 x)) ∧ (w.setCell ⟨P, 2, none⟩ (.int .i64 x)).heap[P]? = some (mirO q sel x n h rows was bg) :=
    ⟨(Stays.refl _ _).setCell (.inl (by simp)) _, mir_set2 hM _⟩
  have FIN := Lib.hid fin
  clear hA hB hM fin
  go_enter Tryd.func60, Tryd.ntmps60
  go_wp2_with fail
  refine wp_region_N 7 (fun X => X = w.drew) (by kernel_rfl) ?_
  refine wpAnyN_take (i := 0) (oi := { dst := some 2, op := Go.Op.load 115 (Go.Operand.tmp 1), type := 115, pos := "hear.go:115", after := #[], guard := none }) (oL := { dst := none, op := Go.Op.store 3 (Go.Operand.tmp 8) (Go.Operand.tmp 7), type := 0, pos := "hear.go:115", after := #[{ on := 6, ground := Go.Ground.data }, { on := 5, ground := Go.Ground.data }, { on := 0, ground := Go.Ground.phase }, { on := 1, ground := Go.Ground.phase }, { on := 2, ground := Go.Ground.phase }, { on := 3, ground := Go.Ground.phase }, { on := 4, ground := Go.Ground.phase }, { on := 5, ground := Go.Ground.phase }], guard := none }) (v := .pointer (some ⟨P, 2, none⟩)) rfl rfl (by kernel_rfl) (by kernel_rfl) (by kernel_rfl) (by kernel_rfl) (fun _ _ _ h => h) (Or.inl ⟨by kernel_rfl, ?_⟩) rfl ?_
  · (intro X hX; subst hX <;> (go_simp; try (with_reducible rfl)))
  (try simp only [Act.put, List.setIfInBounds_toArray, List.set_cons_zero, List.set_cons_succ])
  refine wpAnyN_take (i := 1) (oi := { dst := some 3, op := Go.Op.fieldAddr 43 (Go.Operand.tmp 0) 4, type := 0, pos := "hear.go:115", after := #[], guard := none }) (oL := { dst := none, op := Go.Op.store 3 (Go.Operand.tmp 8) (Go.Operand.tmp 7), type := 0, pos := "hear.go:115", after := #[{ on := 6, ground := Go.Ground.data }, { on := 5, ground := Go.Ground.data }, { on := 0, ground := Go.Ground.phase }, { on := 1, ground := Go.Ground.phase }, { on := 2, ground := Go.Ground.phase }, { on := 3, ground := Go.Ground.phase }, { on := 4, ground := Go.Ground.phase }, { on := 5, ground := Go.Ground.phase }], guard := none }) (v := .pointer (some ⟨ba, 4, none⟩)) rfl rfl (by kernel_rfl) (by kernel_rfl) (by kernel_rfl) (by kernel_rfl) (fun _ _ _ h => h) (Or.inl ⟨by kernel_rfl, ?_⟩) rfl ?_
  · (intro X hX; subst hX <;> (go_simp; try (with_reducible rfl)))
  (try simp only [Act.put, List.setIfInBounds_toArray, List.set_cons_zero, List.set_cons_succ])
  refine wpAnyN_take (i := 2) (oi := { dst := some 4, op := Go.Op.load 39 (Go.Operand.tmp 3), type := 39, pos := "hear.go:115", after := #[{ on := 1, ground := Go.Ground.data }], guard := none }) (oL := { dst := none, op := Go.Op.store 3 (Go.Operand.tmp 8) (Go.Operand.tmp 7), type := 0, pos := "hear.go:115", after := #[{ on := 6, ground := Go.Ground.data }, { on := 5, ground := Go.Ground.data }, { on := 0, ground := Go.Ground.phase }, { on := 1, ground := Go.Ground.phase }, { on := 2, ground := Go.Ground.phase }, { on := 3, ground := Go.Ground.phase }, { on := 4, ground := Go.Ground.phase }, { on := 5, ground := Go.Ground.phase }], guard := none }) (v := .slice (some ⟨g, 0, none⟩) 1 1) rfl rfl (by kernel_rfl) (by kernel_rfl) (by kernel_rfl) (by kernel_rfl) (fun _ _ _ h => h) (Or.inl ⟨by kernel_rfl, ?_⟩) rfl ?_
  · (intro X hX; subst hX <;> (go_simp; try (with_reducible rfl)))
  (try simp only [Act.put, List.setIfInBounds_toArray, List.set_cons_zero, List.set_cons_succ])
  refine wpAnyN_take (i := 3) (oi := { dst := some 5, op := Go.Op.indexAddr 39 (Go.Operand.tmp 4) (Go.Operand.const (Go.Value.int Go.IntKind.i64 0)), type := 0, pos := "hear.go:115", after := #[{ on := 2, ground := Go.Ground.data }], guard := none }) (oL := { dst := none, op := Go.Op.store 3 (Go.Operand.tmp 8) (Go.Operand.tmp 7), type := 0, pos := "hear.go:115", after := #[{ on := 6, ground := Go.Ground.data }, { on := 5, ground := Go.Ground.data }, { on := 0, ground := Go.Ground.phase }, { on := 1, ground := Go.Ground.phase }, { on := 2, ground := Go.Ground.phase }, { on := 3, ground := Go.Ground.phase }, { on := 4, ground := Go.Ground.phase }, { on := 5, ground := Go.Ground.phase }], guard := none }) (v := .pointer (some ⟨g, 0, none⟩)) rfl rfl (by kernel_rfl) (by kernel_rfl) (by kernel_rfl) (by kernel_rfl) (fun _ _ _ h => h) (Or.inl ⟨by kernel_rfl, ?_⟩) rfl ?_
  · (intro X hX; subst hX <;> (go_simp; try (with_reducible rfl)))
  (try simp only [Act.put, List.setIfInBounds_toArray, List.set_cons_zero, List.set_cons_succ])
  refine wpAnyN_take (i := 4) (oi := { dst := some 6, op := Go.Op.fieldAddr 64 (Go.Operand.tmp 5) 1, type := 0, pos := "hear.go:115", after := #[{ on := 3, ground := Go.Ground.data }], guard := none }) (oL := { dst := none, op := Go.Op.store 3 (Go.Operand.tmp 8) (Go.Operand.tmp 7), type := 0, pos := "hear.go:115", after := #[{ on := 6, ground := Go.Ground.data }, { on := 5, ground := Go.Ground.data }, { on := 0, ground := Go.Ground.phase }, { on := 1, ground := Go.Ground.phase }, { on := 2, ground := Go.Ground.phase }, { on := 3, ground := Go.Ground.phase }, { on := 4, ground := Go.Ground.phase }, { on := 5, ground := Go.Ground.phase }], guard := none }) (v := .pointer (some ⟨g, 1, none⟩)) rfl rfl (by kernel_rfl) (by kernel_rfl) (by kernel_rfl) (by kernel_rfl) (fun _ _ _ h => h) (Or.inl ⟨by kernel_rfl, ?_⟩) rfl ?_
  · (intro X hX; subst hX <;> (go_simp; try (with_reducible rfl)))
  (try simp only [Act.put, List.setIfInBounds_toArray, List.set_cons_zero, List.set_cons_succ])
  refine wpAnyN_take (i := 5) (oi := { dst := some 7, op := Go.Op.load 3 (Go.Operand.tmp 6), type := 3, pos := "hear.go:115", after := #[{ on := 4, ground := Go.Ground.data }], guard := none }) (oL := { dst := none, op := Go.Op.store 3 (Go.Operand.tmp 8) (Go.Operand.tmp 7), type := 0, pos := "hear.go:115", after := #[{ on := 6, ground := Go.Ground.data }, { on := 5, ground := Go.Ground.data }, { on := 0, ground := Go.Ground.phase }, { on := 1, ground := Go.Ground.phase }, { on := 2, ground := Go.Ground.phase }, { on := 3, ground := Go.Ground.phase }, { on := 4, ground := Go.Ground.phase }, { on := 5, ground := Go.Ground.phase }], guard := none }) (v := .int .i64 x) rfl rfl (by kernel_rfl) (by kernel_rfl) (by kernel_rfl) (by kernel_rfl) (fun _ _ _ h => h) (Or.inl ⟨by kernel_rfl, ?_⟩) rfl ?_
  · (intro X hX; subst hX <;> (go_simp; try (with_reducible rfl)))
  (try simp only [Act.put, List.setIfInBounds_toArray, List.set_cons_zero, List.set_cons_succ])
  refine wpAnyN_take (i := 6) (oi := { dst := some 8, op := Go.Op.nilCheck (Go.Operand.tmp 2), type := 0, pos := "hear.go:115", after := #[{ on := 0, ground := Go.Ground.data }, { on := 0, ground := Go.Ground.phase }, { on := 1, ground := Go.Ground.phase }, { on := 2, ground := Go.Ground.phase }, { on := 3, ground := Go.Ground.phase }, { on := 4, ground := Go.Ground.phase }, { on := 5, ground := Go.Ground.phase }], guard := none }) (oL := { dst := none, op := Go.Op.store 3 (Go.Operand.tmp 8) (Go.Operand.tmp 7), type := 0, pos := "hear.go:115", after := #[{ on := 6, ground := Go.Ground.data }, { on := 5, ground := Go.Ground.data }, { on := 0, ground := Go.Ground.phase }, { on := 1, ground := Go.Ground.phase }, { on := 2, ground := Go.Ground.phase }, { on := 3, ground := Go.Ground.phase }, { on := 4, ground := Go.Ground.phase }, { on := 5, ground := Go.Ground.phase }], guard := none }) (v := .pointer (some ⟨P, 2, none⟩)) rfl rfl (by kernel_rfl) (by kernel_rfl) (by kernel_rfl) (by kernel_rfl) (fun _ _ _ h => h) (Or.inl ⟨by kernel_rfl, ?_⟩) rfl ?_
  · (intro X hX; subst hX <;> (go_simp; try (with_reducible rfl)))
  (try simp only [Act.put, List.setIfInBounds_toArray, List.set_cons_zero, List.set_cons_succ])
  refine wpAnyN_one (i := 7) (o := { dst := none, op := Go.Op.store 3 (Go.Operand.tmp 8) (Go.Operand.tmp 7), type := 0, pos := "hear.go:115", after := #[{ on := 6, ground := Go.Ground.data }, { on := 5, ground := Go.Ground.data }, { on := 0, ground := Go.Ground.phase }, { on := 1, ground := Go.Ground.phase }, { on := 2, ground := Go.Ground.phase }, { on := 3, ground := Go.Ground.phase }, { on := 4, ground := Go.Ground.phase }, { on := 5, ground := Go.Ground.phase }], guard := none }) (by kernel_rfl) rfl (fun K hK => ?_)
  go_simp
  refine hK.out _ _ (fun e => absurd (e.symm.trans (by kernel_rfl) : false = true) Bool.false_ne_true) ?_
  clear hK K
  (try simp only [Act.put, List.setIfInBounds_toArray, List.set_cons_zero, List.set_cons_succ])
  refine wpAnyN_of_H (S' := fun _ => True) _ _ _ _ (by kernel_rfl) ?_
  refine wpAnyH_done (by kernel_rfl) ?_ _
  go_wp2_with fail
  first | refine bodyPost_end (results_none rfl _ _ _) rfl ?_ | refine bodyPost_ret (results_none rfl _ _ _) rfl ?_
  first | exact ⟨rfl, ⟨FIN.out.1.os, FIN.out.1.tape, FIN.out.1.output, FIN.out.1.size, FIN.out.1.block⟩, FIN.out.2⟩ | exact ⟨⟨FIN.out.1.os, FIN.out.1.tape, FIN.out.1.output, FIN.out.1.size, FIN.out.1.block⟩, FIN.out.2⟩
end Go.Proofs.YtlmlbcnjohjnlaaDoor

/- mirror: the first that waits is dropped; a command is answered. -/
namespace Go.Proofs.YtlmlbcnjohjnlaaDoor
open Go.RowKit

theorem ak_cells {X : World} {b : Nat} {k : AK} (h : X.heap[b]? = some (.cells (akC k) 78 (0, 0))) : X.cell? ⟨b, 0, none⟩ = some (.string k.tag) ∧ X.cell? ⟨b, 1, none⟩ = some (.int .i64 k.verb) ∧ X.cell? ⟨b, 2, none⟩ = some (.bool k.uid) ∧ X.cell? ⟨b, 3, none⟩ = some (.bool k.sil) ∧ X.cell? ⟨b, 4, none⟩ = some k.set := by
  unfold akC at h
  exact ⟨cell_of h 0, cell_of h 1, cell_of h 2, cell_of h 3, cell_of h 4⟩
set_option maxRecDepth 10000 in
set_option maxHeartbeats 2000000 in
theorem drop_one (P : Nat) (sel : Bool) (v n h : Int) (rows was : Value) (bg : Bool) (g c : Nat) (cs : Array Value) (w : World) (hM : w.heap[P]? = some (mirO (.slice (some ⟨g, 0, none⟩) 1 c) sel v n h rows was bg)) (hG : w.heap[g]? = some (.cells cs 78 (0, 0))) (h5 : 5 ≤ cs.size) (h1 : 1 ≤ c) :
    Calls Tryd.prog 56 #[.pointer (some ⟨P, 0, none⟩)] w fun e w' => e = .returned (.tuple #[]) ∧ Stays [P, g] w w' ∧ ∃ q', w'.heap[P]? = some (mirO q' sel v n h rows was bg) := by
  have hne : P ≠ g := kind_ne (by unfold mirO at hM; exact hM) hG (by decide)
  have hPl := lt_of_heap hM
  have hGl := lt_of_heap hG
  obtain ⟨Y, hY⟩ : ∃ Y, w.alloc akZ = Y := ⟨_, rfl⟩
  have s0 : Stays [P, g] w Y := by rw [← hY]; exact (Stays.refl _ _).alloc _
  have yP : Y.heap[P]? = some (mirO (.slice (some ⟨g, 0, none⟩) 1 c) sel v n h rows was bg) := by rw [← hY, Below.heap_alloc _ _ _ hPl]; exact hM
  have yG : Y.heap[g]? = some (.cells cs 78 (0, 0)) := by rw [← hY, Below.heap_alloc _ _ _ hGl]; exact hG
  have yZ : Y.heap[w.heap.size]? = some akZ := by rw [← hY]; exact heap_new _ _
  unfold akZ at yZ
  have z0 : Y.cell? ⟨w.heap.size, 0, none⟩ = some (.string ⟨#[]⟩) := cell_of yZ 0
  have z1 : Y.cell? ⟨w.heap.size, 1, none⟩ = some (.int .i64 0) := cell_of yZ 1
  have z2 : Y.cell? ⟨w.heap.size, 2, none⟩ = some (.bool false) := cell_of yZ 2
  have z3 : Y.cell? ⟨w.heap.size, 3, none⟩ = some (.bool false) := cell_of yZ 3
  have z4 : Y.cell? ⟨w.heap.size, 4, none⟩ = some (.slice none 0 0) := cell_of yZ 4
  have m0 := (mir_cells yP).c0
  have k0 : Y.cell? ⟨g, 0, none⟩ = some (cs[0]'(by omega)) := by rw [cell_of yG]; exact Array.getElem?_eq_getElem _
  have k1 : Y.cell? ⟨g, 1, none⟩ = some (cs[1]'(by omega)) := by rw [cell_of yG]; exact Array.getElem?_eq_getElem _
  have k2 : Y.cell? ⟨g, 2, none⟩ = some (cs[2]'(by omega)) := by rw [cell_of yG]; exact Array.getElem?_eq_getElem _
  have k3 : Y.cell? ⟨g, 3, none⟩ = some (cs[3]'(by omega)) := by rw [cell_of yG]; exact Array.getElem?_eq_getElem _
  have k4 : Y.cell? ⟨g, 4, none⟩ = some (cs[4]'(by omega)) := by rw [cell_of yG]; exact Array.getElem?_eq_getElem _
  generalize cs[0]'(by omega) = u0 at k0
  generalize cs[1]'(by omega) = u1 at k1
  generalize cs[2]'(by omega) = u2 at k2
  generalize cs[3]'(by omega) = u3 at k3
  generalize cs[4]'(by omega) = u4 at k4
  have f0 := frozen_of yG 0
  have f1 := frozen_of yG 1
  have f2 := frozen_of yG 2
  have f3 := frozen_of yG 3
  have f4 := frozen_of yG 4
  have S0 := Lib.hid s0
  have YP := Lib.hid yP
  have HY := Lib.hid hY
  have HN := Lib.hid hne
  clear hM hG hPl hGl hY s0 yP yG yZ hne h5
  unfold akZ at HY
  go_enter Tryd.func56, Tryd.ntmps56
  go_upto_region 1 with fail
  rw [HY.out]
  clear HY
  refine wp_region_N 6 (fun X => X = Y.drew) (by kernel_rfl) ?_
  refine wpAnyN_take (i := 0) (oi := { dst := some 3, op := Go.Op.move (Go.Operand.tmp 0), type := 86, pos := "queue.go:22", after := #[], guard := none }) (oL := { dst := none, op := Go.Op.store 78 (Go.Operand.tmp 8) (Go.Operand.tmp 7), type := 0, pos := "queue.go:22", after := #[{ on := 5, ground := Go.Ground.data }, { on := 4, ground := Go.Ground.data }, { on := 0, ground := Go.Ground.phase }, { on := 1, ground := Go.Ground.phase }, { on := 2, ground := Go.Ground.phase }, { on := 3, ground := Go.Ground.phase }, { on := 4, ground := Go.Ground.phase }], guard := none }) (v := .pointer (some ⟨P, 0, none⟩)) rfl rfl (by kernel_rfl) (by kernel_rfl) (by kernel_rfl) (by kernel_rfl) (fun _ _ _ h => h) (Or.inl ⟨by kernel_rfl, ?_⟩) rfl ?_
  · (intro X hX; subst hX <;> (go_simp; try (with_reducible rfl)))
  (try simp only [Act.put, List.setIfInBounds_toArray, List.set_cons_zero, List.set_cons_succ])
  refine wpAnyN_take (i := 1) (oi := { dst := some 4, op := Go.Op.nilCheck (Go.Operand.tmp 3), type := 0, pos := "queue.go:22", after := #[{ on := 0, ground := Go.Ground.data }], guard := none }) (oL := { dst := none, op := Go.Op.store 78 (Go.Operand.tmp 8) (Go.Operand.tmp 7), type := 0, pos := "queue.go:22", after := #[{ on := 5, ground := Go.Ground.data }, { on := 4, ground := Go.Ground.data }, { on := 0, ground := Go.Ground.phase }, { on := 1, ground := Go.Ground.phase }, { on := 2, ground := Go.Ground.phase }, { on := 3, ground := Go.Ground.phase }, { on := 4, ground := Go.Ground.phase }], guard := none }) (v := .pointer (some ⟨P, 0, none⟩)) rfl rfl (by kernel_rfl) (by kernel_rfl) (by kernel_rfl) (by kernel_rfl) (fun _ _ _ h => h) (Or.inl ⟨by kernel_rfl, ?_⟩) rfl ?_
  · (intro X hX; subst hX <;> (go_simp; try (with_reducible rfl)))
  (try simp only [Act.put, List.setIfInBounds_toArray, List.set_cons_zero, List.set_cons_succ])
  refine wpAnyN_take (i := 2) (oi := { dst := some 5, op := Go.Op.fieldAddr 69 (Go.Operand.tmp 4) 0, type := 0, pos := "queue.go:22", after := #[{ on := 1, ground := Go.Ground.data }], guard := none }) (oL := { dst := none, op := Go.Op.store 78 (Go.Operand.tmp 8) (Go.Operand.tmp 7), type := 0, pos := "queue.go:22", after := #[{ on := 5, ground := Go.Ground.data }, { on := 4, ground := Go.Ground.data }, { on := 0, ground := Go.Ground.phase }, { on := 1, ground := Go.Ground.phase }, { on := 2, ground := Go.Ground.phase }, { on := 3, ground := Go.Ground.phase }, { on := 4, ground := Go.Ground.phase }], guard := none }) (v := .pointer (some ⟨P, 0, none⟩)) rfl rfl (by kernel_rfl) (by kernel_rfl) (by kernel_rfl) (by kernel_rfl) (fun _ _ _ h => h) (Or.inl ⟨by kernel_rfl, ?_⟩) rfl ?_
  · (intro X hX; subst hX <;> (go_simp; try (with_reducible rfl)))
  (try simp only [Act.put, List.setIfInBounds_toArray, List.set_cons_zero, List.set_cons_succ])
  refine wpAnyN_take (i := 3) (oi := { dst := some 6, op := Go.Op.load 67 (Go.Operand.tmp 5), type := 67, pos := "queue.go:22", after := #[{ on := 2, ground := Go.Ground.data }], guard := none }) (oL := { dst := none, op := Go.Op.store 78 (Go.Operand.tmp 8) (Go.Operand.tmp 7), type := 0, pos := "queue.go:22", after := #[{ on := 5, ground := Go.Ground.data }, { on := 4, ground := Go.Ground.data }, { on := 0, ground := Go.Ground.phase }, { on := 1, ground := Go.Ground.phase }, { on := 2, ground := Go.Ground.phase }, { on := 3, ground := Go.Ground.phase }, { on := 4, ground := Go.Ground.phase }], guard := none }) (v := .slice (some ⟨g, 0, none⟩) 1 c) rfl rfl (by kernel_rfl) (by kernel_rfl) (by kernel_rfl) (by kernel_rfl) (fun _ _ _ h => h) (Or.inl ⟨by kernel_rfl, ?_⟩) rfl ?_
  · (intro X hX; subst hX <;> (go_simp; try (with_reducible rfl)))
  (try simp only [Act.put, List.setIfInBounds_toArray, List.set_cons_zero, List.set_cons_succ])
  refine wpAnyN_take (i := 4) (oi := { dst := some 7, op := Go.Op.load 78 (Go.Operand.tmp 2), type := 78, pos := "queue.go:22", after := #[], guard := none }) (oL := { dst := none, op := Go.Op.store 78 (Go.Operand.tmp 8) (Go.Operand.tmp 7), type := 0, pos := "queue.go:22", after := #[{ on := 5, ground := Go.Ground.data }, { on := 4, ground := Go.Ground.data }, { on := 0, ground := Go.Ground.phase }, { on := 1, ground := Go.Ground.phase }, { on := 2, ground := Go.Ground.phase }, { on := 3, ground := Go.Ground.phase }, { on := 4, ground := Go.Ground.phase }], guard := none }) (v := .agg #[.string ⟨#[]⟩, .int .i64 0, .bool false, .bool false, .slice none 0 0]) rfl rfl (by kernel_rfl) (by kernel_rfl) (by kernel_rfl) (by kernel_rfl) (fun _ _ _ h => h) (Or.inl ⟨by kernel_rfl, ?_⟩) rfl ?_
  · (intro X hX; subst hX <;> (go_simp; try (with_reducible rfl)))
  (try simp only [Act.put, List.setIfInBounds_toArray, List.set_cons_zero, List.set_cons_succ])
  refine wpAnyN_take (i := 5) (oi := { dst := some 8, op := Go.Op.indexAddr 67 (Go.Operand.tmp 6) (Go.Operand.const (Go.Value.int Go.IntKind.i64 0)), type := 0, pos := "queue.go:22", after := #[{ on := 3, ground := Go.Ground.data }, { on := 0, ground := Go.Ground.phase }, { on := 1, ground := Go.Ground.phase }, { on := 2, ground := Go.Ground.phase }, { on := 3, ground := Go.Ground.phase }, { on := 4, ground := Go.Ground.phase }], guard := none }) (oL := { dst := none, op := Go.Op.store 78 (Go.Operand.tmp 8) (Go.Operand.tmp 7), type := 0, pos := "queue.go:22", after := #[{ on := 5, ground := Go.Ground.data }, { on := 4, ground := Go.Ground.data }, { on := 0, ground := Go.Ground.phase }, { on := 1, ground := Go.Ground.phase }, { on := 2, ground := Go.Ground.phase }, { on := 3, ground := Go.Ground.phase }, { on := 4, ground := Go.Ground.phase }], guard := none }) (v := .pointer (some ⟨g, 0, none⟩)) rfl rfl (by kernel_rfl) (by kernel_rfl) (by kernel_rfl) (by kernel_rfl) (fun _ _ _ h => h) (Or.inl ⟨by kernel_rfl, ?_⟩) rfl ?_
  · (intro X hX; subst hX <;> (go_simp; try (with_reducible rfl)))
  (try simp only [Act.put, List.setIfInBounds_toArray, List.set_cons_zero, List.set_cons_succ])
  refine wpAnyN_one (i := 6) (o := { dst := none, op := Go.Op.store 78 (Go.Operand.tmp 8) (Go.Operand.tmp 7), type := 0, pos := "queue.go:22", after := #[{ on := 5, ground := Go.Ground.data }, { on := 4, ground := Go.Ground.data }, { on := 0, ground := Go.Ground.phase }, { on := 1, ground := Go.Ground.phase }, { on := 2, ground := Go.Ground.phase }, { on := 3, ground := Go.Ground.phase }, { on := 4, ground := Go.Ground.phase }], guard := none }) (by kernel_rfl) rfl (fun K hK => ?_)
  go_simp
  refine hK.out _ _ (fun e => absurd (e.symm.trans (by kernel_rfl) : false = true) Bool.false_ne_true) ?_
  clear hK K
  (try simp only [Act.put, List.setIfInBounds_toArray, List.set_cons_zero, List.set_cons_succ])
  refine wpAnyN_of_H (S' := fun _ => True) _ _ _ _ (by kernel_rfl) ?_
  refine wpAnyH_done (by kernel_rfl) ?_ _
  go_upto_region 2 with fail
  clear z0 z1 z2 z3 z4 m0 k0 k1 k2 k3 k4 f0 f1 f2 f3 f4
  refine wp_gen (fun Z hZ => ?_)
  have sc : ∀ (X : World) (o : Nat) (u : Value), (X.setCell ⟨g, o, none⟩ u).heap[P]? = X.heap[P]? := fun X o u => Below.heap_setCell _ _ _ _ HN.out
  have zP : Z.heap[P]? = some (mirO (.slice (some ⟨g, 0, none⟩) 1 c) sel v n h rows was bg) := by
    rw [hZ]
    simp only [sc, World.drew]
    exact YP.out
  have zS : Stays [P, g] w Z := by
    rw [hZ]
    repeat (first | exact S0.out | apply Stays.drew | refine Stays.setCell ?_ (.inl (by simp)) _)
  have m0 := (mir_cells zP).c0
  have f0 := mir_fz zP 0
  have FIN : Hid (∀ x, Stays [P, g] w (Z.setCell ⟨P, 0, none⟩ x) ∧ ∃ q', (Z.setCell ⟨P, 0, none⟩ x).heap[P]? = some (mirO q' sel v n h rows was bg)) := Lib.hid (fun x => ⟨zS.setCell (.inl (by simp)) _, _, mir_set0 zP _⟩)
  clear hZ sc zP zS S0 YP HN
  have h1i : (1 : Int) ≤ (c : Int) := by omega
  go_wp2_with fail
  all_goals (
    first | refine bodyPost_end (results_none rfl _ _ _) rfl ?_ | refine bodyPost_ret (results_none rfl _ _ _) rfl ?_
    exact ⟨rfl, FIN.out _⟩)
end Go.Proofs.YtlmlbcnjohjnlaaDoor

/- mirror: a SELECT is answered OK. -/
namespace Go.Proofs.YtlmlbcnjohjnlaaDoor
open Go.RowKit

def mpO (P : Nat) : Obj := .cells #[.pointer (some ⟨P, 0, none⟩)] 24
theorem Stays.at_ {fp : List Nat} {w w' : World} {b : Nat} {o : Obj} (h : Stays fp w w') (e : w.heap[b]? = some o) (hn : b ∉ fp) : w'.heap[b]? = some o := by rw [h.block b (lt_of_heap e) hn]; exact e
set_option maxRecDepth 10000 in
set_option maxHeartbeats 2000000 in
theorem answered1_open (P : Nat) (sel : Bool) (v n h : Int) (rows was : Value) (bg : Bool) (g c : Nat) (cs : Array Value) (k : AK) (hk : (k.verb == 5 || k.verb == 6) = true) (hks : ∃ sa sn sc, k.set = .slice sa sn sc) (a : AN) (ha : a.out = 1) (bm bc ba : Nat) (w : World) (hM : w.heap[P]? = some (mirO (.slice (some ⟨g, 0, none⟩) 1 c) sel v n h rows was bg)) (hG : w.heap[g]? = some (.cells cs 78 (0, 0))) (h5 : 5 ≤ cs.size) (h1 : 1 ≤ c)
    (hm : w.heap[bm]? = some (mpO P)) (hc : w.heap[bc]? = some (.cells (akC k) 78 (0, 0))) (hA : w.heap[ba]? = some (anO a)) (hcg : bc ≠ g) :
    Calls Tryd.prog 55 #[.pointer (some ⟨bm, 0, none⟩), .pointer (some ⟨bc, 0, none⟩), .pointer (some ⟨ba, 0, none⟩)] w fun e w' => e = .returned (.tuple #[]) ∧ Stays [P, g] w w' ∧ ∃ q', w'.heap[P]? = some (mirO q' true v n h rows was false) := by
  have HD := Lib.hid (drop_one P sel v n h rows was bg g c cs w hM hG h5 h1)
  have b0 : w.cell? ⟨bm, 0, none⟩ = some (.pointer (some ⟨P, 0, none⟩)) := by unfold mpO at hm; exact cell_of hm 0
  have nm : bm ∉ [P, g] := by
    intro e
    rcases List.mem_cons.1 e with e | e
    · exact kind_ne (by unfold mpO at hm; exact hm) (by unfold mirO at hM; exact hM) (by decide) e
    · exact kind_ne (by unfold mpO at hm; exact hm) hG (by decide) (by simpa using e)
  have nc : bc ∉ [P, g] := by
    intro e
    rcases List.mem_cons.1 e with e | e
    · exact kind_ne hc (by unfold mirO at hM; exact hM) (by decide) e
    · exact hcg (by simpa using e)
  have na : ba ∉ [P, g] := by
    intro e
    rcases List.mem_cons.1 e with e | e
    · exact kind_ne (by unfold anO at hA; exact hA) (by unfold mirO at hM; exact hM) (by decide) e
    · exact kind_ne (by unfold anO at hA; exact hA) hG (by decide) (by simpa using e)
  have HX : Hid (∀ X, Stays [P, g] w X → X.cell? ⟨bm, 0, none⟩ = some (.pointer (some ⟨P, 0, none⟩)) ∧ X.heap[bc]? = some (.cells (akC k) 78 (0, 0)) ∧ X.cell? ⟨ba, 2, none⟩ = some (.int .i64 1)) := Lib.hid (fun X hX => by
    refine ⟨?_, hX.at_ hc nc, ?_⟩
    · have := hX.at_ hm nm
      unfold mpO at this
      exact cell_of this 0
    · rw [(an_cells (hX.at_ hA na)).2.2.1, ha])
  have HO : Hid (∀ X, Calls Tryd.prog 36 #[.agg (akC k)] X fun e w' => e = .returned (.bool true) ∧ Below X.heap.size X w') := Lib.hid (fun X => by rw [← hk]; exact opens_any k X)
  obtain ⟨kt, kv, ku, ks, kst⟩ := k
  obtain ⟨sa, sn, sc, hs⟩ := hks
  simp only at hs
  subst hs
  clear hk hM hG h5 h1 hm hc hA hcg nm nc na ha
  go_enter Tryd.func55, Tryd.ntmps55
  go_upto_region 1 with (go_at_call 56; refine HD.out.mono ?_; rintro e w1 ⟨rfl, hs1, q1, hm1⟩; have HS1 := Lib.hid hs1; have HM1 := Lib.hid hm1; clear hs1 hm1)
  obtain ⟨d0, _, _⟩ := HX.out _ HS1.out
  have m7 := (mir_cells HM1.out).c7
  have f7 := mir_fz HM1.out 7
  go_upto_region 2 with fail
  clear b0 d0 m7 f7 HD
  obtain ⟨W2, hW2⟩ : ∃ W2, w1.setCell ⟨P, 7, none⟩ (.bool false) = W2 := ⟨_, rfl⟩
  rw [hW2]
  have hm2 : W2.heap[P]? = some (mirO q1 sel v n h rows was false) := by rw [← hW2]; exact mir_set7 HM1.out _
  have hs2 : Stays [P, g] w W2 := by rw [← hW2]; exact HS1.out.setCell (.inl (by simp)) _
  obtain ⟨_, e1, e2⟩ := HX.out _ hs2
  obtain ⟨x0, x1, x2, x3, x4⟩ := ak_cells e1
  simp only at x0 x1 x2 x3 x4
  have HM2 := Lib.hid hm2
  have HS2 := Lib.hid hs2
  clear hW2 hm2 hs2 HM1 HS1 e1
  have HXo : Hid (∀ X, Below W2.heap.size W2 X → X.cell? ⟨bm, 0, none⟩ = some (.pointer (some ⟨P, 0, none⟩)) ∧ X.cell? ⟨ba, 2, none⟩ = some (.int .i64 1) ∧ X.cell? ⟨P, 1, none⟩ = some (.bool sel) ∧ X.frozen? ⟨P, 1, none⟩ = false ∧ Stays [P, g] w (X.setCell ⟨P, 1, none⟩ (.bool true)) ∧ (X.setCell ⟨P, 1, none⟩ (.bool true)).heap[P]? = some (mirO q1 true v n h rows was false)) := Lib.hid (fun X hX => by
    have sX : Stays [P, g] w X := HS2.out.trans (Stays.ofBelow (fp := []) hX) (fun b hb => by cases hb)
    have mX : X.heap[P]? = some (mirO q1 sel v n h rows was false) := bel_at hX (lt_of_heap HM2.out) HM2.out
    obtain ⟨y0, _, y2⟩ := HX.out _ sX
    exact ⟨y0, y2, (mir_cells mX).c1, mir_fz mX 1, sX.setCell (.inl (by simp)) _, mir_set1 mX _⟩)
  clear HX HM2 HS2
  unfold akC at HO
  simp only at HO
  go_wp2_with (go_at_call 36; refine (HO.out _).mono ?_; rintro e w3 ⟨rfl, hb3⟩; obtain ⟨y0, y2, y1, yf, ys, ym⟩ := HXo.out _ hb3; have YS := Lib.hid ys; have YM := Lib.hid ym; clear hb3 ys ym)
  first | refine bodyPost_end (results_none rfl _ _ _) rfl ?_ | refine bodyPost_ret (results_none rfl _ _ _) rfl ?_
  exact ⟨rfl, YS.out, q1, YM.out⟩
end Go.Proofs.YtlmlbcnjohjnlaaDoor

/- mirror: coded. -/
import Derived.Test.YtlmlbcnjohjnlaaDoorN19j
namespace Go.Proofs.YtlmlbcnjohjnlaaDoor
open Go.RowKit

def pjO (P o : Nat) : Obj := .cells #[.pointer (some ⟨P, o, none⟩)] 115
/-- The first of some values that came in. -/
def ArgA (fr : List Nat) (w : World) (av : Value) (ak ax : Int) : Prop := ∃ g o m c t va vn vc, av = .slice (some ⟨g, o, none⟩) m c ∧ 0 < m ∧ g < w.heap.size ∧ g ∉ fr ∧ w.cell? ⟨g, o, none⟩ = some (.int .i64 ak) ∧ w.cell? ⟨g, o + 1, none⟩ = some (.int .i64 ax) ∧ w.cell? ⟨g, o + 2, none⟩ = some (.string t) ∧ w.cell? ⟨g, o + 3, none⟩ = some (.slice va vn vc)
theorem isFn_coded1 : IsFn 60 := fun _ _ => by kernel_rfl
theorem isOpening_M {P : Nat} {fr : List Nat} {M : PM} {X : World} (h : MAt P fr M X) (hq : M.q.length ≤ 1000000) : Calls Tryd.prog 28 #[.pointer (some ⟨P, 0, none⟩)] X fun e w' => e = .returned (.bool (opnM M)) ∧ Below X.heap.size X w' := by
  obtain ⟨q, rows, was, hM, hQ, _⟩ := h.ex
  obtain ⟨k, hh, ho, _⟩ := hand_opn hQ hq
  rw [← ho]
  exact isOpening_any P q k X (mir_cells hM).c0 h.plt hh
theorem mayTell_M {P : Nat} {fr : List Nat} {M : PM} {X : World} (h : MAt P fr M X) (hq : M.q.length ≤ 1000000) : Calls Tryd.prog 43 #[.pointer (some ⟨P, 0, none⟩)] X fun e w' => e = .returned (.bool (telM M)) ∧ Below X.heap.size X w' := by
  obtain ⟨q, rows, was, hM, hQ, _⟩ := h.ex
  obtain ⟨k, hh, ho, hi⟩ := hand_opn hQ hq
  have := mayTell_any P q M.sel k X (mir_cells hM).c0 (mir_cells hM).c1 h.plt hh
  unfold tellB at this
  rw [ho, hi] at this
  exact this
set_option maxRecDepth 10000 in
theorem isNumber_any (k x l : Int) (t : ByteArray) (ka : Option Addr) (kn kc : Nat) (w : World) :
    Calls Tryd.prog 59 #[.agg #[.int .i64 k, .int .i64 x, .string t, .slice ka kn kc], .int .i64 l] w fun e w' => e = .returned (.bool (isNm k x l)) ∧ Below w.heap.size w w' := by
  have q1 := Lib.hid ((Below.refl w.heap.size w).alloc (Nat.le_refl _) (.cells #[.int .i64 k, .int .i64 x, .string t, .slice ka kn kc] 64))
  unfold isNm
  by_cases hk : k = 1
  · have e1 : (k == 1) = true := by simp [hk]
    clear hk
    by_cases hl : l ≤ x
    · have e2 : decide (l ≤ x) = true := by simpa using hl
      by_cases hx : x ≤ 4294967295
      · have e3 : decide (x ≤ 4294967295) = true := by simpa using hx
        rw [e1, e2, e3]
        simp only [Bool.and_true]
        go_enter Tryd.func59, Tryd.ntmps59
        go_wp2_with fail
        go_ret
        first | exact ⟨rfl, q1.out⟩ | exact q1.out
      · have e3 : decide (x ≤ 4294967295) = false := by simpa using hx
        rw [e1, e2, e3]
        simp only [Bool.and_true, Bool.and_false]
        go_enter Tryd.func59, Tryd.ntmps59
        go_wp2_with fail
        go_ret
        first | exact ⟨rfl, q1.out⟩ | exact q1.out
    · have e2 : decide (l ≤ x) = false := by simpa using hl
      rw [e1, e2]
      simp only [Bool.and_false, Bool.false_and]
      go_enter Tryd.func59, Tryd.ntmps59
      go_wp2_with fail
      go_ret
      first | exact ⟨rfl, q1.out⟩ | exact q1.out
  · have e1 : (k == 1) = false := by simp [hk]
    clear hk
    rw [e1]
    simp only [Bool.false_and]
    go_enter Tryd.func59, Tryd.ntmps59
    go_wp2_with fail
    go_ret
    first | exact ⟨rfl, q1.out⟩ | exact q1.out
set_option maxRecDepth 10000 in
theorem coded1_10 (P : Nat) (q : Value) (sel : Bool) (v n h : Int) (rows was : Value) (bg : Bool) (a : AN) (g o m c : Nat) (hm : 0 < m) (x : Int) (ha : a.args = .slice (some ⟨g, o, none⟩) m c) (ba bp : Nat) (w : World) (hg : w.cell? ⟨g, o + 1, none⟩ = some (.int .i64 x)) (hA : w.heap[ba]? = some (anO a)) (hB : w.heap[bp]? = some (pjO P 2)) (hM : w.heap[P]? = some (mirO q sel v n h rows was bg)) :
    Calls Tryd.prog 60 #[.pointer (some ⟨ba, 0, none⟩), .pointer (some ⟨bp, 0, none⟩)] w fun e w' => e = .returned (.tuple #[]) ∧ Stays [P] w w' ∧ w'.heap[P]? = some (mirO q sel x n h rows was bg) := by
  have c4 : w.cell? ⟨ba, 4, none⟩ = some (.slice (some ⟨g, o, none⟩) m c) := by rw [(an_cells hA).2.2.2.2.1, ha]
  have d0 : w.cell? ⟨bp, 0, none⟩ = some (.pointer (some ⟨P, 2, none⟩)) := by unfold pjO at hB; exact cell_of hB 0
  have m2 := (mir_cells hM).c2
  have f2 := mir_fz hM 2
  have hmi : (0 : Int) < (m : Int) := by omega
  have fin : Stays [P] w (w.setCell ⟨P, 2, none⟩ (.int .i64 x)) ∧ (w.setCell ⟨P, 2, none⟩ (.int .i64 x)).heap[P]? = some (mirO q sel x n h rows was bg) :=
    ⟨(Stays.refl _ _).setCell (.inl (by simp)) _, by unfold mirO mirC at hM ⊢; rw [heap_setCell_at _ hM]; rfl⟩
  have FIN := Lib.hid fin
  clear hA hB hM fin
  go_enter Tryd.func60, Tryd.ntmps60
  go_wp2_with fail
  refine wp_region_N 7 (fun X => X = w.drew) (by kernel_rfl) ?_
  refine wpAnyN_take (i := 0) (oi := { dst := some 2, op := Go.Op.load 115 (Go.Operand.tmp 1), type := 115, pos := "hear.go:115", after := #[], guard := none }) (oL := { dst := none, op := Go.Op.store 3 (Go.Operand.tmp 8) (Go.Operand.tmp 7), type := 0, pos := "hear.go:115", after := #[{ on := 6, ground := Go.Ground.data }, { on := 5, ground := Go.Ground.data }, { on := 0, ground := Go.Ground.phase }, { on := 1, ground := Go.Ground.phase }, { on := 2, ground := Go.Ground.phase }, { on := 3, ground := Go.Ground.phase }, { on := 4, ground := Go.Ground.phase }, { on := 5, ground := Go.Ground.phase }], guard := none }) (v := .pointer (some ⟨P, 2, none⟩)) rfl rfl (by kernel_rfl) (by kernel_rfl) (by kernel_rfl) (by kernel_rfl) (fun _ _ _ h => h) (Or.inl ⟨by kernel_rfl, ?_⟩) rfl ?_
  · (intro X hX; subst hX <;> (go_simp; try (with_reducible rfl)))
  (try simp only [Act.put, List.setIfInBounds_toArray, List.set_cons_zero, List.set_cons_succ])
  refine wpAnyN_take (i := 1) (oi := { dst := some 3, op := Go.Op.fieldAddr 43 (Go.Operand.tmp 0) 4, type := 0, pos := "hear.go:115", after := #[], guard := none }) (oL := { dst := none, op := Go.Op.store 3 (Go.Operand.tmp 8) (Go.Operand.tmp 7), type := 0, pos := "hear.go:115", after := #[{ on := 6, ground := Go.Ground.data }, { on := 5, ground := Go.Ground.data }, { on := 0, ground := Go.Ground.phase }, { on := 1, ground := Go.Ground.phase }, { on := 2, ground := Go.Ground.phase }, { on := 3, ground := Go.Ground.phase }, { on := 4, ground := Go.Ground.phase }, { on := 5, ground := Go.Ground.phase }], guard := none }) (v := .pointer (some ⟨ba, 4, none⟩)) rfl rfl (by kernel_rfl) (by kernel_rfl) (by kernel_rfl) (by kernel_rfl) (fun _ _ _ h => h) (Or.inl ⟨by kernel_rfl, ?_⟩) rfl ?_
  · (intro X hX; subst hX <;> (go_simp; try (with_reducible rfl)))
  (try simp only [Act.put, List.setIfInBounds_toArray, List.set_cons_zero, List.set_cons_succ])
  refine wpAnyN_take (i := 2) (oi := { dst := some 4, op := Go.Op.load 39 (Go.Operand.tmp 3), type := 39, pos := "hear.go:115", after := #[{ on := 1, ground := Go.Ground.data }], guard := none }) (oL := { dst := none, op := Go.Op.store 3 (Go.Operand.tmp 8) (Go.Operand.tmp 7), type := 0, pos := "hear.go:115", after := #[{ on := 6, ground := Go.Ground.data }, { on := 5, ground := Go.Ground.data }, { on := 0, ground := Go.Ground.phase }, { on := 1, ground := Go.Ground.phase }, { on := 2, ground := Go.Ground.phase }, { on := 3, ground := Go.Ground.phase }, { on := 4, ground := Go.Ground.phase }, { on := 5, ground := Go.Ground.phase }], guard := none }) (v := .slice (some ⟨g, o, none⟩) m c) rfl rfl (by kernel_rfl) (by kernel_rfl) (by kernel_rfl) (by kernel_rfl) (fun _ _ _ h => h) (Or.inl ⟨by kernel_rfl, ?_⟩) rfl ?_
  · (intro X hX; subst hX <;> (go_simp; try (with_reducible rfl)))
  (try simp only [Act.put, List.setIfInBounds_toArray, List.set_cons_zero, List.set_cons_succ])
  refine wpAnyN_take (i := 3) (oi := { dst := some 5, op := Go.Op.indexAddr 39 (Go.Operand.tmp 4) (Go.Operand.const (Go.Value.int Go.IntKind.i64 0)), type := 0, pos := "hear.go:115", after := #[{ on := 2, ground := Go.Ground.data }], guard := none }) (oL := { dst := none, op := Go.Op.store 3 (Go.Operand.tmp 8) (Go.Operand.tmp 7), type := 0, pos := "hear.go:115", after := #[{ on := 6, ground := Go.Ground.data }, { on := 5, ground := Go.Ground.data }, { on := 0, ground := Go.Ground.phase }, { on := 1, ground := Go.Ground.phase }, { on := 2, ground := Go.Ground.phase }, { on := 3, ground := Go.Ground.phase }, { on := 4, ground := Go.Ground.phase }, { on := 5, ground := Go.Ground.phase }], guard := none }) (v := .pointer (some ⟨g, o, none⟩)) rfl rfl (by kernel_rfl) (by kernel_rfl) (by kernel_rfl) (by kernel_rfl) (fun _ _ _ h => h) (Or.inl ⟨by kernel_rfl, ?_⟩) rfl ?_
  · (intro X hX; subst hX <;> (go_simp; try (with_reducible rfl)))
  (try simp only [Act.put, List.setIfInBounds_toArray, List.set_cons_zero, List.set_cons_succ])
  refine wpAnyN_take (i := 4) (oi := { dst := some 6, op := Go.Op.fieldAddr 64 (Go.Operand.tmp 5) 1, type := 0, pos := "hear.go:115", after := #[{ on := 3, ground := Go.Ground.data }], guard := none }) (oL := { dst := none, op := Go.Op.store 3 (Go.Operand.tmp 8) (Go.Operand.tmp 7), type := 0, pos := "hear.go:115", after := #[{ on := 6, ground := Go.Ground.data }, { on := 5, ground := Go.Ground.data }, { on := 0, ground := Go.Ground.phase }, { on := 1, ground := Go.Ground.phase }, { on := 2, ground := Go.Ground.phase }, { on := 3, ground := Go.Ground.phase }, { on := 4, ground := Go.Ground.phase }, { on := 5, ground := Go.Ground.phase }], guard := none }) (v := .pointer (some ⟨g, o + 1, none⟩)) rfl rfl (by kernel_rfl) (by kernel_rfl) (by kernel_rfl) (by kernel_rfl) (fun _ _ _ h => h) (Or.inl ⟨by kernel_rfl, ?_⟩) rfl ?_
  · (intro X hX; subst hX <;> (go_simp; try (with_reducible rfl)))
  (try simp only [Act.put, List.setIfInBounds_toArray, List.set_cons_zero, List.set_cons_succ])
  refine wpAnyN_take (i := 5) (oi := { dst := some 7, op := Go.Op.load 3 (Go.Operand.tmp 6), type := 3, pos := "hear.go:115", after := #[{ on := 4, ground := Go.Ground.data }], guard := none }) (oL := { dst := none, op := Go.Op.store 3 (Go.Operand.tmp 8) (Go.Operand.tmp 7), type := 0, pos := "hear.go:115", after := #[{ on := 6, ground := Go.Ground.data }, { on := 5, ground := Go.Ground.data }, { on := 0, ground := Go.Ground.phase }, { on := 1, ground := Go.Ground.phase }, { on := 2, ground := Go.Ground.phase }, { on := 3, ground := Go.Ground.phase }, { on := 4, ground := Go.Ground.phase }, { on := 5, ground := Go.Ground.phase }], guard := none }) (v := .int .i64 x) rfl rfl (by kernel_rfl) (by kernel_rfl) (by kernel_rfl) (by kernel_rfl) (fun _ _ _ h => h) (Or.inl ⟨by kernel_rfl, ?_⟩) rfl ?_
  · (intro X hX; subst hX <;> (go_simp; try (with_reducible rfl)))
  (try simp only [Act.put, List.setIfInBounds_toArray, List.set_cons_zero, List.set_cons_succ])
  refine wpAnyN_take (i := 6) (oi := { dst := some 8, op := Go.Op.nilCheck (Go.Operand.tmp 2), type := 0, pos := "hear.go:115", after := #[{ on := 0, ground := Go.Ground.data }, { on := 0, ground := Go.Ground.phase }, { on := 1, ground := Go.Ground.phase }, { on := 2, ground := Go.Ground.phase }, { on := 3, ground := Go.Ground.phase }, { on := 4, ground := Go.Ground.phase }, { on := 5, ground := Go.Ground.phase }], guard := none }) (oL := { dst := none, op := Go.Op.store 3 (Go.Operand.tmp 8) (Go.Operand.tmp 7), type := 0, pos := "hear.go:115", after := #[{ on := 6, ground := Go.Ground.data }, { on := 5, ground := Go.Ground.data }, { on := 0, ground := Go.Ground.phase }, { on := 1, ground := Go.Ground.phase }, { on := 2, ground := Go.Ground.phase }, { on := 3, ground := Go.Ground.phase }, { on := 4, ground := Go.Ground.phase }, { on := 5, ground := Go.Ground.phase }], guard := none }) (v := .pointer (some ⟨P, 2, none⟩)) rfl rfl (by kernel_rfl) (by kernel_rfl) (by kernel_rfl) (by kernel_rfl) (fun _ _ _ h => h) (Or.inl ⟨by kernel_rfl, ?_⟩) rfl ?_
  · (intro X hX; subst hX <;> (go_simp; try (with_reducible rfl)))
  (try simp only [Act.put, List.setIfInBounds_toArray, List.set_cons_zero, List.set_cons_succ])
  refine wpAnyN_one (i := 7) (o := { dst := none, op := Go.Op.store 3 (Go.Operand.tmp 8) (Go.Operand.tmp 7), type := 0, pos := "hear.go:115", after := #[{ on := 6, ground := Go.Ground.data }, { on := 5, ground := Go.Ground.data }, { on := 0, ground := Go.Ground.phase }, { on := 1, ground := Go.Ground.phase }, { on := 2, ground := Go.Ground.phase }, { on := 3, ground := Go.Ground.phase }, { on := 4, ground := Go.Ground.phase }, { on := 5, ground := Go.Ground.phase }], guard := none }) (by kernel_rfl) rfl (fun K hK => ?_)
  go_simp
  refine hK.out _ _ (fun e => absurd (e.symm.trans (by kernel_rfl) : false = true) Bool.false_ne_true) ?_
  clear hK K
  (try simp only [Act.put, List.setIfInBounds_toArray, List.set_cons_zero, List.set_cons_succ])
  refine wpAnyN_of_H (S' := fun _ => True) _ _ _ _ (by kernel_rfl) ?_
  refine wpAnyH_done (by kernel_rfl) ?_ _
  go_wp2_with fail
  first | refine bodyPost_end (results_none rfl _ _ _) rfl ?_ | refine bodyPost_ret (results_none rfl _ _ _) rfl ?_
  first | exact ⟨rfl, ⟨FIN.out.1.os, FIN.out.1.tape, FIN.out.1.output, FIN.out.1.size, FIN.out.1.block⟩, FIN.out.2⟩ | exact ⟨⟨FIN.out.1.os, FIN.out.1.tape, FIN.out.1.output, FIN.out.1.size, FIN.out.1.block⟩, FIN.out.2⟩
set_option maxRecDepth 10000 in
theorem coded1_9 (P : Nat) (q : Value) (sel : Bool) (v n h : Int) (rows was : Value) (bg : Bool) (a : AN) (g o m c : Nat) (hm : 0 < m) (x : Int) (ha : a.args = .slice (some ⟨g, o, none⟩) m c) (ba bp : Nat) (w : World) (hg : w.cell? ⟨g, o + 1, none⟩ = some (.int .i64 x)) (hA : w.heap[ba]? = some (anO a)) (hB : w.heap[bp]? = some (pjO P 3)) (hM : w.heap[P]? = some (mirO q sel v n h rows was bg)) :
    Calls Tryd.prog 60 #[.pointer (some ⟨ba, 0, none⟩), .pointer (some ⟨bp, 0, none⟩)] w fun e w' => e = .returned (.tuple #[]) ∧ Stays [P] w w' ∧ w'.heap[P]? = some (mirO q sel v x h rows was bg) := by
  have c4 : w.cell? ⟨ba, 4, none⟩ = some (.slice (some ⟨g, o, none⟩) m c) := by rw [(an_cells hA).2.2.2.2.1, ha]
  have d0 : w.cell? ⟨bp, 0, none⟩ = some (.pointer (some ⟨P, 3, none⟩)) := by unfold pjO at hB; exact cell_of hB 0
  have m2 := (mir_cells hM).c3
  have f2 := mir_fz hM 3
  have hmi : (0 : Int) < (m : Int) := by omega
  have fin : Stays [P] w (w.setCell ⟨P, 3, none⟩ (.int .i64 x)) ∧ (w.setCell ⟨P, 3, none⟩ (.int .i64 x)).heap[P]? = some (mirO q sel v x h rows was bg) :=
    ⟨(Stays.refl _ _).setCell (.inl (by simp)) _, by unfold mirO mirC at hM ⊢; rw [heap_setCell_at _ hM]; rfl⟩
  have FIN := Lib.hid fin
  clear hA hB hM fin
  go_enter Tryd.func60, Tryd.ntmps60
  go_wp2_with fail
  refine wp_region_N 7 (fun X => X = w.drew) (by kernel_rfl) ?_
  refine wpAnyN_take (i := 0) (oi := { dst := some 2, op := Go.Op.load 115 (Go.Operand.tmp 1), type := 115, pos := "hear.go:115", after := #[], guard := none }) (oL := { dst := none, op := Go.Op.store 3 (Go.Operand.tmp 8) (Go.Operand.tmp 7), type := 0, pos := "hear.go:115", after := #[{ on := 6, ground := Go.Ground.data }, { on := 5, ground := Go.Ground.data }, { on := 0, ground := Go.Ground.phase }, { on := 1, ground := Go.Ground.phase }, { on := 2, ground := Go.Ground.phase }, { on := 3, ground := Go.Ground.phase }, { on := 4, ground := Go.Ground.phase }, { on := 5, ground := Go.Ground.phase }], guard := none }) (v := .pointer (some ⟨P, 3, none⟩)) rfl rfl (by kernel_rfl) (by kernel_rfl) (by kernel_rfl) (by kernel_rfl) (fun _ _ _ h => h) (Or.inl ⟨by kernel_rfl, ?_⟩) rfl ?_
  · (intro X hX; subst hX <;> (go_simp; try (with_reducible rfl)))
  (try simp only [Act.put, List.setIfInBounds_toArray, List.set_cons_zero, List.set_cons_succ])
  refine wpAnyN_take (i := 1) (oi := { dst := some 3, op := Go.Op.fieldAddr 43 (Go.Operand.tmp 0) 4, type := 0, pos := "hear.go:115", after := #[], guard := none }) (oL := { dst := none, op := Go.Op.store 3 (Go.Operand.tmp 8) (Go.Operand.tmp 7), type := 0, pos := "hear.go:115", after := #[{ on := 6, ground := Go.Ground.data }, { on := 5, ground := Go.Ground.data }, { on := 0, ground := Go.Ground.phase }, { on := 1, ground := Go.Ground.phase }, { on := 2, ground := Go.Ground.phase }, { on := 3, ground := Go.Ground.phase }, { on := 4, ground := Go.Ground.phase }, { on := 5, ground := Go.Ground.phase }], guard := none }) (v := .pointer (some ⟨ba, 4, none⟩)) rfl rfl (by kernel_rfl) (by kernel_rfl) (by kernel_rfl) (by kernel_rfl) (fun _ _ _ h => h) (Or.inl ⟨by kernel_rfl, ?_⟩) rfl ?_
  · (intro X hX; subst hX <;> (go_simp; try (with_reducible rfl)))
  (try simp only [Act.put, List.setIfInBounds_toArray, List.set_cons_zero, List.set_cons_succ])
  refine wpAnyN_take (i := 2) (oi := { dst := some 4, op := Go.Op.load 39 (Go.Operand.tmp 3), type := 39, pos := "hear.go:115", after := #[{ on := 1, ground := Go.Ground.data }], guard := none }) (oL := { dst := none, op := Go.Op.store 3 (Go.Operand.tmp 8) (Go.Operand.tmp 7), type := 0, pos := "hear.go:115", after := #[{ on := 6, ground := Go.Ground.data }, { on := 5, ground := Go.Ground.data }, { on := 0, ground := Go.Ground.phase }, { on := 1, ground := Go.Ground.phase }, { on := 2, ground := Go.Ground.phase }, { on := 3, ground := Go.Ground.phase }, { on := 4, ground := Go.Ground.phase }, { on := 5, ground := Go.Ground.phase }], guard := none }) (v := .slice (some ⟨g, o, none⟩) m c) rfl rfl (by kernel_rfl) (by kernel_rfl) (by kernel_rfl) (by kernel_rfl) (fun _ _ _ h => h) (Or.inl ⟨by kernel_rfl, ?_⟩) rfl ?_
  · (intro X hX; subst hX <;> (go_simp; try (with_reducible rfl)))
  (try simp only [Act.put, List.setIfInBounds_toArray, List.set_cons_zero, List.set_cons_succ])
  refine wpAnyN_take (i := 3) (oi := { dst := some 5, op := Go.Op.indexAddr 39 (Go.Operand.tmp 4) (Go.Operand.const (Go.Value.int Go.IntKind.i64 0)), type := 0, pos := "hear.go:115", after := #[{ on := 2, ground := Go.Ground.data }], guard := none }) (oL := { dst := none, op := Go.Op.store 3 (Go.Operand.tmp 8) (Go.Operand.tmp 7), type := 0, pos := "hear.go:115", after := #[{ on := 6, ground := Go.Ground.data }, { on := 5, ground := Go.Ground.data }, { on := 0, ground := Go.Ground.phase }, { on := 1, ground := Go.Ground.phase }, { on := 2, ground := Go.Ground.phase }, { on := 3, ground := Go.Ground.phase }, { on := 4, ground := Go.Ground.phase }, { on := 5, ground := Go.Ground.phase }], guard := none }) (v := .pointer (some ⟨g, o, none⟩)) rfl rfl (by kernel_rfl) (by kernel_rfl) (by kernel_rfl) (by kernel_rfl) (fun _ _ _ h => h) (Or.inl ⟨by kernel_rfl, ?_⟩) rfl ?_
  · (intro X hX; subst hX <;> (go_simp; try (with_reducible rfl)))
  (try simp only [Act.put, List.setIfInBounds_toArray, List.set_cons_zero, List.set_cons_succ])
  refine wpAnyN_take (i := 4) (oi := { dst := some 6, op := Go.Op.fieldAddr 64 (Go.Operand.tmp 5) 1, type := 0, pos := "hear.go:115", after := #[{ on := 3, ground := Go.Ground.data }], guard := none }) (oL := { dst := none, op := Go.Op.store 3 (Go.Operand.tmp 8) (Go.Operand.tmp 7), type := 0, pos := "hear.go:115", after := #[{ on := 6, ground := Go.Ground.data }, { on := 5, ground := Go.Ground.data }, { on := 0, ground := Go.Ground.phase }, { on := 1, ground := Go.Ground.phase }, { on := 2, ground := Go.Ground.phase }, { on := 3, ground := Go.Ground.phase }, { on := 4, ground := Go.Ground.phase }, { on := 5, ground := Go.Ground.phase }], guard := none }) (v := .pointer (some ⟨g, o + 1, none⟩)) rfl rfl (by kernel_rfl) (by kernel_rfl) (by kernel_rfl) (by kernel_rfl) (fun _ _ _ h => h) (Or.inl ⟨by kernel_rfl, ?_⟩) rfl ?_
  · (intro X hX; subst hX <;> (go_simp; try (with_reducible rfl)))
  (try simp only [Act.put, List.setIfInBounds_toArray, List.set_cons_zero, List.set_cons_succ])
  refine wpAnyN_take (i := 5) (oi := { dst := some 7, op := Go.Op.load 3 (Go.Operand.tmp 6), type := 3, pos := "hear.go:115", after := #[{ on := 4, ground := Go.Ground.data }], guard := none }) (oL := { dst := none, op := Go.Op.store 3 (Go.Operand.tmp 8) (Go.Operand.tmp 7), type := 0, pos := "hear.go:115", after := #[{ on := 6, ground := Go.Ground.data }, { on := 5, ground := Go.Ground.data }, { on := 0, ground := Go.Ground.phase }, { on := 1, ground := Go.Ground.phase }, { on := 2, ground := Go.Ground.phase }, { on := 3, ground := Go.Ground.phase }, { on := 4, ground := Go.Ground.phase }, { on := 5, ground := Go.Ground.phase }], guard := none }) (v := .int .i64 x) rfl rfl (by kernel_rfl) (by kernel_rfl) (by kernel_rfl) (by kernel_rfl) (fun _ _ _ h => h) (Or.inl ⟨by kernel_rfl, ?_⟩) rfl ?_
  · (intro X hX; subst hX <;> (go_simp; try (with_reducible rfl)))
  (try simp only [Act.put, List.setIfInBounds_toArray, List.set_cons_zero, List.set_cons_succ])
  refine wpAnyN_take (i := 6) (oi := { dst := some 8, op := Go.Op.nilCheck (Go.Operand.tmp 2), type := 0, pos := "hear.go:115", after := #[{ on := 0, ground := Go.Ground.data }, { on := 0, ground := Go.Ground.phase }, { on := 1, ground := Go.Ground.phase }, { on := 2, ground := Go.Ground.phase }, { on := 3, ground := Go.Ground.phase }, { on := 4, ground := Go.Ground.phase }, { on := 5, ground := Go.Ground.phase }], guard := none }) (oL := { dst := none, op := Go.Op.store 3 (Go.Operand.tmp 8) (Go.Operand.tmp 7), type := 0, pos := "hear.go:115", after := #[{ on := 6, ground := Go.Ground.data }, { on := 5, ground := Go.Ground.data }, { on := 0, ground := Go.Ground.phase }, { on := 1, ground := Go.Ground.phase }, { on := 2, ground := Go.Ground.phase }, { on := 3, ground := Go.Ground.phase }, { on := 4, ground := Go.Ground.phase }, { on := 5, ground := Go.Ground.phase }], guard := none }) (v := .pointer (some ⟨P, 3, none⟩)) rfl rfl (by kernel_rfl) (by kernel_rfl) (by kernel_rfl) (by kernel_rfl) (fun _ _ _ h => h) (Or.inl ⟨by kernel_rfl, ?_⟩) rfl ?_
  · (intro X hX; subst hX <;> (go_simp; try (with_reducible rfl)))
  (try simp only [Act.put, List.setIfInBounds_toArray, List.set_cons_zero, List.set_cons_succ])
  refine wpAnyN_one (i := 7) (o := { dst := none, op := Go.Op.store 3 (Go.Operand.tmp 8) (Go.Operand.tmp 7), type := 0, pos := "hear.go:115", after := #[{ on := 6, ground := Go.Ground.data }, { on := 5, ground := Go.Ground.data }, { on := 0, ground := Go.Ground.phase }, { on := 1, ground := Go.Ground.phase }, { on := 2, ground := Go.Ground.phase }, { on := 3, ground := Go.Ground.phase }, { on := 4, ground := Go.Ground.phase }, { on := 5, ground := Go.Ground.phase }], guard := none }) (by kernel_rfl) rfl (fun K hK => ?_)
  go_simp
  refine hK.out _ _ (fun e => absurd (e.symm.trans (by kernel_rfl) : false = true) Bool.false_ne_true) ?_
  clear hK K
  (try simp only [Act.put, List.setIfInBounds_toArray, List.set_cons_zero, List.set_cons_succ])
  refine wpAnyN_of_H (S' := fun _ => True) _ _ _ _ (by kernel_rfl) ?_
  refine wpAnyH_done (by kernel_rfl) ?_ _
  go_wp2_with fail
  first | refine bodyPost_end (results_none rfl _ _ _) rfl ?_ | refine bodyPost_ret (results_none rfl _ _ _) rfl ?_
  first | exact ⟨rfl, ⟨FIN.out.1.os, FIN.out.1.tape, FIN.out.1.output, FIN.out.1.size, FIN.out.1.block⟩, FIN.out.2⟩ | exact ⟨⟨FIN.out.1.os, FIN.out.1.tape, FIN.out.1.output, FIN.out.1.size, FIN.out.1.block⟩, FIN.out.2⟩
set_option maxRecDepth 10000 in
theorem coded1_13 (P : Nat) (q : Value) (sel : Bool) (v n h : Int) (rows was : Value) (bg : Bool) (a : AN) (g o m c : Nat) (hm : 0 < m) (x : Int) (ha : a.args = .slice (some ⟨g, o, none⟩) m c) (ba bp : Nat) (w : World) (hg : w.cell? ⟨g, o + 1, none⟩ = some (.int .i64 x)) (hA : w.heap[ba]? = some (anO a)) (hB : w.heap[bp]? = some (pjO P 4)) (hM : w.heap[P]? = some (mirO q sel v n h rows was bg)) :
    Calls Tryd.prog 60 #[.pointer (some ⟨ba, 0, none⟩), .pointer (some ⟨bp, 0, none⟩)] w fun e w' => e = .returned (.tuple #[]) ∧ Stays [P] w w' ∧ w'.heap[P]? = some (mirO q sel v n x rows was bg) := by
  have c4 : w.cell? ⟨ba, 4, none⟩ = some (.slice (some ⟨g, o, none⟩) m c) := by rw [(an_cells hA).2.2.2.2.1, ha]
  have d0 : w.cell? ⟨bp, 0, none⟩ = some (.pointer (some ⟨P, 4, none⟩)) := by unfold pjO at hB; exact cell_of hB 0
  have m2 := (mir_cells hM).c4
  have f2 := mir_fz hM 4
  have hmi : (0 : Int) < (m : Int) := by omega
  have fin : Stays [P] w (w.setCell ⟨P, 4, none⟩ (.int .i64 x)) ∧ (w.setCell ⟨P, 4, none⟩ (.int .i64 x)).heap[P]? = some (mirO q sel v n x rows was bg) :=
    ⟨(Stays.refl _ _).setCell (.inl (by simp)) _, by unfold mirO mirC at hM ⊢; rw [heap_setCell_at _ hM]; rfl⟩
  have FIN := Lib.hid fin
  clear hA hB hM fin
  go_enter Tryd.func60, Tryd.ntmps60
  go_wp2_with fail
  refine wp_region_N 7 (fun X => X = w.drew) (by kernel_rfl) ?_
  refine wpAnyN_take (i := 0) (oi := { dst := some 2, op := Go.Op.load 115 (Go.Operand.tmp 1), type := 115, pos := "hear.go:115", after := #[], guard := none }) (oL := { dst := none, op := Go.Op.store 3 (Go.Operand.tmp 8) (Go.Operand.tmp 7), type := 0, pos := "hear.go:115", after := #[{ on := 6, ground := Go.Ground.data }, { on := 5, ground := Go.Ground.data }, { on := 0, ground := Go.Ground.phase }, { on := 1, ground := Go.Ground.phase }, { on := 2, ground := Go.Ground.phase }, { on := 3, ground := Go.Ground.phase }, { on := 4, ground := Go.Ground.phase }, { on := 5, ground := Go.Ground.phase }], guard := none }) (v := .pointer (some ⟨P, 4, none⟩)) rfl rfl (by kernel_rfl) (by kernel_rfl) (by kernel_rfl) (by kernel_rfl) (fun _ _ _ h => h) (Or.inl ⟨by kernel_rfl, ?_⟩) rfl ?_
  · (intro X hX; subst hX <;> (go_simp; try (with_reducible rfl)))
  (try simp only [Act.put, List.setIfInBounds_toArray, List.set_cons_zero, List.set_cons_succ])
  refine wpAnyN_take (i := 1) (oi := { dst := some 3, op := Go.Op.fieldAddr 43 (Go.Operand.tmp 0) 4, type := 0, pos := "hear.go:115", after := #[], guard := none }) (oL := { dst := none, op := Go.Op.store 3 (Go.Operand.tmp 8) (Go.Operand.tmp 7), type := 0, pos := "hear.go:115", after := #[{ on := 6, ground := Go.Ground.data }, { on := 5, ground := Go.Ground.data }, { on := 0, ground := Go.Ground.phase }, { on := 1, ground := Go.Ground.phase }, { on := 2, ground := Go.Ground.phase }, { on := 3, ground := Go.Ground.phase }, { on := 4, ground := Go.Ground.phase }, { on := 5, ground := Go.Ground.phase }], guard := none }) (v := .pointer (some ⟨ba, 4, none⟩)) rfl rfl (by kernel_rfl) (by kernel_rfl) (by kernel_rfl) (by kernel_rfl) (fun _ _ _ h => h) (Or.inl ⟨by kernel_rfl, ?_⟩) rfl ?_
  · (intro X hX; subst hX <;> (go_simp; try (with_reducible rfl)))
  (try simp only [Act.put, List.setIfInBounds_toArray, List.set_cons_zero, List.set_cons_succ])
  refine wpAnyN_take (i := 2) (oi := { dst := some 4, op := Go.Op.load 39 (Go.Operand.tmp 3), type := 39, pos := "hear.go:115", after := #[{ on := 1, ground := Go.Ground.data }], guard := none }) (oL := { dst := none, op := Go.Op.store 3 (Go.Operand.tmp 8) (Go.Operand.tmp 7), type := 0, pos := "hear.go:115", after := #[{ on := 6, ground := Go.Ground.data }, { on := 5, ground := Go.Ground.data }, { on := 0, ground := Go.Ground.phase }, { on := 1, ground := Go.Ground.phase }, { on := 2, ground := Go.Ground.phase }, { on := 3, ground := Go.Ground.phase }, { on := 4, ground := Go.Ground.phase }, { on := 5, ground := Go.Ground.phase }], guard := none }) (v := .slice (some ⟨g, o, none⟩) m c) rfl rfl (by kernel_rfl) (by kernel_rfl) (by kernel_rfl) (by kernel_rfl) (fun _ _ _ h => h) (Or.inl ⟨by kernel_rfl, ?_⟩) rfl ?_
  · (intro X hX; subst hX <;> (go_simp; try (with_reducible rfl)))
  (try simp only [Act.put, List.setIfInBounds_toArray, List.set_cons_zero, List.set_cons_succ])
  refine wpAnyN_take (i := 3) (oi := { dst := some 5, op := Go.Op.indexAddr 39 (Go.Operand.tmp 4) (Go.Operand.const (Go.Value.int Go.IntKind.i64 0)), type := 0, pos := "hear.go:115", after := #[{ on := 2, ground := Go.Ground.data }], guard := none }) (oL := { dst := none, op := Go.Op.store 3 (Go.Operand.tmp 8) (Go.Operand.tmp 7), type := 0, pos := "hear.go:115", after := #[{ on := 6, ground := Go.Ground.data }, { on := 5, ground := Go.Ground.data }, { on := 0, ground := Go.Ground.phase }, { on := 1, ground := Go.Ground.phase }, { on := 2, ground := Go.Ground.phase }, { on := 3, ground := Go.Ground.phase }, { on := 4, ground := Go.Ground.phase }, { on := 5, ground := Go.Ground.phase }], guard := none }) (v := .pointer (some ⟨g, o, none⟩)) rfl rfl (by kernel_rfl) (by kernel_rfl) (by kernel_rfl) (by kernel_rfl) (fun _ _ _ h => h) (Or.inl ⟨by kernel_rfl, ?_⟩) rfl ?_
  · (intro X hX; subst hX <;> (go_simp; try (with_reducible rfl)))
  (try simp only [Act.put, List.setIfInBounds_toArray, List.set_cons_zero, List.set_cons_succ])
  refine wpAnyN_take (i := 4) (oi := { dst := some 6, op := Go.Op.fieldAddr 64 (Go.Operand.tmp 5) 1, type := 0, pos := "hear.go:115", after := #[{ on := 3, ground := Go.Ground.data }], guard := none }) (oL := { dst := none, op := Go.Op.store 3 (Go.Operand.tmp 8) (Go.Operand.tmp 7), type := 0, pos := "hear.go:115", after := #[{ on := 6, ground := Go.Ground.data }, { on := 5, ground := Go.Ground.data }, { on := 0, ground := Go.Ground.phase }, { on := 1, ground := Go.Ground.phase }, { on := 2, ground := Go.Ground.phase }, { on := 3, ground := Go.Ground.phase }, { on := 4, ground := Go.Ground.phase }, { on := 5, ground := Go.Ground.phase }], guard := none }) (v := .pointer (some ⟨g, o + 1, none⟩)) rfl rfl (by kernel_rfl) (by kernel_rfl) (by kernel_rfl) (by kernel_rfl) (fun _ _ _ h => h) (Or.inl ⟨by kernel_rfl, ?_⟩) rfl ?_
  · (intro X hX; subst hX <;> (go_simp; try (with_reducible rfl)))
  (try simp only [Act.put, List.setIfInBounds_toArray, List.set_cons_zero, List.set_cons_succ])
  refine wpAnyN_take (i := 5) (oi := { dst := some 7, op := Go.Op.load 3 (Go.Operand.tmp 6), type := 3, pos := "hear.go:115", after := #[{ on := 4, ground := Go.Ground.data }], guard := none }) (oL := { dst := none, op := Go.Op.store 3 (Go.Operand.tmp 8) (Go.Operand.tmp 7), type := 0, pos := "hear.go:115", after := #[{ on := 6, ground := Go.Ground.data }, { on := 5, ground := Go.Ground.data }, { on := 0, ground := Go.Ground.phase }, { on := 1, ground := Go.Ground.phase }, { on := 2, ground := Go.Ground.phase }, { on := 3, ground := Go.Ground.phase }, { on := 4, ground := Go.Ground.phase }, { on := 5, ground := Go.Ground.phase }], guard := none }) (v := .int .i64 x) rfl rfl (by kernel_rfl) (by kernel_rfl) (by kernel_rfl) (by kernel_rfl) (fun _ _ _ h => h) (Or.inl ⟨by kernel_rfl, ?_⟩) rfl ?_
  · (intro X hX; subst hX <;> (go_simp; try (with_reducible rfl)))
  (try simp only [Act.put, List.setIfInBounds_toArray, List.set_cons_zero, List.set_cons_succ])
  refine wpAnyN_take (i := 6) (oi := { dst := some 8, op := Go.Op.nilCheck (Go.Operand.tmp 2), type := 0, pos := "hear.go:115", after := #[{ on := 0, ground := Go.Ground.data }, { on := 0, ground := Go.Ground.phase }, { on := 1, ground := Go.Ground.phase }, { on := 2, ground := Go.Ground.phase }, { on := 3, ground := Go.Ground.phase }, { on := 4, ground := Go.Ground.phase }, { on := 5, ground := Go.Ground.phase }], guard := none }) (oL := { dst := none, op := Go.Op.store 3 (Go.Operand.tmp 8) (Go.Operand.tmp 7), type := 0, pos := "hear.go:115", after := #[{ on := 6, ground := Go.Ground.data }, { on := 5, ground := Go.Ground.data }, { on := 0, ground := Go.Ground.phase }, { on := 1, ground := Go.Ground.phase }, { on := 2, ground := Go.Ground.phase }, { on := 3, ground := Go.Ground.phase }, { on := 4, ground := Go.Ground.phase }, { on := 5, ground := Go.Ground.phase }], guard := none }) (v := .pointer (some ⟨P, 4, none⟩)) rfl rfl (by kernel_rfl) (by kernel_rfl) (by kernel_rfl) (by kernel_rfl) (fun _ _ _ h => h) (Or.inl ⟨by kernel_rfl, ?_⟩) rfl ?_
  · (intro X hX; subst hX <;> (go_simp; try (with_reducible rfl)))
  (try simp only [Act.put, List.setIfInBounds_toArray, List.set_cons_zero, List.set_cons_succ])
  refine wpAnyN_one (i := 7) (o := { dst := none, op := Go.Op.store 3 (Go.Operand.tmp 8) (Go.Operand.tmp 7), type := 0, pos := "hear.go:115", after := #[{ on := 6, ground := Go.Ground.data }, { on := 5, ground := Go.Ground.data }, { on := 0, ground := Go.Ground.phase }, { on := 1, ground := Go.Ground.phase }, { on := 2, ground := Go.Ground.phase }, { on := 3, ground := Go.Ground.phase }, { on := 4, ground := Go.Ground.phase }, { on := 5, ground := Go.Ground.phase }], guard := none }) (by kernel_rfl) rfl (fun K hK => ?_)
  go_simp
  refine hK.out _ _ (fun e => absurd (e.symm.trans (by kernel_rfl) : false = true) Bool.false_ne_true) ?_
  clear hK K
  (try simp only [Act.put, List.setIfInBounds_toArray, List.set_cons_zero, List.set_cons_succ])
  refine wpAnyN_of_H (S' := fun _ => True) _ _ _ _ (by kernel_rfl) ?_
  refine wpAnyH_done (by kernel_rfl) ?_ _
  go_wp2_with fail
  first | refine bodyPost_end (results_none rfl _ _ _) rfl ?_ | refine bodyPost_ret (results_none rfl _ _ _) rfl ?_
  first | exact ⟨rfl, ⟨FIN.out.1.os, FIN.out.1.tape, FIN.out.1.output, FIN.out.1.size, FIN.out.1.block⟩, FIN.out.2⟩ | exact ⟨⟨FIN.out.1.os, FIN.out.1.tape, FIN.out.1.output, FIN.out.1.size, FIN.out.1.block⟩, FIN.out.2⟩
set_option maxRecDepth 10000 in
set_option maxHeartbeats 2000000 in
theorem coded_other (P : Nat) (fr : List Nat) (M : PM) (a : AN) (w : World) (h10 : a.code ≠ 10) (h9 : a.code ≠ 9) (h13 : a.code ≠ 13) :
    Calls Tryd.prog 40 #[.pointer (some ⟨P, 0, none⟩), .agg (anC a)] w (ChgOut P fr M (some id) w) := by
  have q1 : Below w.heap.size w (w.alloc (anO a)) := (Below.refl _ _).alloc (Nat.le_refl _) _
  obtain ⟨Y, hY⟩ : ∃ Y, w.alloc (anO a) = Y := ⟨_, rfl⟩
  have r0 : Y.heap[w.heap.size]? = some (anO a) := by rw [← hY]; exact heap_new _ _
  have hz : Y.heap.size = w.heap.size + 1 := by rw [← hY]; simp
  rw [hY] at q1
  obtain ⟨Y2, hY2⟩ : ∃ Y2, Y.alloc (.cells #[.pointer none] 115) = Y2 := ⟨_, rfl⟩
  have b2 : Below Y.heap.size Y Y2 := by rw [← hY2]; exact (Below.refl _ _).alloc (Nat.le_refl _) _
  have n2 : Y2.heap[Y.heap.size]? = some (.cells #[.pointer none] 115 (0, 0)) := by rw [← hY2]; exact heap_new _ _
  have rA : Y2.heap[w.heap.size]? = some (anO a) := bel_at b2 (by omega) r0
  have c3 : Y2.cell? ⟨w.heap.size, 3, none⟩ = some (.int .i64 a.code) := by rw [(an_cells rA).2.2.2.1]
  have p0 : Y2.cell? ⟨Y.heap.size, 0, none⟩ = some (.pointer none) := cell_of n2 0
  have pf : Y2.frozen? ⟨Y.heap.size, 0, none⟩ = false := frozen_of n2 0
  have e10 : (a.code == 10) = false := by simp [h10]
  have e9 : (a.code == 9) = false := by simp [h9]
  have e13 : (a.code == 13) = false := by simp [h13]
  have HNo : Hid (∀ X, Calls Tryd.prog 31 #[.pointer (some ⟨P, 0, none⟩), .agg (anC a)] X (ChgOut P fr M (some id) X)) := Lib.hid (fun X => nothing_any P fr M a X)
  have HRG : Hid (Y2.rangeAt w.heap.size 0 (anC a).toList) := Lib.hid (an_range rA)
  have B2 : Hid (Below w.heap.size w Y2) := Lib.hid (q1.trans (b2.mono q1.size))
  have HY := Lib.hid hY
  have HY2 := Lib.hid hY2
  clear q1 r0 hz b2 n2 rA hY hY2 h10 h9 h13
  unfold anO at HY
  go_enter Tryd.func40, Tryd.ntmps40
  go_upto_region 1 with fail
  rw [HY.out]
  go_upto_region 3 with fail
  rw [HY2.out]
  clear HY HY2
  go_wp2_with (first | (refine wpList_load_mid rfl 43 _ rfl w.heap.size 0 rfl _ _ HRG.out Tryd.underlying43 rfl Tryd.sizeAn ?_) | (go_at_call 31; refine (HNo.out _).mono ?_; rintro e w6 hr0; obtain ⟨v, rfl⟩ := chg_val hr0; have HR := Lib.hid hr0; clear hr0))
  go_ret
  exact HR.out.low B2.out
set_option maxRecDepth 10000 in
set_option maxHeartbeats 2000000 in
theorem coded_none_10 (P : Nat) (fr : List Nat) (M : PM) (a : AN) (w : World) (hcode : a.code = 10) (ga : Option Addr) (gc : Nat) (hargs : a.args = .slice ga 0 gc) :
    Calls Tryd.prog 40 #[.pointer (some ⟨P, 0, none⟩), .agg (anC a)] w (ChgOut P fr M none w) := by
  have q1 : Below w.heap.size w (w.alloc (anO a)) := (Below.refl _ _).alloc (Nat.le_refl _) _
  obtain ⟨Y, hY⟩ : ∃ Y, w.alloc (anO a) = Y := ⟨_, rfl⟩
  have r0 : Y.heap[w.heap.size]? = some (anO a) := by rw [← hY]; exact heap_new _ _
  have hz : Y.heap.size = w.heap.size + 1 := by rw [← hY]; simp
  rw [hY] at q1
  obtain ⟨Y2, hY2⟩ : ∃ Y2, Y.alloc (.cells #[.pointer none] 115) = Y2 := ⟨_, rfl⟩
  have b2 : Below Y.heap.size Y Y2 := by rw [← hY2]; exact (Below.refl _ _).alloc (Nat.le_refl _) _
  have n2 : Y2.heap[Y.heap.size]? = some (.cells #[.pointer none] 115 (0, 0)) := by rw [← hY2]; exact heap_new _ _
  have rA : Y2.heap[w.heap.size]? = some (anO a) := bel_at b2 (by omega) r0
  have c3 : Y2.cell? ⟨w.heap.size, 3, none⟩ = some (.int .i64 10) := by rw [(an_cells rA).2.2.2.1, hcode]
  have p0 : Y2.cell? ⟨Y.heap.size, 0, none⟩ = some (.pointer none) := cell_of n2 0
  have pf : Y2.frozen? ⟨Y.heap.size, 0, none⟩ = false := frozen_of n2 0
  obtain ⟨Y3, hY3⟩ : ∃ Y3, Y2.setCell ⟨Y.heap.size, 0, none⟩ (.pointer (some ⟨P, 2, none⟩)) = Y3 := ⟨_, rfl⟩
  have b3 : Below w.heap.size w Y3 := by
    have b23 : Below w.heap.size Y2 Y3 := by
      rw [← hY3]
      exact ⟨rfl, rfl, rfl, by simp [World.setCell], fun b hb => Below.heap_setCell _ _ _ _ (by show b ≠ Y.heap.size; omega)⟩
    exact (q1.trans (b2.mono q1.size)).trans b23
  have z3 : Y3.heap.size = w.heap.size + 1 + 1 := by rw [← hY3, ← hY2]; simp [World.setCell, hz]
  have rA3 : Y3.heap[w.heap.size]? = some (anO a) := by rw [← hY3, Below.heap_setCell _ _ _ _ (by show w.heap.size ≠ Y.heap.size; omega)]; exact rA
  have rp3 : Y3.heap[Y.heap.size]? = some (pjO P 2) := by
    rw [← hY3, heap_setCell_at _ n2]
    rfl
  have c4 : Y3.cell? ⟨w.heap.size, 4, none⟩ = some (.slice ga 0 gc) := by rw [(an_cells rA3).2.2.2.2.1, hargs]
  have B3 := Lib.hid b3
  have HY := Lib.hid hY
  have HY2 := Lib.hid hY2
  have HY3 := Lib.hid hY3
  clear q1 r0 hz b2 n2 rA b3 rA3 rp3 z3 hY hY2 hY3 hcode hargs
  unfold anO at HY
  go_enter Tryd.func40, Tryd.ntmps40
  go_upto_region 1 with fail
  rw [HY.out]
  go_upto_region 3 with fail
  rw [HY2.out]
  go_upto_region 11 with fail
  (try rw [HY3.out])
  clear HY HY2 HY3 c3 p0 pf
  go_wp2_with fail
  go_ret
  exact ⟨B3.out, rfl⟩
set_option maxRecDepth 10000 in
set_option maxHeartbeats 2000000 in
theorem coded_bad_10 (P : Nat) (fr : List Nat) (M : PM) (a : AN) (w : World) (hcode : a.code = 10) (ak ax : Int) (hA : ArgA fr w a.args ak ax) (hnm : isNm ak ax 0 = false) :
    Calls Tryd.prog 40 #[.pointer (some ⟨P, 0, none⟩), .agg (anC a)] w (ChgOut P fr M none w) := by
  have q1 : Below w.heap.size w (w.alloc (anO a)) := (Below.refl _ _).alloc (Nat.le_refl _) _
  obtain ⟨Y, hY⟩ : ∃ Y, w.alloc (anO a) = Y := ⟨_, rfl⟩
  have r0 : Y.heap[w.heap.size]? = some (anO a) := by rw [← hY]; exact heap_new _ _
  have hz : Y.heap.size = w.heap.size + 1 := by rw [← hY]; simp
  rw [hY] at q1
  obtain ⟨Y2, hY2⟩ : ∃ Y2, Y.alloc (.cells #[.pointer none] 115) = Y2 := ⟨_, rfl⟩
  have b2 : Below Y.heap.size Y Y2 := by rw [← hY2]; exact (Below.refl _ _).alloc (Nat.le_refl _) _
  have n2 : Y2.heap[Y.heap.size]? = some (.cells #[.pointer none] 115 (0, 0)) := by rw [← hY2]; exact heap_new _ _
  have rA : Y2.heap[w.heap.size]? = some (anO a) := bel_at b2 (by omega) r0
  have c3 : Y2.cell? ⟨w.heap.size, 3, none⟩ = some (.int .i64 10) := by rw [(an_cells rA).2.2.2.1, hcode]
  have p0 : Y2.cell? ⟨Y.heap.size, 0, none⟩ = some (.pointer none) := cell_of n2 0
  have pf : Y2.frozen? ⟨Y.heap.size, 0, none⟩ = false := frozen_of n2 0
  obtain ⟨Y3, hY3⟩ : ∃ Y3, Y2.setCell ⟨Y.heap.size, 0, none⟩ (.pointer (some ⟨P, 2, none⟩)) = Y3 := ⟨_, rfl⟩
  have b3 : Below w.heap.size w Y3 := by
    have b23 : Below w.heap.size Y2 Y3 := by
      rw [← hY3]
      exact ⟨rfl, rfl, rfl, by simp [World.setCell], fun b hb => Below.heap_setCell _ _ _ _ (by show b ≠ Y.heap.size; omega)⟩
    exact (q1.trans (b2.mono q1.size)).trans b23
  have z3 : Y3.heap.size = w.heap.size + 1 + 1 := by rw [← hY3, ← hY2]; simp [World.setCell, hz]
  have rA3 : Y3.heap[w.heap.size]? = some (anO a) := by rw [← hY3, Below.heap_setCell _ _ _ _ (by show w.heap.size ≠ Y.heap.size; omega)]; exact rA
  have rp3 : Y3.heap[Y.heap.size]? = some (pjO P 2) := by
    rw [← hY3, heap_setCell_at _ n2]
    rfl
  obtain ⟨g, o, m, c, at_, va, vn, vc, hargs, hm, hg, hgf, g0, g1, g2, g3⟩ := hA
  have c4 : Y3.cell? ⟨w.heap.size, 4, none⟩ = some (.slice (some ⟨g, o, none⟩) m c) := by rw [(an_cells rA3).2.2.2.2.1, hargs]
  have e0 : Y3.cell? ⟨g, o, none⟩ = some (.int .i64 ak) := by rw [b3.cell (p := ⟨g, o, none⟩) hg]; exact g0
  have e1 : Y3.cell? ⟨g, o + 1, none⟩ = some (.int .i64 ax) := by rw [b3.cell (p := ⟨g, o + 1, none⟩) hg]; exact g1
  have e2 : Y3.cell? ⟨g, o + 2, none⟩ = some (.string at_) := by rw [b3.cell (p := ⟨g, o + 2, none⟩) hg]; exact g2
  have e3 : Y3.cell? ⟨g, o + 3, none⟩ = some (.slice va vn vc) := by rw [b3.cell (p := ⟨g, o + 3, none⟩) hg]; exact g3
  have hmz : ((m : Int) == 0) = false := by simp; omega
  have hmi : (0 : Int) < (m : Int) := by omega
  have HN : Hid (∀ X, Calls Tryd.prog 59 #[.agg #[.int .i64 ak, .int .i64 ax, .string at_, .slice va vn vc], .int .i64 0] X fun e w' => e = .returned (.bool false) ∧ Below X.heap.size X w') := Lib.hid (fun X => by rw [← hnm]; exact isNumber_any ak ax 0 at_ va vn vc X)
  have B3 := Lib.hid b3
  have HY := Lib.hid hY
  have HY2 := Lib.hid hY2
  have HY3 := Lib.hid hY3
  clear q1 r0 hz b2 n2 rA b3 rA3 rp3 z3 hY hY2 hY3 hcode hargs hm hg hgf g0 g1 g2 g3 hnm
  unfold anO at HY
  go_enter Tryd.func40, Tryd.ntmps40
  go_upto_region 1 with fail
  rw [HY.out]
  go_upto_region 3 with fail
  rw [HY2.out]
  go_upto_region 11 with fail
  (try rw [HY3.out])
  clear HY HY2 HY3 c3 p0 pf
  go_wp2_with (first | (go_at_call 59; refine (HN.out _).mono ?_; rintro e w4 ⟨rfl, hb4⟩; have HB4 := Lib.hid hb4; clear hb4))
  go_ret
  exact ⟨B3.out.trans (HB4.out.mono B3.out.size), rfl⟩
set_option maxRecDepth 10000 in
set_option maxHeartbeats 2000000 in
theorem coded_shut_10 (P : Nat) (fr : List Nat) (M : PM) (a : AN) (w : World) (h : MAt P fr M w) (hcode : a.code = 10) (ak ax : Int) (hA : ArgA fr w a.args ak ax) (hnm : isNm ak ax 0 = true) (hq : M.q.length ≤ 1000000) (hop : opnM M = false) :
    Calls Tryd.prog 40 #[.pointer (some ⟨P, 0, none⟩), .agg (anC a)] w (ChgOut P fr M (some id) w) := by
  have q1 : Below w.heap.size w (w.alloc (anO a)) := (Below.refl _ _).alloc (Nat.le_refl _) _
  obtain ⟨Y, hY⟩ : ∃ Y, w.alloc (anO a) = Y := ⟨_, rfl⟩
  have r0 : Y.heap[w.heap.size]? = some (anO a) := by rw [← hY]; exact heap_new _ _
  have hz : Y.heap.size = w.heap.size + 1 := by rw [← hY]; simp
  rw [hY] at q1
  obtain ⟨Y2, hY2⟩ : ∃ Y2, Y.alloc (.cells #[.pointer none] 115) = Y2 := ⟨_, rfl⟩
  have b2 : Below Y.heap.size Y Y2 := by rw [← hY2]; exact (Below.refl _ _).alloc (Nat.le_refl _) _
  have n2 : Y2.heap[Y.heap.size]? = some (.cells #[.pointer none] 115 (0, 0)) := by rw [← hY2]; exact heap_new _ _
  have rA : Y2.heap[w.heap.size]? = some (anO a) := bel_at b2 (by omega) r0
  have c3 : Y2.cell? ⟨w.heap.size, 3, none⟩ = some (.int .i64 10) := by rw [(an_cells rA).2.2.2.1, hcode]
  have p0 : Y2.cell? ⟨Y.heap.size, 0, none⟩ = some (.pointer none) := cell_of n2 0
  have pf : Y2.frozen? ⟨Y.heap.size, 0, none⟩ = false := frozen_of n2 0
  obtain ⟨Y3, hY3⟩ : ∃ Y3, Y2.setCell ⟨Y.heap.size, 0, none⟩ (.pointer (some ⟨P, 2, none⟩)) = Y3 := ⟨_, rfl⟩
  have b3 : Below w.heap.size w Y3 := by
    have b23 : Below w.heap.size Y2 Y3 := by
      rw [← hY3]
      exact ⟨rfl, rfl, rfl, by simp [World.setCell], fun b hb => Below.heap_setCell _ _ _ _ (by show b ≠ Y.heap.size; omega)⟩
    exact (q1.trans (b2.mono q1.size)).trans b23
  have z3 : Y3.heap.size = w.heap.size + 1 + 1 := by rw [← hY3, ← hY2]; simp [World.setCell, hz]
  have rA3 : Y3.heap[w.heap.size]? = some (anO a) := by rw [← hY3, Below.heap_setCell _ _ _ _ (by show w.heap.size ≠ Y.heap.size; omega)]; exact rA
  have rp3 : Y3.heap[Y.heap.size]? = some (pjO P 2) := by
    rw [← hY3, heap_setCell_at _ n2]
    rfl
  obtain ⟨g, o, m, c, at_, va, vn, vc, hargs, hm, hg, hgf, g0, g1, g2, g3⟩ := hA
  have c4 : Y3.cell? ⟨w.heap.size, 4, none⟩ = some (.slice (some ⟨g, o, none⟩) m c) := by rw [(an_cells rA3).2.2.2.2.1, hargs]
  have e0 : Y3.cell? ⟨g, o, none⟩ = some (.int .i64 ak) := by rw [b3.cell (p := ⟨g, o, none⟩) hg]; exact g0
  have e1 : Y3.cell? ⟨g, o + 1, none⟩ = some (.int .i64 ax) := by rw [b3.cell (p := ⟨g, o + 1, none⟩) hg]; exact g1
  have e2 : Y3.cell? ⟨g, o + 2, none⟩ = some (.string at_) := by rw [b3.cell (p := ⟨g, o + 2, none⟩) hg]; exact g2
  have e3 : Y3.cell? ⟨g, o + 3, none⟩ = some (.slice va vn vc) := by rw [b3.cell (p := ⟨g, o + 3, none⟩) hg]; exact g3
  have hmz : ((m : Int) == 0) = false := by simp; omega
  have hmi : (0 : Int) < (m : Int) := by omega
  have HN : Hid (∀ X, Calls Tryd.prog 59 #[.agg #[.int .i64 ak, .int .i64 ax, .string at_, .slice va vn vc], .int .i64 0] X fun e w' => e = .returned (.bool true) ∧ Below X.heap.size X w') := Lib.hid (fun X => by rw [← hnm]; exact isNumber_any ak ax 0 at_ va vn vc X)
  have HI : Hid (∀ X, Below w.heap.size w X → Calls Tryd.prog 28 #[.pointer (some ⟨P, 0, none⟩)] X fun e w' => e = .returned (.bool false) ∧ Below X.heap.size X w') := Lib.hid (fun X hX => by rw [← hop]; exact isOpening_M (h.bel hX) hq)
  have HNo : Hid (∀ X, Calls Tryd.prog 31 #[.pointer (some ⟨P, 0, none⟩), .agg (anC a)] X (ChgOut P fr M (some id) X)) := Lib.hid (fun X => nothing_any P fr M a X)
  have HRG : Hid (∀ X, Below Y3.heap.size Y3 X → X.rangeAt w.heap.size 0 (anC a).toList) := Lib.hid (fun X hX => an_range (bel_at hX (by rw [z3]; omega) rA3))
  have B3 := Lib.hid b3
  have HY := Lib.hid hY
  have HY2 := Lib.hid hY2
  have HY3 := Lib.hid hY3
  clear q1 r0 hz b2 n2 rA b3 rA3 rp3 z3 hY hY2 hY3 hcode h hargs hm hg hgf g0 g1 g2 g3 hnm hop hq
  unfold anO at HY
  go_enter Tryd.func40, Tryd.ntmps40
  go_upto_region 1 with fail
  rw [HY.out]
  go_upto_region 3 with fail
  rw [HY2.out]
  go_upto_region 11 with fail
  (try rw [HY3.out])
  clear HY HY2 HY3 c3 p0 pf
  go_wp2_with (first | (go_at_call 59; refine (HN.out _).mono ?_; rintro e w4 ⟨rfl, hb4⟩; have HB4 := Lib.hid hb4; clear hb4) | (go_at_call 28; refine (HI.out _ (B3.out.trans (HB4.out.mono B3.out.size))).mono ?_; rintro e w5 ⟨rfl, hb5⟩; have HB5 := Lib.hid hb5; clear hb5) | (refine wpList_load_mid rfl 43 _ rfl w.heap.size 0 rfl _ _ (HRG.out _ (HB4.out.trans (HB5.out.mono HB4.out.size))) Tryd.underlying43 rfl Tryd.sizeAn ?_) | (go_at_call 31; refine (HNo.out _).mono ?_; rintro e w6 hr0; obtain ⟨v, rfl⟩ := chg_val hr0; have HR := Lib.hid hr0; clear hr0))
  go_ret
  exact HR.out.low (B3.out.trans ((HB4.out.trans (HB5.out.mono HB4.out.size)).mono B3.out.size))
set_option maxRecDepth 10000 in
set_option maxHeartbeats 2000000 in
theorem coded_go_10 (P : Nat) (fr : List Nat) (M : PM) (a : AN) (w : World) (h : MAt P fr M w) (hcode : a.code = 10) (ak ax : Int) (hA : ArgA fr w a.args ak ax) (hnm : isNm ak ax 0 = true) (hq : M.q.length ≤ 1000000) (hop : opnM M = true) :
    Calls Tryd.prog 40 #[.pointer (some ⟨P, 0, none⟩), .agg (anC a)] w (ChgOut P fr M (some (fun N => { N with v := ax })) w) := by
  have q1 : Below w.heap.size w (w.alloc (anO a)) := (Below.refl _ _).alloc (Nat.le_refl _) _
  obtain ⟨Y, hY⟩ : ∃ Y, w.alloc (anO a) = Y := ⟨_, rfl⟩
  have r0 : Y.heap[w.heap.size]? = some (anO a) := by rw [← hY]; exact heap_new _ _
  have hz : Y.heap.size = w.heap.size + 1 := by rw [← hY]; simp
  rw [hY] at q1
  obtain ⟨Y2, hY2⟩ : ∃ Y2, Y.alloc (.cells #[.pointer none] 115) = Y2 := ⟨_, rfl⟩
  have b2 : Below Y.heap.size Y Y2 := by rw [← hY2]; exact (Below.refl _ _).alloc (Nat.le_refl _) _
  have n2 : Y2.heap[Y.heap.size]? = some (.cells #[.pointer none] 115 (0, 0)) := by rw [← hY2]; exact heap_new _ _
  have rA : Y2.heap[w.heap.size]? = some (anO a) := bel_at b2 (by omega) r0
  have c3 : Y2.cell? ⟨w.heap.size, 3, none⟩ = some (.int .i64 10) := by rw [(an_cells rA).2.2.2.1, hcode]
  have p0 : Y2.cell? ⟨Y.heap.size, 0, none⟩ = some (.pointer none) := cell_of n2 0
  have pf : Y2.frozen? ⟨Y.heap.size, 0, none⟩ = false := frozen_of n2 0
  obtain ⟨Y3, hY3⟩ : ∃ Y3, Y2.setCell ⟨Y.heap.size, 0, none⟩ (.pointer (some ⟨P, 2, none⟩)) = Y3 := ⟨_, rfl⟩
  have b3 : Below w.heap.size w Y3 := by
    have b23 : Below w.heap.size Y2 Y3 := by
      rw [← hY3]
      exact ⟨rfl, rfl, rfl, by simp [World.setCell], fun b hb => Below.heap_setCell _ _ _ _ (by show b ≠ Y.heap.size; omega)⟩
    exact (q1.trans (b2.mono q1.size)).trans b23
  have z3 : Y3.heap.size = w.heap.size + 1 + 1 := by rw [← hY3, ← hY2]; simp [World.setCell, hz]
  have rA3 : Y3.heap[w.heap.size]? = some (anO a) := by rw [← hY3, Below.heap_setCell _ _ _ _ (by show w.heap.size ≠ Y.heap.size; omega)]; exact rA
  have rp3 : Y3.heap[Y.heap.size]? = some (pjO P 2) := by
    rw [← hY3, heap_setCell_at _ n2]
    rfl
  obtain ⟨g, o, m, c, at_, va, vn, vc, hargs, hm, hg, hgf, g0, g1, g2, g3⟩ := hA
  have c4 : Y3.cell? ⟨w.heap.size, 4, none⟩ = some (.slice (some ⟨g, o, none⟩) m c) := by rw [(an_cells rA3).2.2.2.2.1, hargs]
  have e0 : Y3.cell? ⟨g, o, none⟩ = some (.int .i64 ak) := by rw [b3.cell (p := ⟨g, o, none⟩) hg]; exact g0
  have e1 : Y3.cell? ⟨g, o + 1, none⟩ = some (.int .i64 ax) := by rw [b3.cell (p := ⟨g, o + 1, none⟩) hg]; exact g1
  have e2 : Y3.cell? ⟨g, o + 2, none⟩ = some (.string at_) := by rw [b3.cell (p := ⟨g, o + 2, none⟩) hg]; exact g2
  have e3 : Y3.cell? ⟨g, o + 3, none⟩ = some (.slice va vn vc) := by rw [b3.cell (p := ⟨g, o + 3, none⟩) hg]; exact g3
  have hmz : ((m : Int) == 0) = false := by simp; omega
  have hmi : (0 : Int) < (m : Int) := by omega
  have HN : Hid (∀ X, Calls Tryd.prog 59 #[.agg #[.int .i64 ak, .int .i64 ax, .string at_, .slice va vn vc], .int .i64 0] X fun e w' => e = .returned (.bool true) ∧ Below X.heap.size X w') := Lib.hid (fun X => by rw [← hnm]; exact isNumber_any ak ax 0 at_ va vn vc X)
  have HI : Hid (∀ X, Below w.heap.size w X → Calls Tryd.prog 28 #[.pointer (some ⟨P, 0, none⟩)] X fun e w' => e = .returned (.bool true) ∧ Below X.heap.size X w') := Lib.hid (fun X hX => by rw [← hop]; exact isOpening_M (h.bel hX) hq)
  have hfrl := h.lt
  have fin : ∀ w', Below Y3.heap.size Y3 w' → ChgOut P fr M (some (fun N => { N with v := ax })) w (.returned (.func (.func 60) #[] #[.pointer (some ⟨w.heap.size, 0, none⟩), .pointer (some ⟨Y.heap.size, 0, none⟩)])) w' := fun w' hw' => by
    have bw := b3.trans (hw'.mono b3.size)
    refine ⟨bw, _, _, rfl, isFn_coded1, fun bb X _ hX hM => ?_⟩
    obtain ⟨q, rows, was, h1, h2, h3, h4⟩ := hM.ex
    have xA := hX.at_ (bel_at hw' (by rw [z3]; omega) rA3) (fun e => by have := hfrl _ e; omega)
    have xp := hX.at_ (bel_at hw' (by rw [z3, hz]; omega) rp3) (fun e => by have := hfrl _ e; omega)
    have xg : X.cell? ⟨g, o + 1, none⟩ = some (.int .i64 ax) := by rw [hX.cell (a := ⟨g, o + 1, none⟩) (Nat.lt_of_lt_of_le hg bw.size) hgf, bw.cell (p := ⟨g, o + 1, none⟩) hg]; exact g1
    refine (coded1_10 P q _ _ _ _ rows was _ a g o m c hm ax hargs w.heap.size Y.heap.size X xg xA xp h1).mono ?_
    rintro e X' ⟨rfl, hs, hm'⟩
    refine ⟨rfl, MG.b ?_ (Nat.le_trans bw.size hX.size)⟩
    exact hM.turn h1 hs ⟨q, rows, was, hm', h2, h3, h4⟩
  have FIN := Lib.hid fin
  have B3 := Lib.hid b3
  have HY := Lib.hid hY
  have HY2 := Lib.hid hY2
  have HY3 := Lib.hid hY3
  clear q1 r0 hz b2 n2 rA b3 rA3 rp3 z3 hY hY2 hY3 hcode h hargs hm hg hgf g0 g1 g2 g3 hnm hop hq fin hfrl
  unfold anO at HY
  go_enter Tryd.func40, Tryd.ntmps40
  go_upto_region 1 with fail
  rw [HY.out]
  go_upto_region 3 with fail
  rw [HY2.out]
  go_upto_region 11 with fail
  (try rw [HY3.out])
  clear HY HY2 HY3 c3 p0 pf
  go_wp2_with (first | (go_at_call 59; refine (HN.out _).mono ?_; rintro e w4 ⟨rfl, hb4⟩; have HB4 := Lib.hid hb4; clear hb4) | (go_at_call 28; refine (HI.out _ (B3.out.trans (HB4.out.mono B3.out.size))).mono ?_; rintro e w5 ⟨rfl, hb5⟩; have HB5 := Lib.hid hb5; clear hb5))
  go_ret
  exact FIN.out _ (HB4.out.trans (HB5.out.mono HB4.out.size))
set_option maxRecDepth 10000 in
set_option maxHeartbeats 2000000 in
theorem coded_none_9 (P : Nat) (fr : List Nat) (M : PM) (a : AN) (w : World) (hcode : a.code = 9) (ga : Option Addr) (gc : Nat) (hargs : a.args = .slice ga 0 gc) :
    Calls Tryd.prog 40 #[.pointer (some ⟨P, 0, none⟩), .agg (anC a)] w (ChgOut P fr M none w) := by
  have q1 : Below w.heap.size w (w.alloc (anO a)) := (Below.refl _ _).alloc (Nat.le_refl _) _
  obtain ⟨Y, hY⟩ : ∃ Y, w.alloc (anO a) = Y := ⟨_, rfl⟩
  have r0 : Y.heap[w.heap.size]? = some (anO a) := by rw [← hY]; exact heap_new _ _
  have hz : Y.heap.size = w.heap.size + 1 := by rw [← hY]; simp
  rw [hY] at q1
  obtain ⟨Y2, hY2⟩ : ∃ Y2, Y.alloc (.cells #[.pointer none] 115) = Y2 := ⟨_, rfl⟩
  have b2 : Below Y.heap.size Y Y2 := by rw [← hY2]; exact (Below.refl _ _).alloc (Nat.le_refl _) _
  have n2 : Y2.heap[Y.heap.size]? = some (.cells #[.pointer none] 115 (0, 0)) := by rw [← hY2]; exact heap_new _ _
  have rA : Y2.heap[w.heap.size]? = some (anO a) := bel_at b2 (by omega) r0
  have c3 : Y2.cell? ⟨w.heap.size, 3, none⟩ = some (.int .i64 9) := by rw [(an_cells rA).2.2.2.1, hcode]
  have p0 : Y2.cell? ⟨Y.heap.size, 0, none⟩ = some (.pointer none) := cell_of n2 0
  have pf : Y2.frozen? ⟨Y.heap.size, 0, none⟩ = false := frozen_of n2 0
  obtain ⟨Y3, hY3⟩ : ∃ Y3, Y2.setCell ⟨Y.heap.size, 0, none⟩ (.pointer (some ⟨P, 3, none⟩)) = Y3 := ⟨_, rfl⟩
  have b3 : Below w.heap.size w Y3 := by
    have b23 : Below w.heap.size Y2 Y3 := by
      rw [← hY3]
      exact ⟨rfl, rfl, rfl, by simp [World.setCell], fun b hb => Below.heap_setCell _ _ _ _ (by show b ≠ Y.heap.size; omega)⟩
    exact (q1.trans (b2.mono q1.size)).trans b23
  have z3 : Y3.heap.size = w.heap.size + 1 + 1 := by rw [← hY3, ← hY2]; simp [World.setCell, hz]
  have rA3 : Y3.heap[w.heap.size]? = some (anO a) := by rw [← hY3, Below.heap_setCell _ _ _ _ (by show w.heap.size ≠ Y.heap.size; omega)]; exact rA
  have rp3 : Y3.heap[Y.heap.size]? = some (pjO P 3) := by
    rw [← hY3, heap_setCell_at _ n2]
    rfl
  have c4 : Y3.cell? ⟨w.heap.size, 4, none⟩ = some (.slice ga 0 gc) := by rw [(an_cells rA3).2.2.2.2.1, hargs]
  have B3 := Lib.hid b3
  have HY := Lib.hid hY
  have HY2 := Lib.hid hY2
  have HY3 := Lib.hid hY3
  clear q1 r0 hz b2 n2 rA b3 rA3 rp3 z3 hY hY2 hY3 hcode hargs
  unfold anO at HY
  go_enter Tryd.func40, Tryd.ntmps40
  go_upto_region 1 with fail
  rw [HY.out]
  go_upto_region 3 with fail
  rw [HY2.out]
  go_upto_region 11 with fail
  (try rw [HY3.out])
  clear HY HY2 HY3 c3 p0 pf
  go_wp2_with fail
  go_ret
  exact ⟨B3.out, rfl⟩
set_option maxRecDepth 10000 in
set_option maxHeartbeats 2000000 in
theorem coded_bad_9 (P : Nat) (fr : List Nat) (M : PM) (a : AN) (w : World) (hcode : a.code = 9) (ak ax : Int) (hA : ArgA fr w a.args ak ax) (hnm : isNm ak ax 0 = false) :
    Calls Tryd.prog 40 #[.pointer (some ⟨P, 0, none⟩), .agg (anC a)] w (ChgOut P fr M none w) := by
  have q1 : Below w.heap.size w (w.alloc (anO a)) := (Below.refl _ _).alloc (Nat.le_refl _) _
  obtain ⟨Y, hY⟩ : ∃ Y, w.alloc (anO a) = Y := ⟨_, rfl⟩
  have r0 : Y.heap[w.heap.size]? = some (anO a) := by rw [← hY]; exact heap_new _ _
  have hz : Y.heap.size = w.heap.size + 1 := by rw [← hY]; simp
  rw [hY] at q1
  obtain ⟨Y2, hY2⟩ : ∃ Y2, Y.alloc (.cells #[.pointer none] 115) = Y2 := ⟨_, rfl⟩
  have b2 : Below Y.heap.size Y Y2 := by rw [← hY2]; exact (Below.refl _ _).alloc (Nat.le_refl _) _
  have n2 : Y2.heap[Y.heap.size]? = some (.cells #[.pointer none] 115 (0, 0)) := by rw [← hY2]; exact heap_new _ _
  have rA : Y2.heap[w.heap.size]? = some (anO a) := bel_at b2 (by omega) r0
  have c3 : Y2.cell? ⟨w.heap.size, 3, none⟩ = some (.int .i64 9) := by rw [(an_cells rA).2.2.2.1, hcode]
  have p0 : Y2.cell? ⟨Y.heap.size, 0, none⟩ = some (.pointer none) := cell_of n2 0
  have pf : Y2.frozen? ⟨Y.heap.size, 0, none⟩ = false := frozen_of n2 0
  obtain ⟨Y3, hY3⟩ : ∃ Y3, Y2.setCell ⟨Y.heap.size, 0, none⟩ (.pointer (some ⟨P, 3, none⟩)) = Y3 := ⟨_, rfl⟩
  have b3 : Below w.heap.size w Y3 := by
    have b23 : Below w.heap.size Y2 Y3 := by
      rw [← hY3]
      exact ⟨rfl, rfl, rfl, by simp [World.setCell], fun b hb => Below.heap_setCell _ _ _ _ (by show b ≠ Y.heap.size; omega)⟩
    exact (q1.trans (b2.mono q1.size)).trans b23
  have z3 : Y3.heap.size = w.heap.size + 1 + 1 := by rw [← hY3, ← hY2]; simp [World.setCell, hz]
  have rA3 : Y3.heap[w.heap.size]? = some (anO a) := by rw [← hY3, Below.heap_setCell _ _ _ _ (by show w.heap.size ≠ Y.heap.size; omega)]; exact rA
  have rp3 : Y3.heap[Y.heap.size]? = some (pjO P 3) := by
    rw [← hY3, heap_setCell_at _ n2]
    rfl
  obtain ⟨g, o, m, c, at_, va, vn, vc, hargs, hm, hg, hgf, g0, g1, g2, g3⟩ := hA
  have c4 : Y3.cell? ⟨w.heap.size, 4, none⟩ = some (.slice (some ⟨g, o, none⟩) m c) := by rw [(an_cells rA3).2.2.2.2.1, hargs]
  have e0 : Y3.cell? ⟨g, o, none⟩ = some (.int .i64 ak) := by rw [b3.cell (p := ⟨g, o, none⟩) hg]; exact g0
  have e1 : Y3.cell? ⟨g, o + 1, none⟩ = some (.int .i64 ax) := by rw [b3.cell (p := ⟨g, o + 1, none⟩) hg]; exact g1
  have e2 : Y3.cell? ⟨g, o + 2, none⟩ = some (.string at_) := by rw [b3.cell (p := ⟨g, o + 2, none⟩) hg]; exact g2
  have e3 : Y3.cell? ⟨g, o + 3, none⟩ = some (.slice va vn vc) := by rw [b3.cell (p := ⟨g, o + 3, none⟩) hg]; exact g3
  have hmz : ((m : Int) == 0) = false := by simp; omega
  have hmi : (0 : Int) < (m : Int) := by omega
  have HN : Hid (∀ X, Calls Tryd.prog 59 #[.agg #[.int .i64 ak, .int .i64 ax, .string at_, .slice va vn vc], .int .i64 0] X fun e w' => e = .returned (.bool false) ∧ Below X.heap.size X w') := Lib.hid (fun X => by rw [← hnm]; exact isNumber_any ak ax 0 at_ va vn vc X)
  have B3 := Lib.hid b3
  have HY := Lib.hid hY
  have HY2 := Lib.hid hY2
  have HY3 := Lib.hid hY3
  clear q1 r0 hz b2 n2 rA b3 rA3 rp3 z3 hY hY2 hY3 hcode hargs hm hg hgf g0 g1 g2 g3 hnm
  unfold anO at HY
  go_enter Tryd.func40, Tryd.ntmps40
  go_upto_region 1 with fail
  rw [HY.out]
  go_upto_region 3 with fail
  rw [HY2.out]
  go_upto_region 11 with fail
  (try rw [HY3.out])
  clear HY HY2 HY3 c3 p0 pf
  go_wp2_with (first | (go_at_call 59; refine (HN.out _).mono ?_; rintro e w4 ⟨rfl, hb4⟩; have HB4 := Lib.hid hb4; clear hb4))
  go_ret
  exact ⟨B3.out.trans (HB4.out.mono B3.out.size), rfl⟩
set_option maxRecDepth 10000 in
set_option maxHeartbeats 2000000 in
theorem coded_shut_9 (P : Nat) (fr : List Nat) (M : PM) (a : AN) (w : World) (h : MAt P fr M w) (hcode : a.code = 9) (ak ax : Int) (hA : ArgA fr w a.args ak ax) (hnm : isNm ak ax 0 = true) (hq : M.q.length ≤ 1000000) (hop : opnM M = false) :
    Calls Tryd.prog 40 #[.pointer (some ⟨P, 0, none⟩), .agg (anC a)] w (ChgOut P fr M (some id) w) := by
  have q1 : Below w.heap.size w (w.alloc (anO a)) := (Below.refl _ _).alloc (Nat.le_refl _) _
  obtain ⟨Y, hY⟩ : ∃ Y, w.alloc (anO a) = Y := ⟨_, rfl⟩
  have r0 : Y.heap[w.heap.size]? = some (anO a) := by rw [← hY]; exact heap_new _ _
  have hz : Y.heap.size = w.heap.size + 1 := by rw [← hY]; simp
  rw [hY] at q1
  obtain ⟨Y2, hY2⟩ : ∃ Y2, Y.alloc (.cells #[.pointer none] 115) = Y2 := ⟨_, rfl⟩
  have b2 : Below Y.heap.size Y Y2 := by rw [← hY2]; exact (Below.refl _ _).alloc (Nat.le_refl _) _
  have n2 : Y2.heap[Y.heap.size]? = some (.cells #[.pointer none] 115 (0, 0)) := by rw [← hY2]; exact heap_new _ _
  have rA : Y2.heap[w.heap.size]? = some (anO a) := bel_at b2 (by omega) r0
  have c3 : Y2.cell? ⟨w.heap.size, 3, none⟩ = some (.int .i64 9) := by rw [(an_cells rA).2.2.2.1, hcode]
  have p0 : Y2.cell? ⟨Y.heap.size, 0, none⟩ = some (.pointer none) := cell_of n2 0
  have pf : Y2.frozen? ⟨Y.heap.size, 0, none⟩ = false := frozen_of n2 0
  obtain ⟨Y3, hY3⟩ : ∃ Y3, Y2.setCell ⟨Y.heap.size, 0, none⟩ (.pointer (some ⟨P, 3, none⟩)) = Y3 := ⟨_, rfl⟩
  have b3 : Below w.heap.size w Y3 := by
    have b23 : Below w.heap.size Y2 Y3 := by
      rw [← hY3]
      exact ⟨rfl, rfl, rfl, by simp [World.setCell], fun b hb => Below.heap_setCell _ _ _ _ (by show b ≠ Y.heap.size; omega)⟩
    exact (q1.trans (b2.mono q1.size)).trans b23
  have z3 : Y3.heap.size = w.heap.size + 1 + 1 := by rw [← hY3, ← hY2]; simp [World.setCell, hz]
  have rA3 : Y3.heap[w.heap.size]? = some (anO a) := by rw [← hY3, Below.heap_setCell _ _ _ _ (by show w.heap.size ≠ Y.heap.size; omega)]; exact rA
  have rp3 : Y3.heap[Y.heap.size]? = some (pjO P 3) := by
    rw [← hY3, heap_setCell_at _ n2]
    rfl
  obtain ⟨g, o, m, c, at_, va, vn, vc, hargs, hm, hg, hgf, g0, g1, g2, g3⟩ := hA
  have c4 : Y3.cell? ⟨w.heap.size, 4, none⟩ = some (.slice (some ⟨g, o, none⟩) m c) := by rw [(an_cells rA3).2.2.2.2.1, hargs]
  have e0 : Y3.cell? ⟨g, o, none⟩ = some (.int .i64 ak) := by rw [b3.cell (p := ⟨g, o, none⟩) hg]; exact g0
  have e1 : Y3.cell? ⟨g, o + 1, none⟩ = some (.int .i64 ax) := by rw [b3.cell (p := ⟨g, o + 1, none⟩) hg]; exact g1
  have e2 : Y3.cell? ⟨g, o + 2, none⟩ = some (.string at_) := by rw [b3.cell (p := ⟨g, o + 2, none⟩) hg]; exact g2
  have e3 : Y3.cell? ⟨g, o + 3, none⟩ = some (.slice va vn vc) := by rw [b3.cell (p := ⟨g, o + 3, none⟩) hg]; exact g3
  have hmz : ((m : Int) == 0) = false := by simp; omega
  have hmi : (0 : Int) < (m : Int) := by omega
  have HN : Hid (∀ X, Calls Tryd.prog 59 #[.agg #[.int .i64 ak, .int .i64 ax, .string at_, .slice va vn vc], .int .i64 0] X fun e w' => e = .returned (.bool true) ∧ Below X.heap.size X w') := Lib.hid (fun X => by rw [← hnm]; exact isNumber_any ak ax 0 at_ va vn vc X)
  have HI : Hid (∀ X, Below w.heap.size w X → Calls Tryd.prog 28 #[.pointer (some ⟨P, 0, none⟩)] X fun e w' => e = .returned (.bool false) ∧ Below X.heap.size X w') := Lib.hid (fun X hX => by rw [← hop]; exact isOpening_M (h.bel hX) hq)
  have HNo : Hid (∀ X, Calls Tryd.prog 31 #[.pointer (some ⟨P, 0, none⟩), .agg (anC a)] X (ChgOut P fr M (some id) X)) := Lib.hid (fun X => nothing_any P fr M a X)
  have HRG : Hid (∀ X, Below Y3.heap.size Y3 X → X.rangeAt w.heap.size 0 (anC a).toList) := Lib.hid (fun X hX => an_range (bel_at hX (by rw [z3]; omega) rA3))
  have B3 := Lib.hid b3
  have HY := Lib.hid hY
  have HY2 := Lib.hid hY2
  have HY3 := Lib.hid hY3
  clear q1 r0 hz b2 n2 rA b3 rA3 rp3 z3 hY hY2 hY3 hcode h hargs hm hg hgf g0 g1 g2 g3 hnm hop hq
  unfold anO at HY
  go_enter Tryd.func40, Tryd.ntmps40
  go_upto_region 1 with fail
  rw [HY.out]
  go_upto_region 3 with fail
  rw [HY2.out]
  go_upto_region 11 with fail
  (try rw [HY3.out])
  clear HY HY2 HY3 c3 p0 pf
  go_wp2_with (first | (go_at_call 59; refine (HN.out _).mono ?_; rintro e w4 ⟨rfl, hb4⟩; have HB4 := Lib.hid hb4; clear hb4) | (go_at_call 28; refine (HI.out _ (B3.out.trans (HB4.out.mono B3.out.size))).mono ?_; rintro e w5 ⟨rfl, hb5⟩; have HB5 := Lib.hid hb5; clear hb5) | (refine wpList_load_mid rfl 43 _ rfl w.heap.size 0 rfl _ _ (HRG.out _ (HB4.out.trans (HB5.out.mono HB4.out.size))) Tryd.underlying43 rfl Tryd.sizeAn ?_) | (go_at_call 31; refine (HNo.out _).mono ?_; rintro e w6 hr0; obtain ⟨v, rfl⟩ := chg_val hr0; have HR := Lib.hid hr0; clear hr0))
  go_ret
  exact HR.out.low (B3.out.trans ((HB4.out.trans (HB5.out.mono HB4.out.size)).mono B3.out.size))
set_option maxRecDepth 10000 in
set_option maxHeartbeats 2000000 in
theorem coded_go_9 (P : Nat) (fr : List Nat) (M : PM) (a : AN) (w : World) (h : MAt P fr M w) (hcode : a.code = 9) (ak ax : Int) (hA : ArgA fr w a.args ak ax) (hnm : isNm ak ax 0 = true) (hq : M.q.length ≤ 1000000) (hop : opnM M = true) :
    Calls Tryd.prog 40 #[.pointer (some ⟨P, 0, none⟩), .agg (anC a)] w (ChgOut P fr M (some (fun N => { N with n := ax })) w) := by
  have q1 : Below w.heap.size w (w.alloc (anO a)) := (Below.refl _ _).alloc (Nat.le_refl _) _
  obtain ⟨Y, hY⟩ : ∃ Y, w.alloc (anO a) = Y := ⟨_, rfl⟩
  have r0 : Y.heap[w.heap.size]? = some (anO a) := by rw [← hY]; exact heap_new _ _
  have hz : Y.heap.size = w.heap.size + 1 := by rw [← hY]; simp
  rw [hY] at q1
  obtain ⟨Y2, hY2⟩ : ∃ Y2, Y.alloc (.cells #[.pointer none] 115) = Y2 := ⟨_, rfl⟩
  have b2 : Below Y.heap.size Y Y2 := by rw [← hY2]; exact (Below.refl _ _).alloc (Nat.le_refl _) _
  have n2 : Y2.heap[Y.heap.size]? = some (.cells #[.pointer none] 115 (0, 0)) := by rw [← hY2]; exact heap_new _ _
  have rA : Y2.heap[w.heap.size]? = some (anO a) := bel_at b2 (by omega) r0
  have c3 : Y2.cell? ⟨w.heap.size, 3, none⟩ = some (.int .i64 9) := by rw [(an_cells rA).2.2.2.1, hcode]
  have p0 : Y2.cell? ⟨Y.heap.size, 0, none⟩ = some (.pointer none) := cell_of n2 0
  have pf : Y2.frozen? ⟨Y.heap.size, 0, none⟩ = false := frozen_of n2 0
  obtain ⟨Y3, hY3⟩ : ∃ Y3, Y2.setCell ⟨Y.heap.size, 0, none⟩ (.pointer (some ⟨P, 3, none⟩)) = Y3 := ⟨_, rfl⟩
  have b3 : Below w.heap.size w Y3 := by
    have b23 : Below w.heap.size Y2 Y3 := by
      rw [← hY3]
      exact ⟨rfl, rfl, rfl, by simp [World.setCell], fun b hb => Below.heap_setCell _ _ _ _ (by show b ≠ Y.heap.size; omega)⟩
    exact (q1.trans (b2.mono q1.size)).trans b23
  have z3 : Y3.heap.size = w.heap.size + 1 + 1 := by rw [← hY3, ← hY2]; simp [World.setCell, hz]
  have rA3 : Y3.heap[w.heap.size]? = some (anO a) := by rw [← hY3, Below.heap_setCell _ _ _ _ (by show w.heap.size ≠ Y.heap.size; omega)]; exact rA
  have rp3 : Y3.heap[Y.heap.size]? = some (pjO P 3) := by
    rw [← hY3, heap_setCell_at _ n2]
    rfl
  obtain ⟨g, o, m, c, at_, va, vn, vc, hargs, hm, hg, hgf, g0, g1, g2, g3⟩ := hA
  have c4 : Y3.cell? ⟨w.heap.size, 4, none⟩ = some (.slice (some ⟨g, o, none⟩) m c) := by rw [(an_cells rA3).2.2.2.2.1, hargs]
  have e0 : Y3.cell? ⟨g, o, none⟩ = some (.int .i64 ak) := by rw [b3.cell (p := ⟨g, o, none⟩) hg]; exact g0
  have e1 : Y3.cell? ⟨g, o + 1, none⟩ = some (.int .i64 ax) := by rw [b3.cell (p := ⟨g, o + 1, none⟩) hg]; exact g1
  have e2 : Y3.cell? ⟨g, o + 2, none⟩ = some (.string at_) := by rw [b3.cell (p := ⟨g, o + 2, none⟩) hg]; exact g2
  have e3 : Y3.cell? ⟨g, o + 3, none⟩ = some (.slice va vn vc) := by rw [b3.cell (p := ⟨g, o + 3, none⟩) hg]; exact g3
  have hmz : ((m : Int) == 0) = false := by simp; omega
  have hmi : (0 : Int) < (m : Int) := by omega
  have HN : Hid (∀ X, Calls Tryd.prog 59 #[.agg #[.int .i64 ak, .int .i64 ax, .string at_, .slice va vn vc], .int .i64 0] X fun e w' => e = .returned (.bool true) ∧ Below X.heap.size X w') := Lib.hid (fun X => by rw [← hnm]; exact isNumber_any ak ax 0 at_ va vn vc X)
  have HI : Hid (∀ X, Below w.heap.size w X → Calls Tryd.prog 28 #[.pointer (some ⟨P, 0, none⟩)] X fun e w' => e = .returned (.bool true) ∧ Below X.heap.size X w') := Lib.hid (fun X hX => by rw [← hop]; exact isOpening_M (h.bel hX) hq)
  have hfrl := h.lt
  have fin : ∀ w', Below Y3.heap.size Y3 w' → ChgOut P fr M (some (fun N => { N with n := ax })) w (.returned (.func (.func 60) #[] #[.pointer (some ⟨w.heap.size, 0, none⟩), .pointer (some ⟨Y.heap.size, 0, none⟩)])) w' := fun w' hw' => by
    have bw := b3.trans (hw'.mono b3.size)
    refine ⟨bw, _, _, rfl, isFn_coded1, fun bb X _ hX hM => ?_⟩
    obtain ⟨q, rows, was, h1, h2, h3, h4⟩ := hM.ex
    have xA := hX.at_ (bel_at hw' (by rw [z3]; omega) rA3) (fun e => by have := hfrl _ e; omega)
    have xp := hX.at_ (bel_at hw' (by rw [z3, hz]; omega) rp3) (fun e => by have := hfrl _ e; omega)
    have xg : X.cell? ⟨g, o + 1, none⟩ = some (.int .i64 ax) := by rw [hX.cell (a := ⟨g, o + 1, none⟩) (Nat.lt_of_lt_of_le hg bw.size) hgf, bw.cell (p := ⟨g, o + 1, none⟩) hg]; exact g1
    refine (coded1_9 P q _ _ _ _ rows was _ a g o m c hm ax hargs w.heap.size Y.heap.size X xg xA xp h1).mono ?_
    rintro e X' ⟨rfl, hs, hm'⟩
    refine ⟨rfl, MG.b ?_ (Nat.le_trans bw.size hX.size)⟩
    exact hM.turn h1 hs ⟨q, rows, was, hm', h2, h3, h4⟩
  have FIN := Lib.hid fin
  have B3 := Lib.hid b3
  have HY := Lib.hid hY
  have HY2 := Lib.hid hY2
  have HY3 := Lib.hid hY3
  clear q1 r0 hz b2 n2 rA b3 rA3 rp3 z3 hY hY2 hY3 hcode h hargs hm hg hgf g0 g1 g2 g3 hnm hop hq fin hfrl
  unfold anO at HY
  go_enter Tryd.func40, Tryd.ntmps40
  go_upto_region 1 with fail
  rw [HY.out]
  go_upto_region 3 with fail
  rw [HY2.out]
  go_upto_region 11 with fail
  (try rw [HY3.out])
  clear HY HY2 HY3 c3 p0 pf
  go_wp2_with (first | (go_at_call 59; refine (HN.out _).mono ?_; rintro e w4 ⟨rfl, hb4⟩; have HB4 := Lib.hid hb4; clear hb4) | (go_at_call 28; refine (HI.out _ (B3.out.trans (HB4.out.mono B3.out.size))).mono ?_; rintro e w5 ⟨rfl, hb5⟩; have HB5 := Lib.hid hb5; clear hb5))
  go_ret
  exact FIN.out _ (HB4.out.trans (HB5.out.mono HB4.out.size))
set_option maxRecDepth 10000 in
set_option maxHeartbeats 2000000 in
theorem coded_none_13 (P : Nat) (fr : List Nat) (M : PM) (a : AN) (w : World) (hcode : a.code = 13) (ga : Option Addr) (gc : Nat) (hargs : a.args = .slice ga 0 gc) :
    Calls Tryd.prog 40 #[.pointer (some ⟨P, 0, none⟩), .agg (anC a)] w (ChgOut P fr M none w) := by
  have q1 : Below w.heap.size w (w.alloc (anO a)) := (Below.refl _ _).alloc (Nat.le_refl _) _
  obtain ⟨Y, hY⟩ : ∃ Y, w.alloc (anO a) = Y := ⟨_, rfl⟩
  have r0 : Y.heap[w.heap.size]? = some (anO a) := by rw [← hY]; exact heap_new _ _
  have hz : Y.heap.size = w.heap.size + 1 := by rw [← hY]; simp
  rw [hY] at q1
  obtain ⟨Y2, hY2⟩ : ∃ Y2, Y.alloc (.cells #[.pointer none] 115) = Y2 := ⟨_, rfl⟩
  have b2 : Below Y.heap.size Y Y2 := by rw [← hY2]; exact (Below.refl _ _).alloc (Nat.le_refl _) _
  have n2 : Y2.heap[Y.heap.size]? = some (.cells #[.pointer none] 115 (0, 0)) := by rw [← hY2]; exact heap_new _ _
  have rA : Y2.heap[w.heap.size]? = some (anO a) := bel_at b2 (by omega) r0
  have c3 : Y2.cell? ⟨w.heap.size, 3, none⟩ = some (.int .i64 13) := by rw [(an_cells rA).2.2.2.1, hcode]
  have p0 : Y2.cell? ⟨Y.heap.size, 0, none⟩ = some (.pointer none) := cell_of n2 0
  have pf : Y2.frozen? ⟨Y.heap.size, 0, none⟩ = false := frozen_of n2 0
  obtain ⟨Y3, hY3⟩ : ∃ Y3, Y2.setCell ⟨Y.heap.size, 0, none⟩ (.pointer (some ⟨P, 4, none⟩)) = Y3 := ⟨_, rfl⟩
  have b3 : Below w.heap.size w Y3 := by
    have b23 : Below w.heap.size Y2 Y3 := by
      rw [← hY3]
      exact ⟨rfl, rfl, rfl, by simp [World.setCell], fun b hb => Below.heap_setCell _ _ _ _ (by show b ≠ Y.heap.size; omega)⟩
    exact (q1.trans (b2.mono q1.size)).trans b23
  have z3 : Y3.heap.size = w.heap.size + 1 + 1 := by rw [← hY3, ← hY2]; simp [World.setCell, hz]
  have rA3 : Y3.heap[w.heap.size]? = some (anO a) := by rw [← hY3, Below.heap_setCell _ _ _ _ (by show w.heap.size ≠ Y.heap.size; omega)]; exact rA
  have rp3 : Y3.heap[Y.heap.size]? = some (pjO P 4) := by
    rw [← hY3, heap_setCell_at _ n2]
    rfl
  have c4 : Y3.cell? ⟨w.heap.size, 4, none⟩ = some (.slice ga 0 gc) := by rw [(an_cells rA3).2.2.2.2.1, hargs]
  have B3 := Lib.hid b3
  have HY := Lib.hid hY
  have HY2 := Lib.hid hY2
  have HY3 := Lib.hid hY3
  clear q1 r0 hz b2 n2 rA b3 rA3 rp3 z3 hY hY2 hY3 hcode hargs
  unfold anO at HY
  go_enter Tryd.func40, Tryd.ntmps40
  go_upto_region 1 with fail
  rw [HY.out]
  go_upto_region 3 with fail
  rw [HY2.out]
  go_upto_region 11 with fail
  (try rw [HY3.out])
  clear HY HY2 HY3 c3 p0 pf
  go_wp2_with fail
  go_ret
  exact ⟨B3.out, rfl⟩
set_option maxRecDepth 10000 in
set_option maxHeartbeats 2000000 in
theorem coded_bad_13 (P : Nat) (fr : List Nat) (M : PM) (a : AN) (w : World) (hcode : a.code = 13) (ak ax : Int) (hA : ArgA fr w a.args ak ax) (hnm : isNm ak ax 0 = false) :
    Calls Tryd.prog 40 #[.pointer (some ⟨P, 0, none⟩), .agg (anC a)] w (ChgOut P fr M none w) := by
  have q1 : Below w.heap.size w (w.alloc (anO a)) := (Below.refl _ _).alloc (Nat.le_refl _) _
  obtain ⟨Y, hY⟩ : ∃ Y, w.alloc (anO a) = Y := ⟨_, rfl⟩
  have r0 : Y.heap[w.heap.size]? = some (anO a) := by rw [← hY]; exact heap_new _ _
  have hz : Y.heap.size = w.heap.size + 1 := by rw [← hY]; simp
  rw [hY] at q1
  obtain ⟨Y2, hY2⟩ : ∃ Y2, Y.alloc (.cells #[.pointer none] 115) = Y2 := ⟨_, rfl⟩
  have b2 : Below Y.heap.size Y Y2 := by rw [← hY2]; exact (Below.refl _ _).alloc (Nat.le_refl _) _
  have n2 : Y2.heap[Y.heap.size]? = some (.cells #[.pointer none] 115 (0, 0)) := by rw [← hY2]; exact heap_new _ _
  have rA : Y2.heap[w.heap.size]? = some (anO a) := bel_at b2 (by omega) r0
  have c3 : Y2.cell? ⟨w.heap.size, 3, none⟩ = some (.int .i64 13) := by rw [(an_cells rA).2.2.2.1, hcode]
  have p0 : Y2.cell? ⟨Y.heap.size, 0, none⟩ = some (.pointer none) := cell_of n2 0
  have pf : Y2.frozen? ⟨Y.heap.size, 0, none⟩ = false := frozen_of n2 0
  obtain ⟨Y3, hY3⟩ : ∃ Y3, Y2.setCell ⟨Y.heap.size, 0, none⟩ (.pointer (some ⟨P, 4, none⟩)) = Y3 := ⟨_, rfl⟩
  have b3 : Below w.heap.size w Y3 := by
    have b23 : Below w.heap.size Y2 Y3 := by
      rw [← hY3]
      exact ⟨rfl, rfl, rfl, by simp [World.setCell], fun b hb => Below.heap_setCell _ _ _ _ (by show b ≠ Y.heap.size; omega)⟩
    exact (q1.trans (b2.mono q1.size)).trans b23
  have z3 : Y3.heap.size = w.heap.size + 1 + 1 := by rw [← hY3, ← hY2]; simp [World.setCell, hz]
  have rA3 : Y3.heap[w.heap.size]? = some (anO a) := by rw [← hY3, Below.heap_setCell _ _ _ _ (by show w.heap.size ≠ Y.heap.size; omega)]; exact rA
  have rp3 : Y3.heap[Y.heap.size]? = some (pjO P 4) := by
    rw [← hY3, heap_setCell_at _ n2]
    rfl
  obtain ⟨g, o, m, c, at_, va, vn, vc, hargs, hm, hg, hgf, g0, g1, g2, g3⟩ := hA
  have c4 : Y3.cell? ⟨w.heap.size, 4, none⟩ = some (.slice (some ⟨g, o, none⟩) m c) := by rw [(an_cells rA3).2.2.2.2.1, hargs]
  have e0 : Y3.cell? ⟨g, o, none⟩ = some (.int .i64 ak) := by rw [b3.cell (p := ⟨g, o, none⟩) hg]; exact g0
  have e1 : Y3.cell? ⟨g, o + 1, none⟩ = some (.int .i64 ax) := by rw [b3.cell (p := ⟨g, o + 1, none⟩) hg]; exact g1
  have e2 : Y3.cell? ⟨g, o + 2, none⟩ = some (.string at_) := by rw [b3.cell (p := ⟨g, o + 2, none⟩) hg]; exact g2
  have e3 : Y3.cell? ⟨g, o + 3, none⟩ = some (.slice va vn vc) := by rw [b3.cell (p := ⟨g, o + 3, none⟩) hg]; exact g3
  have hmz : ((m : Int) == 0) = false := by simp; omega
  have hmi : (0 : Int) < (m : Int) := by omega
  have HN : Hid (∀ X, Calls Tryd.prog 59 #[.agg #[.int .i64 ak, .int .i64 ax, .string at_, .slice va vn vc], .int .i64 0] X fun e w' => e = .returned (.bool false) ∧ Below X.heap.size X w') := Lib.hid (fun X => by rw [← hnm]; exact isNumber_any ak ax 0 at_ va vn vc X)
  have B3 := Lib.hid b3
  have HY := Lib.hid hY
  have HY2 := Lib.hid hY2
  have HY3 := Lib.hid hY3
  clear q1 r0 hz b2 n2 rA b3 rA3 rp3 z3 hY hY2 hY3 hcode hargs hm hg hgf g0 g1 g2 g3 hnm
  unfold anO at HY
  go_enter Tryd.func40, Tryd.ntmps40
  go_upto_region 1 with fail
  rw [HY.out]
  go_upto_region 3 with fail
  rw [HY2.out]
  go_upto_region 11 with fail
  (try rw [HY3.out])
  clear HY HY2 HY3 c3 p0 pf
  go_wp2_with (first | (go_at_call 59; refine (HN.out _).mono ?_; rintro e w4 ⟨rfl, hb4⟩; have HB4 := Lib.hid hb4; clear hb4))
  go_ret
  exact ⟨B3.out.trans (HB4.out.mono B3.out.size), rfl⟩
set_option maxRecDepth 10000 in
set_option maxHeartbeats 2000000 in
theorem coded_shut_13 (P : Nat) (fr : List Nat) (M : PM) (a : AN) (w : World) (h : MAt P fr M w) (hcode : a.code = 13) (ak ax : Int) (hA : ArgA fr w a.args ak ax) (hnm : isNm ak ax 0 = true) (hq : M.q.length ≤ 1000000) (hop : opnM M = false) :
    Calls Tryd.prog 40 #[.pointer (some ⟨P, 0, none⟩), .agg (anC a)] w (ChgOut P fr M (some id) w) := by
  have q1 : Below w.heap.size w (w.alloc (anO a)) := (Below.refl _ _).alloc (Nat.le_refl _) _
  obtain ⟨Y, hY⟩ : ∃ Y, w.alloc (anO a) = Y := ⟨_, rfl⟩
  have r0 : Y.heap[w.heap.size]? = some (anO a) := by rw [← hY]; exact heap_new _ _
  have hz : Y.heap.size = w.heap.size + 1 := by rw [← hY]; simp
  rw [hY] at q1
  obtain ⟨Y2, hY2⟩ : ∃ Y2, Y.alloc (.cells #[.pointer none] 115) = Y2 := ⟨_, rfl⟩
  have b2 : Below Y.heap.size Y Y2 := by rw [← hY2]; exact (Below.refl _ _).alloc (Nat.le_refl _) _
  have n2 : Y2.heap[Y.heap.size]? = some (.cells #[.pointer none] 115 (0, 0)) := by rw [← hY2]; exact heap_new _ _
  have rA : Y2.heap[w.heap.size]? = some (anO a) := bel_at b2 (by omega) r0
  have c3 : Y2.cell? ⟨w.heap.size, 3, none⟩ = some (.int .i64 13) := by rw [(an_cells rA).2.2.2.1, hcode]
  have p0 : Y2.cell? ⟨Y.heap.size, 0, none⟩ = some (.pointer none) := cell_of n2 0
  have pf : Y2.frozen? ⟨Y.heap.size, 0, none⟩ = false := frozen_of n2 0
  obtain ⟨Y3, hY3⟩ : ∃ Y3, Y2.setCell ⟨Y.heap.size, 0, none⟩ (.pointer (some ⟨P, 4, none⟩)) = Y3 := ⟨_, rfl⟩
  have b3 : Below w.heap.size w Y3 := by
    have b23 : Below w.heap.size Y2 Y3 := by
      rw [← hY3]
      exact ⟨rfl, rfl, rfl, by simp [World.setCell], fun b hb => Below.heap_setCell _ _ _ _ (by show b ≠ Y.heap.size; omega)⟩
    exact (q1.trans (b2.mono q1.size)).trans b23
  have z3 : Y3.heap.size = w.heap.size + 1 + 1 := by rw [← hY3, ← hY2]; simp [World.setCell, hz]
  have rA3 : Y3.heap[w.heap.size]? = some (anO a) := by rw [← hY3, Below.heap_setCell _ _ _ _ (by show w.heap.size ≠ Y.heap.size; omega)]; exact rA
  have rp3 : Y3.heap[Y.heap.size]? = some (pjO P 4) := by
    rw [← hY3, heap_setCell_at _ n2]
    rfl
  obtain ⟨g, o, m, c, at_, va, vn, vc, hargs, hm, hg, hgf, g0, g1, g2, g3⟩ := hA
  have c4 : Y3.cell? ⟨w.heap.size, 4, none⟩ = some (.slice (some ⟨g, o, none⟩) m c) := by rw [(an_cells rA3).2.2.2.2.1, hargs]
  have e0 : Y3.cell? ⟨g, o, none⟩ = some (.int .i64 ak) := by rw [b3.cell (p := ⟨g, o, none⟩) hg]; exact g0
  have e1 : Y3.cell? ⟨g, o + 1, none⟩ = some (.int .i64 ax) := by rw [b3.cell (p := ⟨g, o + 1, none⟩) hg]; exact g1
  have e2 : Y3.cell? ⟨g, o + 2, none⟩ = some (.string at_) := by rw [b3.cell (p := ⟨g, o + 2, none⟩) hg]; exact g2
  have e3 : Y3.cell? ⟨g, o + 3, none⟩ = some (.slice va vn vc) := by rw [b3.cell (p := ⟨g, o + 3, none⟩) hg]; exact g3
  have hmz : ((m : Int) == 0) = false := by simp; omega
  have hmi : (0 : Int) < (m : Int) := by omega
  have HN : Hid (∀ X, Calls Tryd.prog 59 #[.agg #[.int .i64 ak, .int .i64 ax, .string at_, .slice va vn vc], .int .i64 0] X fun e w' => e = .returned (.bool true) ∧ Below X.heap.size X w') := Lib.hid (fun X => by rw [← hnm]; exact isNumber_any ak ax 0 at_ va vn vc X)
  have HI : Hid (∀ X, Below w.heap.size w X → Calls Tryd.prog 28 #[.pointer (some ⟨P, 0, none⟩)] X fun e w' => e = .returned (.bool false) ∧ Below X.heap.size X w') := Lib.hid (fun X hX => by rw [← hop]; exact isOpening_M (h.bel hX) hq)
  have HNo : Hid (∀ X, Calls Tryd.prog 31 #[.pointer (some ⟨P, 0, none⟩), .agg (anC a)] X (ChgOut P fr M (some id) X)) := Lib.hid (fun X => nothing_any P fr M a X)
  have HRG : Hid (∀ X, Below Y3.heap.size Y3 X → X.rangeAt w.heap.size 0 (anC a).toList) := Lib.hid (fun X hX => an_range (bel_at hX (by rw [z3]; omega) rA3))
  have B3 := Lib.hid b3
  have HY := Lib.hid hY
  have HY2 := Lib.hid hY2
  have HY3 := Lib.hid hY3
  clear q1 r0 hz b2 n2 rA b3 rA3 rp3 z3 hY hY2 hY3 hcode h hargs hm hg hgf g0 g1 g2 g3 hnm hop hq
  unfold anO at HY
  go_enter Tryd.func40, Tryd.ntmps40
  go_upto_region 1 with fail
  rw [HY.out]
  go_upto_region 3 with fail
  rw [HY2.out]
  go_upto_region 11 with fail
  (try rw [HY3.out])
  clear HY HY2 HY3 c3 p0 pf
  go_wp2_with (first | (go_at_call 59; refine (HN.out _).mono ?_; rintro e w4 ⟨rfl, hb4⟩; have HB4 := Lib.hid hb4; clear hb4) | (go_at_call 28; refine (HI.out _ (B3.out.trans (HB4.out.mono B3.out.size))).mono ?_; rintro e w5 ⟨rfl, hb5⟩; have HB5 := Lib.hid hb5; clear hb5) | (refine wpList_load_mid rfl 43 _ rfl w.heap.size 0 rfl _ _ (HRG.out _ (HB4.out.trans (HB5.out.mono HB4.out.size))) Tryd.underlying43 rfl Tryd.sizeAn ?_) | (go_at_call 31; refine (HNo.out _).mono ?_; rintro e w6 hr0; obtain ⟨v, rfl⟩ := chg_val hr0; have HR := Lib.hid hr0; clear hr0))
  go_ret
  exact HR.out.low (B3.out.trans ((HB4.out.trans (HB5.out.mono HB4.out.size)).mono B3.out.size))
set_option maxRecDepth 10000 in
set_option maxHeartbeats 2000000 in
theorem coded_go_13 (P : Nat) (fr : List Nat) (M : PM) (a : AN) (w : World) (h : MAt P fr M w) (hcode : a.code = 13) (ak ax : Int) (hA : ArgA fr w a.args ak ax) (hnm : isNm ak ax 0 = true) (hq : M.q.length ≤ 1000000) (hop : opnM M = true) :
    Calls Tryd.prog 40 #[.pointer (some ⟨P, 0, none⟩), .agg (anC a)] w (ChgOut P fr M (some (fun N => { N with h := ax })) w) := by
  have q1 : Below w.heap.size w (w.alloc (anO a)) := (Below.refl _ _).alloc (Nat.le_refl _) _
  obtain ⟨Y, hY⟩ : ∃ Y, w.alloc (anO a) = Y := ⟨_, rfl⟩
  have r0 : Y.heap[w.heap.size]? = some (anO a) := by rw [← hY]; exact heap_new _ _
  have hz : Y.heap.size = w.heap.size + 1 := by rw [← hY]; simp
  rw [hY] at q1
  obtain ⟨Y2, hY2⟩ : ∃ Y2, Y.alloc (.cells #[.pointer none] 115) = Y2 := ⟨_, rfl⟩
  have b2 : Below Y.heap.size Y Y2 := by rw [← hY2]; exact (Below.refl _ _).alloc (Nat.le_refl _) _
  have n2 : Y2.heap[Y.heap.size]? = some (.cells #[.pointer none] 115 (0, 0)) := by rw [← hY2]; exact heap_new _ _
  have rA : Y2.heap[w.heap.size]? = some (anO a) := bel_at b2 (by omega) r0
  have c3 : Y2.cell? ⟨w.heap.size, 3, none⟩ = some (.int .i64 13) := by rw [(an_cells rA).2.2.2.1, hcode]
  have p0 : Y2.cell? ⟨Y.heap.size, 0, none⟩ = some (.pointer none) := cell_of n2 0
  have pf : Y2.frozen? ⟨Y.heap.size, 0, none⟩ = false := frozen_of n2 0
  obtain ⟨Y3, hY3⟩ : ∃ Y3, Y2.setCell ⟨Y.heap.size, 0, none⟩ (.pointer (some ⟨P, 4, none⟩)) = Y3 := ⟨_, rfl⟩
  have b3 : Below w.heap.size w Y3 := by
    have b23 : Below w.heap.size Y2 Y3 := by
      rw [← hY3]
      exact ⟨rfl, rfl, rfl, by simp [World.setCell], fun b hb => Below.heap_setCell _ _ _ _ (by show b ≠ Y.heap.size; omega)⟩
    exact (q1.trans (b2.mono q1.size)).trans b23
  have z3 : Y3.heap.size = w.heap.size + 1 + 1 := by rw [← hY3, ← hY2]; simp [World.setCell, hz]
  have rA3 : Y3.heap[w.heap.size]? = some (anO a) := by rw [← hY3, Below.heap_setCell _ _ _ _ (by show w.heap.size ≠ Y.heap.size; omega)]; exact rA
  have rp3 : Y3.heap[Y.heap.size]? = some (pjO P 4) := by
    rw [← hY3, heap_setCell_at _ n2]
    rfl
  obtain ⟨g, o, m, c, at_, va, vn, vc, hargs, hm, hg, hgf, g0, g1, g2, g3⟩ := hA
  have c4 : Y3.cell? ⟨w.heap.size, 4, none⟩ = some (.slice (some ⟨g, o, none⟩) m c) := by rw [(an_cells rA3).2.2.2.2.1, hargs]
  have e0 : Y3.cell? ⟨g, o, none⟩ = some (.int .i64 ak) := by rw [b3.cell (p := ⟨g, o, none⟩) hg]; exact g0
  have e1 : Y3.cell? ⟨g, o + 1, none⟩ = some (.int .i64 ax) := by rw [b3.cell (p := ⟨g, o + 1, none⟩) hg]; exact g1
  have e2 : Y3.cell? ⟨g, o + 2, none⟩ = some (.string at_) := by rw [b3.cell (p := ⟨g, o + 2, none⟩) hg]; exact g2
  have e3 : Y3.cell? ⟨g, o + 3, none⟩ = some (.slice va vn vc) := by rw [b3.cell (p := ⟨g, o + 3, none⟩) hg]; exact g3
  have hmz : ((m : Int) == 0) = false := by simp; omega
  have hmi : (0 : Int) < (m : Int) := by omega
  have HN : Hid (∀ X, Calls Tryd.prog 59 #[.agg #[.int .i64 ak, .int .i64 ax, .string at_, .slice va vn vc], .int .i64 0] X fun e w' => e = .returned (.bool true) ∧ Below X.heap.size X w') := Lib.hid (fun X => by rw [← hnm]; exact isNumber_any ak ax 0 at_ va vn vc X)
  have HI : Hid (∀ X, Below w.heap.size w X → Calls Tryd.prog 28 #[.pointer (some ⟨P, 0, none⟩)] X fun e w' => e = .returned (.bool true) ∧ Below X.heap.size X w') := Lib.hid (fun X hX => by rw [← hop]; exact isOpening_M (h.bel hX) hq)
  have hfrl := h.lt
  have fin : ∀ w', Below Y3.heap.size Y3 w' → ChgOut P fr M (some (fun N => { N with h := ax })) w (.returned (.func (.func 60) #[] #[.pointer (some ⟨w.heap.size, 0, none⟩), .pointer (some ⟨Y.heap.size, 0, none⟩)])) w' := fun w' hw' => by
    have bw := b3.trans (hw'.mono b3.size)
    refine ⟨bw, _, _, rfl, isFn_coded1, fun bb X _ hX hM => ?_⟩
    obtain ⟨q, rows, was, h1, h2, h3, h4⟩ := hM.ex
    have xA := hX.at_ (bel_at hw' (by rw [z3]; omega) rA3) (fun e => by have := hfrl _ e; omega)
    have xp := hX.at_ (bel_at hw' (by rw [z3, hz]; omega) rp3) (fun e => by have := hfrl _ e; omega)
    have xg : X.cell? ⟨g, o + 1, none⟩ = some (.int .i64 ax) := by rw [hX.cell (a := ⟨g, o + 1, none⟩) (Nat.lt_of_lt_of_le hg bw.size) hgf, bw.cell (p := ⟨g, o + 1, none⟩) hg]; exact g1
    refine (coded1_13 P q _ _ _ _ rows was _ a g o m c hm ax hargs w.heap.size Y.heap.size X xg xA xp h1).mono ?_
    rintro e X' ⟨rfl, hs, hm'⟩
    refine ⟨rfl, MG.b ?_ (Nat.le_trans bw.size hX.size)⟩
    exact hM.turn h1 hs ⟨q, rows, was, hm', h2, h3, h4⟩
  have FIN := Lib.hid fin
  have B3 := Lib.hid b3
  have HY := Lib.hid hY
  have HY2 := Lib.hid hY2
  have HY3 := Lib.hid hY3
  clear q1 r0 hz b2 n2 rA b3 rA3 rp3 z3 hY hY2 hY3 hcode h hargs hm hg hgf g0 g1 g2 g3 hnm hop hq fin hfrl
  unfold anO at HY
  go_enter Tryd.func40, Tryd.ntmps40
  go_upto_region 1 with fail
  rw [HY.out]
  go_upto_region 3 with fail
  rw [HY2.out]
  go_upto_region 11 with fail
  (try rw [HY3.out])
  clear HY HY2 HY3 c3 p0 pf
  go_wp2_with (first | (go_at_call 59; refine (HN.out _).mono ?_; rintro e w4 ⟨rfl, hb4⟩; have HB4 := Lib.hid hb4; clear hb4) | (go_at_call 28; refine (HI.out _ (B3.out.trans (HB4.out.mono B3.out.size))).mono ?_; rintro e w5 ⟨rfl, hb5⟩; have HB5 := Lib.hid hb5; clear hb5))
  go_ret
  exact FIN.out _ (HB4.out.trans (HB5.out.mono HB4.out.size))
end Go.Proofs.YtlmlbcnjohjnlaaDoor

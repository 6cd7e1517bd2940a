/- mirror: the first that waits is dropped; a command is answered. -/
import Derived.Test.YtfcpmiafliegiaaDoorM19h
namespace Go.Proofs.YtfcpmiafliegiaaDoor
open Go.RowKit

theorem ak_cells {X : World} {b : Nat} {k : AK} (h : X.heap[b]? = some (.cells (akC k) 78 (0, 0))) : X.cell? ⟨b, 0, none⟩ = some (.string k.tag) ∧ X.cell? ⟨b, 1, none⟩ = some (.int .i64 k.verb) ∧ X.cell? ⟨b, 2, none⟩ = some (.bool k.uid) ∧ X.cell? ⟨b, 3, none⟩ = some (.bool k.sil) ∧ X.cell? ⟨b, 4, none⟩ = some k.set := by
  unfold akC at h
  exact ⟨cell_of h 0, cell_of h 1, cell_of h 2, cell_of h 3, cell_of h 4⟩
set_option maxRecDepth 10000 in
set_option maxHeartbeats 2000000 in
theorem drop_one (P : Nat) (sel : Bool) (v n h : Int) (rows was : Value) (bg : Bool) (g c : Nat) (cs : Array Value) (w : World) (hM : w.heap[P]? = some (mirO (.slice (some ⟨g, 0, none⟩) 1 c) sel v n h rows was bg)) (hG : w.heap[g]? = some (.cells cs 78 (0, 0))) (h5 : 5 ≤ cs.size) (h1 : 1 ≤ c) :
    Calls Tryd.prog 56 #[.pointer (some ⟨P, 0, none⟩)] w fun e w' => e = .returned (.tuple #[]) ∧ Stays [P, g] w w' ∧ ∃ q', w'.heap[P]? = some (mirO q' sel v n h rows was bg) := by
  have hne : P ≠ g := kind_ne (by unfold mirO at hM; exact hM) hG (by decide)
  have hPl := lt_of_heap hM
  have hGl := lt_of_heap hG
  obtain ⟨Y, hY⟩ : ∃ Y, w.alloc akZ = Y := ⟨_, rfl⟩
  have s0 : Stays [P, g] w Y := by rw [← hY]; exact (Stays.refl _ _).alloc _
  have yP : Y.heap[P]? = some (mirO (.slice (some ⟨g, 0, none⟩) 1 c) sel v n h rows was bg) := by rw [← hY, Below.heap_alloc _ _ _ hPl]; exact hM
  have yG : Y.heap[g]? = some (.cells cs 78 (0, 0)) := by rw [← hY, Below.heap_alloc _ _ _ hGl]; exact hG
  have yZ : Y.heap[w.heap.size]? = some akZ := by rw [← hY]; exact heap_new _ _
  unfold akZ at yZ
  have z0 : Y.cell? ⟨w.heap.size, 0, none⟩ = some (.string ⟨#[]⟩) := cell_of yZ 0
  have z1 : Y.cell? ⟨w.heap.size, 1, none⟩ = some (.int .i64 0) := cell_of yZ 1
  have z2 : Y.cell? ⟨w.heap.size, 2, none⟩ = some (.bool false) := cell_of yZ 2
  have z3 : Y.cell? ⟨w.heap.size, 3, none⟩ = some (.bool false) := cell_of yZ 3
  have z4 : Y.cell? ⟨w.heap.size, 4, none⟩ = some (.slice none 0 0) := cell_of yZ 4
  have m0 := (mir_cells yP).c0
  have k0 : Y.cell? ⟨g, 0, none⟩ = some (cs[0]'(by omega)) := by rw [cell_of yG]; exact Array.getElem?_eq_getElem _
  have k1 : Y.cell? ⟨g, 1, none⟩ = some (cs[1]'(by omega)) := by rw [cell_of yG]; exact Array.getElem?_eq_getElem _
  have k2 : Y.cell? ⟨g, 2, none⟩ = some (cs[2]'(by omega)) := by rw [cell_of yG]; exact Array.getElem?_eq_getElem _
  have k3 : Y.cell? ⟨g, 3, none⟩ = some (cs[3]'(by omega)) := by rw [cell_of yG]; exact Array.getElem?_eq_getElem _
  have k4 : Y.cell? ⟨g, 4, none⟩ = some (cs[4]'(by omega)) := by rw [cell_of yG]; exact Array.getElem?_eq_getElem _
  generalize cs[0]'(by omega) = u0 at k0
  generalize cs[1]'(by omega) = u1 at k1
  generalize cs[2]'(by omega) = u2 at k2
  generalize cs[3]'(by omega) = u3 at k3
  generalize cs[4]'(by omega) = u4 at k4
  have f0 := frozen_of yG 0
  have f1 := frozen_of yG 1
  have f2 := frozen_of yG 2
  have f3 := frozen_of yG 3
  have f4 := frozen_of yG 4
  have S0 := Lib.hid s0
  have YP := Lib.hid yP
  have HY := Lib.hid hY
  have HN := Lib.hid hne
  clear hM hG hPl hGl hY s0 yP yG yZ hne h5
  unfold akZ at HY
  go_enter Tryd.func56, Tryd.ntmps56
  go_upto_region 1 with fail
  rw [HY.out]
  clear HY
  refine wp_region_N 6 (fun X => X = Y.drew) (by kernel_rfl) ?_
  refine wpAnyN_take (i := 0) (oi := { dst := some 3, op := Go.Op.move (Go.Operand.tmp 0), type := 86, pos := "queue.go:22", after := #[], guard := none }) (oL := { dst := none, op := Go.Op.store 78 (Go.Operand.tmp 8) (Go.Operand.tmp 7), type := 0, pos := "queue.go:22", after := #[{ on := 5, ground := Go.Ground.data }, { on := 4, ground := Go.Ground.data }, { on := 0, ground := Go.Ground.phase }, { on := 1, ground := Go.Ground.phase }, { on := 2, ground := Go.Ground.phase }, { on := 3, ground := Go.Ground.phase }, { on := 4, ground := Go.Ground.phase }], guard := none }) (v := .pointer (some ⟨P, 0, none⟩)) rfl rfl (by kernel_rfl) (by kernel_rfl) (by kernel_rfl) (by kernel_rfl) (fun _ _ _ h => h) (Or.inl ⟨by kernel_rfl, ?_⟩) rfl ?_
  · (intro X hX; subst hX <;> (go_simp; try (with_reducible rfl)))
  (try simp only [Act.put, List.setIfInBounds_toArray, List.set_cons_zero, List.set_cons_succ])
  refine wpAnyN_take (i := 1) (oi := { dst := some 4, op := Go.Op.nilCheck (Go.Operand.tmp 3), type := 0, pos := "queue.go:22", after := #[{ on := 0, ground := Go.Ground.data }], guard := none }) (oL := { dst := none, op := Go.Op.store 78 (Go.Operand.tmp 8) (Go.Operand.tmp 7), type := 0, pos := "queue.go:22", after := #[{ on := 5, ground := Go.Ground.data }, { on := 4, ground := Go.Ground.data }, { on := 0, ground := Go.Ground.phase }, { on := 1, ground := Go.Ground.phase }, { on := 2, ground := Go.Ground.phase }, { on := 3, ground := Go.Ground.phase }, { on := 4, ground := Go.Ground.phase }], guard := none }) (v := .pointer (some ⟨P, 0, none⟩)) rfl rfl (by kernel_rfl) (by kernel_rfl) (by kernel_rfl) (by kernel_rfl) (fun _ _ _ h => h) (Or.inl ⟨by kernel_rfl, ?_⟩) rfl ?_
  · (intro X hX; subst hX <;> (go_simp; try (with_reducible rfl)))
  (try simp only [Act.put, List.setIfInBounds_toArray, List.set_cons_zero, List.set_cons_succ])
  refine wpAnyN_take (i := 2) (oi := { dst := some 5, op := Go.Op.fieldAddr 69 (Go.Operand.tmp 4) 0, type := 0, pos := "queue.go:22", after := #[{ on := 1, ground := Go.Ground.data }], guard := none }) (oL := { dst := none, op := Go.Op.store 78 (Go.Operand.tmp 8) (Go.Operand.tmp 7), type := 0, pos := "queue.go:22", after := #[{ on := 5, ground := Go.Ground.data }, { on := 4, ground := Go.Ground.data }, { on := 0, ground := Go.Ground.phase }, { on := 1, ground := Go.Ground.phase }, { on := 2, ground := Go.Ground.phase }, { on := 3, ground := Go.Ground.phase }, { on := 4, ground := Go.Ground.phase }], guard := none }) (v := .pointer (some ⟨P, 0, none⟩)) rfl rfl (by kernel_rfl) (by kernel_rfl) (by kernel_rfl) (by kernel_rfl) (fun _ _ _ h => h) (Or.inl ⟨by kernel_rfl, ?_⟩) rfl ?_
  · (intro X hX; subst hX <;> (go_simp; try (with_reducible rfl)))
  (try simp only [Act.put, List.setIfInBounds_toArray, List.set_cons_zero, List.set_cons_succ])
  refine wpAnyN_take (i := 3) (oi := { dst := some 6, op := Go.Op.load 67 (Go.Operand.tmp 5), type := 67, pos := "queue.go:22", after := #[{ on := 2, ground := Go.Ground.data }], guard := none }) (oL := { dst := none, op := Go.Op.store 78 (Go.Operand.tmp 8) (Go.Operand.tmp 7), type := 0, pos := "queue.go:22", after := #[{ on := 5, ground := Go.Ground.data }, { on := 4, ground := Go.Ground.data }, { on := 0, ground := Go.Ground.phase }, { on := 1, ground := Go.Ground.phase }, { on := 2, ground := Go.Ground.phase }, { on := 3, ground := Go.Ground.phase }, { on := 4, ground := Go.Ground.phase }], guard := none }) (v := .slice (some ⟨g, 0, none⟩) 1 c) rfl rfl (by kernel_rfl) (by kernel_rfl) (by kernel_rfl) (by kernel_rfl) (fun _ _ _ h => h) (Or.inl ⟨by kernel_rfl, ?_⟩) rfl ?_
  · (intro X hX; subst hX <;> (go_simp; try (with_reducible rfl)))
  (try simp only [Act.put, List.setIfInBounds_toArray, List.set_cons_zero, List.set_cons_succ])
  refine wpAnyN_take (i := 4) (oi := { dst := some 7, op := Go.Op.load 78 (Go.Operand.tmp 2), type := 78, pos := "queue.go:22", after := #[], guard := none }) (oL := { dst := none, op := Go.Op.store 78 (Go.Operand.tmp 8) (Go.Operand.tmp 7), type := 0, pos := "queue.go:22", after := #[{ on := 5, ground := Go.Ground.data }, { on := 4, ground := Go.Ground.data }, { on := 0, ground := Go.Ground.phase }, { on := 1, ground := Go.Ground.phase }, { on := 2, ground := Go.Ground.phase }, { on := 3, ground := Go.Ground.phase }, { on := 4, ground := Go.Ground.phase }], guard := none }) (v := .agg #[.string ⟨#[]⟩, .int .i64 0, .bool false, .bool false, .slice none 0 0]) rfl rfl (by kernel_rfl) (by kernel_rfl) (by kernel_rfl) (by kernel_rfl) (fun _ _ _ h => h) (Or.inl ⟨by kernel_rfl, ?_⟩) rfl ?_
  · (intro X hX; subst hX <;> (go_simp; try (with_reducible rfl)))
  (try simp only [Act.put, List.setIfInBounds_toArray, List.set_cons_zero, List.set_cons_succ])
  refine wpAnyN_take (i := 5) (oi := { dst := some 8, op := Go.Op.indexAddr 67 (Go.Operand.tmp 6) (Go.Operand.const (Go.Value.int Go.IntKind.i64 0)), type := 0, pos := "queue.go:22", after := #[{ on := 3, ground := Go.Ground.data }, { on := 0, ground := Go.Ground.phase }, { on := 1, ground := Go.Ground.phase }, { on := 2, ground := Go.Ground.phase }, { on := 3, ground := Go.Ground.phase }, { on := 4, ground := Go.Ground.phase }], guard := none }) (oL := { dst := none, op := Go.Op.store 78 (Go.Operand.tmp 8) (Go.Operand.tmp 7), type := 0, pos := "queue.go:22", after := #[{ on := 5, ground := Go.Ground.data }, { on := 4, ground := Go.Ground.data }, { on := 0, ground := Go.Ground.phase }, { on := 1, ground := Go.Ground.phase }, { on := 2, ground := Go.Ground.phase }, { on := 3, ground := Go.Ground.phase }, { on := 4, ground := Go.Ground.phase }], guard := none }) (v := .pointer (some ⟨g, 0, none⟩)) rfl rfl (by kernel_rfl) (by kernel_rfl) (by kernel_rfl) (by kernel_rfl) (fun _ _ _ h => h) (Or.inl ⟨by kernel_rfl, ?_⟩) rfl ?_
  · (intro X hX; subst hX <;> (go_simp; try (with_reducible rfl)))
  (try simp only [Act.put, List.setIfInBounds_toArray, List.set_cons_zero, List.set_cons_succ])
  refine wpAnyN_one (i := 6) (o := { dst := none, op := Go.Op.store 78 (Go.Operand.tmp 8) (Go.Operand.tmp 7), type := 0, pos := "queue.go:22", after := #[{ on := 5, ground := Go.Ground.data }, { on := 4, ground := Go.Ground.data }, { on := 0, ground := Go.Ground.phase }, { on := 1, ground := Go.Ground.phase }, { on := 2, ground := Go.Ground.phase }, { on := 3, ground := Go.Ground.phase }, { on := 4, ground := Go.Ground.phase }], guard := none }) (by kernel_rfl) rfl (fun K hK => ?_)
  go_simp
  refine hK.out _ _ (fun e => absurd (e.symm.trans (by kernel_rfl) : false = true) Bool.false_ne_true) ?_
  clear hK K
  (try simp only [Act.put, List.setIfInBounds_toArray, List.set_cons_zero, List.set_cons_succ])
  refine wpAnyN_of_H (S' := fun _ => True) _ _ _ _ (by kernel_rfl) ?_
  refine wpAnyH_done (by kernel_rfl) ?_ _
  go_upto_region 2 with fail
  clear z0 z1 z2 z3 z4 m0 k0 k1 k2 k3 k4 f0 f1 f2 f3 f4
  refine wp_gen (fun Z hZ => ?_)
  have sc : ∀ (X : World) (o : Nat) (u : Value), (X.setCell ⟨g, o, none⟩ u).heap[P]? = X.heap[P]? := fun X o u => Below.heap_setCell _ _ _ _ HN.out
  have zP : Z.heap[P]? = some (mirO (.slice (some ⟨g, 0, none⟩) 1 c) sel v n h rows was bg) := by
    rw [hZ]
    simp only [sc, World.drew]
    exact YP.out
  have zS : Stays [P, g] w Z := by
    rw [hZ]
    repeat (first | exact S0.out | apply Stays.drew | refine Stays.setCell ?_ (.inl (by simp)) _)
  have m0 := (mir_cells zP).c0
  have f0 := mir_fz zP 0
  have FIN : Hid (∀ x, Stays [P, g] w (Z.setCell ⟨P, 0, none⟩ x) ∧ ∃ q', (Z.setCell ⟨P, 0, none⟩ x).heap[P]? = some (mirO q' sel v n h rows was bg)) := Lib.hid (fun x => ⟨zS.setCell (.inl (by simp)) _, _, mir_set0 zP _⟩)
  clear hZ sc zP zS S0 YP HN
  have h1i : (1 : Int) ≤ (c : Int) := by omega
  go_wp2_with fail
  all_goals (
    first | refine bodyPost_end (results_none rfl _ _ _) rfl ?_ | refine bodyPost_ret (results_none rfl _ _ _) rfl ?_
    exact ⟨rfl, FIN.out _⟩)
end Go.Proofs.YtfcpmiafliegiaaDoor

/- mirror: a row as it was told. -/
import Derived.Test.YtlmlbcnjohjnlaaDoorP19a
import Derived.Test.YtlmlbcnjohjnlaaDoorP19b
import Derived.Test.YtlmlbcnjohjnlaaDoorN19q
namespace Go.Proofs.YtlmlbcnjohjnlaaDoor
open Go.RowKit

theorem isFn_fetched1 : IsFn 50 := fun _ _ => by kernel_rfl
theorem mir_set4 {W : World} {P : Nat} {q rows was : Value} {sel bg : Bool} {v n h : Int} (hM : W.heap[P]? = some (mirO q sel v n h rows was bg)) (x : Int) : (W.setCell ⟨P, 4, none⟩ (.int .i64 x)).heap[P]? = some (mirO q sel v n x rows was bg) := by
  unfold mirO mirC at hM ⊢
  rw [heap_setCell_at _ hM]
  rfl
def FtOut (P : Nat) (q : Value) (sel : Bool) (v n dh : Int) (rows was : Value) (bg : Bool) (rn : Nat) (rs : List RW) (w : World) (e : Ending) (w' : World) : Prop := e = .returned (.tuple #[]) ∧ Stays (P :: rows.ownBlock.toList) w w' ∧ w'.heap[P]? = some (mirO q sel v n dh rows was bg) ∧ RowAt w' 98 3 rows rn (rwL rs)
set_option maxRecDepth 20000 in
set_option maxHeartbeats 4000000 in
theorem fetched1_any (P D bp : Nat) (q : Value) (sel : Bool) (v n h : Int) (rows : Value) (rn : Nat) (was : Value) (bg : Bool) (rs : List RW) (du : Int) (dk : Bool) (fa : Option Addr) (fn fc : Nat) (i : Nat) (dh : Int) (w : World) (hM : w.heap[P]? = some (mirO q sel v n h rows was bg)) (hR : RowAt w 98 3 rows rn (rwL rs)) (hi : i < rn) (hn : rn ≤ 1000000) (hB : w.heap[bp]? = some (ppO P)) (hD : w.heap[D]? = some (dfO du dk (.slice fa fn fc) i dh)) :
    Calls Tryd.prog 50 #[.pointer (some ⟨D, 0, none⟩), .pointer (some ⟨bp, 0, none⟩)] w (FtOut P q sel v n dh rows was bg rn (rs.set i ⟨du, dk, .slice fa fn fc⟩) w) := by
  obtain ⟨g, o, rc, rfl, hcp, hgl, hcell⟩ := hR.cell (by omega)
  obtain ⟨cur, hg⟩ := hR.kind (b := g) rfl
  have hPg : P ≠ g := kind_ne hM hg (by decide)
  have hDg : D ≠ g := kind_ne hD hg (by decide)
  have hbg : bp ≠ g := kind_ne (by unfold ppO at hB; exact hB) hg (by decide)
  have hrl := hR.1
  rw [rwL_len] at hrl
  obtain ⟨r, hr⟩ : ∃ r, rs[i]? = some r := ⟨rs[i]'(by omega), List.getElem?_eq_getElem _⟩
  obtain ⟨l0, l1, l2⟩ := rwL_get rs i r hr
  have d0 : w.cell? ⟨g, o + i * 3, none⟩ = some (.int .i64 r.uid) := by rw [hcell _ (by omega)]; exact l0
  have d1 : w.cell? ⟨g, o + i * 3 + 1, none⟩ = some (.bool r.kn) := by rw [Nat.add_assoc, hcell _ (by omega)]; exact l1
  have d2 : w.cell? ⟨g, o + i * 3 + 2, none⟩ = some r.fv := by rw [Nat.add_assoc, hcell _ (by omega)]; exact l2
  have f0 := frozen_of hg (o + i * 3)
  have f1 := frozen_of hg (o + i * 3 + 1)
  have f2 := frozen_of hg (o + i * 3 + 2)
  obtain ⟨e0, e1, e2, e3, e4⟩ := df_cells hD
  have c5 := (mir_cells hM).c5
  have b0 : w.cell? ⟨bp, 0, none⟩ = some (.pointer (some ⟨P, 1, none⟩)) := by unfold ppO at hB; exact cell_of hB 0
  obtain ⟨W1, hW1⟩ : ∃ W1, ((w.setCell ⟨g, o + i * 3, none⟩ (.int .i64 du)).setCell ⟨g, o + i * 3 + 1, none⟩ (.bool dk)).setCell ⟨g, o + i * 3 + 2, none⟩ (.slice fa fn fc) = W1 := ⟨_, rfl⟩
  have sc : ∀ (X : World) (b o : Nat) (u : Value), b ≠ g → (X.setCell ⟨g, o, none⟩ u).heap[b]? = X.heap[b]? := fun X b o u hb => Below.heap_setCell _ _ _ _ hb
  have k1 : ∀ b, b ≠ g → W1.heap[b]? = w.heap[b]? := fun b hb => by rw [← hW1, sc _ _ _ _ hb, sc _ _ _ _ hb, sc _ _ _ _ hb]
  have hM1 := (k1 P hPg).trans hM
  have hD1 := (k1 D hDg).trans hD
  have hB1 := (k1 bp hbg).trans hB
  obtain ⟨x0, x1, x2, x3, x4⟩ := df_cells hD1
  have y4 := (mir_cells hM1).c4
  have y5 := (mir_cells hM1).c5
  have z4 := mir_fz hM1 4
  have y0 : W1.cell? ⟨bp, 0, none⟩ = some (.pointer (some ⟨P, 1, none⟩)) := by unfold ppO at hB1; exact cell_of hB1 0
  have hR1 : RowAt W1 98 3 (.slice (some ⟨g, o, none⟩) rn rc) rn (rwL (rs.set i ⟨du, dk, .slice fa fn fc⟩)) := by rw [← hW1]; exact hR.put3 hi ⟨du, dk, .slice fa fn fc⟩
  have hS1 : Stays [P, g] w W1 := by
    rw [← hW1]
    exact ((((Stays.refl [P, g] w).setCell (.inl (by simp)) _).setCell (.inl (by simp)) _).setCell (.inl (by simp)) _)
  have FIN : Hid (FtOut P q sel v n dh (.slice (some ⟨g, o, none⟩) rn rc) was bg rn (rs.set i ⟨du, dk, .slice fa fn fc⟩) w (.returned (.tuple #[])) (W1.setCell ⟨P, 4, none⟩ (.int .i64 dh))) := Lib.hid (by
    refine ⟨rfl, (hS1.setCell (.inl (by simp)) _).mono (fun b hb => ?_), mir_set4 hM1 dh, hR1.same (fun b e => Below.heap_setCell _ _ _ _ (fun e' => ?_))⟩
    · simp at hb
      rcases hb with rfl | rfl
      · simp
      · simp [Value.ownBlock]
    · have e1 : g = b := by injection e
      have e2 : b = P := e'
      exact hPg (e2.symm.trans e1.symm))
  have HW1 : Hid ((((w.setCell ⟨g, o + i * 3, none⟩ (.int .i64 du)).setCell ⟨g, o + i * 3 + 1, none⟩ (.bool dk)).setCell ⟨g, o + i * 3 + 2, none⟩ (.slice fa fn fc)).drew = W1.drew) := Lib.hid (by rw [← hW1])
  have hi0 : (0 : Int) ≤ (i : Int) := by omega
  have hin : (i : Int) < (rn : Int) := by omega
  clear hM hR hB hD hcp hgl hcell hg hPg hDg hbg hrl hr l0 l1 l2 hW1 sc k1 hM1 hD1 hB1 hR1 hS1 hn
  go_enter Tryd.func50, Tryd.ntmps50
  go_wp2_with fail
  refine wp_region_N 15 (fun X => X = w.drew ∨ X = W1.drew) (by kernel_rfl) ?_
  refine wpAnyN_take (i := 0) (oi := { dst := some 2, op := Go.Op.load 96 (Go.Operand.tmp 1), type := 96, pos := "fetched.go:28", after := #[], guard := none }) (oL := { dst := none, op := Go.Op.store 3 (Go.Operand.tmp 15) (Go.Operand.tmp 12), type := 0, pos := "fetched.go:28", after := #[{ on := 14, ground := Go.Ground.data }, { on := 10, ground := Go.Ground.data }, { on := 12, ground := Go.Ground.chain }, { on := 0, ground := Go.Ground.phase }, { on := 1, ground := Go.Ground.phase }, { on := 2, ground := Go.Ground.phase }, { on := 3, ground := Go.Ground.phase }, { on := 4, ground := Go.Ground.phase }, { on := 5, ground := Go.Ground.phase }, { on := 6, ground := Go.Ground.phase }, { on := 7, ground := Go.Ground.phase }, { on := 8, ground := Go.Ground.phase }, { on := 9, ground := Go.Ground.phase }, { on := 10, ground := Go.Ground.phase }, { on := 11, ground := Go.Ground.phase }, { on := 12, ground := Go.Ground.phase }], guard := none }) (v := .pointer (some ⟨P, 1, none⟩)) rfl rfl (by kernel_rfl) (by kernel_rfl) (by kernel_rfl) (by kernel_rfl) (fun _ _ _ h => h) (Or.inl ⟨by kernel_rfl, ?_⟩) (.inl rfl) ?_
  · (intro X hX; rcases hX with rfl | rfl <;> (go_simp; try (with_reducible rfl)))
  (try simp only [Act.put, List.setIfInBounds_toArray, List.set_cons_zero, List.set_cons_succ])
  refine wpAnyN_take (i := 1) (oi := { dst := some 3, op := Go.Op.nilCheck (Go.Operand.tmp 2), type := 0, pos := "fetched.go:28", after := #[{ on := 0, ground := Go.Ground.data }], guard := none }) (oL := { dst := none, op := Go.Op.store 3 (Go.Operand.tmp 15) (Go.Operand.tmp 12), type := 0, pos := "fetched.go:28", after := #[{ on := 14, ground := Go.Ground.data }, { on := 10, ground := Go.Ground.data }, { on := 12, ground := Go.Ground.chain }, { on := 0, ground := Go.Ground.phase }, { on := 1, ground := Go.Ground.phase }, { on := 2, ground := Go.Ground.phase }, { on := 3, ground := Go.Ground.phase }, { on := 4, ground := Go.Ground.phase }, { on := 5, ground := Go.Ground.phase }, { on := 6, ground := Go.Ground.phase }, { on := 7, ground := Go.Ground.phase }, { on := 8, ground := Go.Ground.phase }, { on := 9, ground := Go.Ground.phase }, { on := 10, ground := Go.Ground.phase }, { on := 11, ground := Go.Ground.phase }, { on := 12, ground := Go.Ground.phase }], guard := none }) (v := .pointer (some ⟨P, 1, none⟩)) rfl rfl (by kernel_rfl) (by kernel_rfl) (by kernel_rfl) (by kernel_rfl) (fun _ _ _ h => h) (Or.inl ⟨by kernel_rfl, ?_⟩) (.inl rfl) ?_
  · (intro X hX; rcases hX with rfl | rfl <;> (go_simp; try (with_reducible rfl)))
  (try simp only [Act.put, List.setIfInBounds_toArray, List.set_cons_zero, List.set_cons_succ])
  refine wpAnyN_take (i := 2) (oi := { dst := some 4, op := Go.Op.fieldAddr 73 (Go.Operand.tmp 3) 4, type := 0, pos := "fetched.go:28", after := #[{ on := 1, ground := Go.Ground.data }], guard := none }) (oL := { dst := none, op := Go.Op.store 3 (Go.Operand.tmp 15) (Go.Operand.tmp 12), type := 0, pos := "fetched.go:28", after := #[{ on := 14, ground := Go.Ground.data }, { on := 10, ground := Go.Ground.data }, { on := 12, ground := Go.Ground.chain }, { on := 0, ground := Go.Ground.phase }, { on := 1, ground := Go.Ground.phase }, { on := 2, ground := Go.Ground.phase }, { on := 3, ground := Go.Ground.phase }, { on := 4, ground := Go.Ground.phase }, { on := 5, ground := Go.Ground.phase }, { on := 6, ground := Go.Ground.phase }, { on := 7, ground := Go.Ground.phase }, { on := 8, ground := Go.Ground.phase }, { on := 9, ground := Go.Ground.phase }, { on := 10, ground := Go.Ground.phase }, { on := 11, ground := Go.Ground.phase }, { on := 12, ground := Go.Ground.phase }], guard := none }) (v := .pointer (some ⟨P, 5, none⟩)) rfl rfl (by kernel_rfl) (by kernel_rfl) (by kernel_rfl) (by kernel_rfl) (fun _ _ _ h => h) (Or.inl ⟨by kernel_rfl, ?_⟩) (.inl rfl) ?_
  · (intro X hX; rcases hX with rfl | rfl <;> (go_simp; try (with_reducible rfl)))
  (try simp only [Act.put, List.setIfInBounds_toArray, List.set_cons_zero, List.set_cons_succ])
  refine wpAnyN_take (i := 3) (oi := { dst := some 5, op := Go.Op.load 70 (Go.Operand.tmp 4), type := 70, pos := "fetched.go:28", after := #[{ on := 2, ground := Go.Ground.data }], guard := none }) (oL := { dst := none, op := Go.Op.store 3 (Go.Operand.tmp 15) (Go.Operand.tmp 12), type := 0, pos := "fetched.go:28", after := #[{ on := 14, ground := Go.Ground.data }, { on := 10, ground := Go.Ground.data }, { on := 12, ground := Go.Ground.chain }, { on := 0, ground := Go.Ground.phase }, { on := 1, ground := Go.Ground.phase }, { on := 2, ground := Go.Ground.phase }, { on := 3, ground := Go.Ground.phase }, { on := 4, ground := Go.Ground.phase }, { on := 5, ground := Go.Ground.phase }, { on := 6, ground := Go.Ground.phase }, { on := 7, ground := Go.Ground.phase }, { on := 8, ground := Go.Ground.phase }, { on := 9, ground := Go.Ground.phase }, { on := 10, ground := Go.Ground.phase }, { on := 11, ground := Go.Ground.phase }, { on := 12, ground := Go.Ground.phase }], guard := none }) (v := .slice (some ⟨g, o, none⟩) rn rc) rfl rfl (by kernel_rfl) (by kernel_rfl) (by kernel_rfl) (by kernel_rfl) (fun _ _ _ h => h) (Or.inl ⟨by kernel_rfl, ?_⟩) (.inl rfl) ?_
  · (intro X hX; rcases hX with rfl | rfl <;> (go_simp; try (with_reducible rfl)))
  (try simp only [Act.put, List.setIfInBounds_toArray, List.set_cons_zero, List.set_cons_succ])
  refine wpAnyN_take (i := 4) (oi := { dst := some 6, op := Go.Op.fieldAddr 105 (Go.Operand.tmp 0) 1, type := 0, pos := "fetched.go:28", after := #[], guard := none }) (oL := { dst := none, op := Go.Op.store 3 (Go.Operand.tmp 15) (Go.Operand.tmp 12), type := 0, pos := "fetched.go:28", after := #[{ on := 14, ground := Go.Ground.data }, { on := 10, ground := Go.Ground.data }, { on := 12, ground := Go.Ground.chain }, { on := 0, ground := Go.Ground.phase }, { on := 1, ground := Go.Ground.phase }, { on := 2, ground := Go.Ground.phase }, { on := 3, ground := Go.Ground.phase }, { on := 4, ground := Go.Ground.phase }, { on := 5, ground := Go.Ground.phase }, { on := 6, ground := Go.Ground.phase }, { on := 7, ground := Go.Ground.phase }, { on := 8, ground := Go.Ground.phase }, { on := 9, ground := Go.Ground.phase }, { on := 10, ground := Go.Ground.phase }, { on := 11, ground := Go.Ground.phase }, { on := 12, ground := Go.Ground.phase }], guard := none }) (v := .pointer (some ⟨D, 3, none⟩)) rfl rfl (by kernel_rfl) (by kernel_rfl) (by kernel_rfl) (by kernel_rfl) (fun _ _ _ h => h) (Or.inl ⟨by kernel_rfl, ?_⟩) (.inl rfl) ?_
  · (intro X hX; rcases hX with rfl | rfl <;> (go_simp; try (with_reducible rfl)))
  (try simp only [Act.put, List.setIfInBounds_toArray, List.set_cons_zero, List.set_cons_succ])
  refine wpAnyN_take (i := 5) (oi := { dst := some 7, op := Go.Op.load 3 (Go.Operand.tmp 6), type := 3, pos := "fetched.go:28", after := #[{ on := 4, ground := Go.Ground.data }], guard := none }) (oL := { dst := none, op := Go.Op.store 3 (Go.Operand.tmp 15) (Go.Operand.tmp 12), type := 0, pos := "fetched.go:28", after := #[{ on := 14, ground := Go.Ground.data }, { on := 10, ground := Go.Ground.data }, { on := 12, ground := Go.Ground.chain }, { on := 0, ground := Go.Ground.phase }, { on := 1, ground := Go.Ground.phase }, { on := 2, ground := Go.Ground.phase }, { on := 3, ground := Go.Ground.phase }, { on := 4, ground := Go.Ground.phase }, { on := 5, ground := Go.Ground.phase }, { on := 6, ground := Go.Ground.phase }, { on := 7, ground := Go.Ground.phase }, { on := 8, ground := Go.Ground.phase }, { on := 9, ground := Go.Ground.phase }, { on := 10, ground := Go.Ground.phase }, { on := 11, ground := Go.Ground.phase }, { on := 12, ground := Go.Ground.phase }], guard := none }) (v := .int .i64 (i : Int)) rfl rfl (by kernel_rfl) (by kernel_rfl) (by kernel_rfl) (by kernel_rfl) (fun _ _ _ h => h) (Or.inl ⟨by kernel_rfl, ?_⟩) (.inl rfl) ?_
  · (intro X hX; rcases hX with rfl | rfl <;> (go_simp; try (with_reducible rfl)))
  (try simp only [Act.put, List.setIfInBounds_toArray, List.set_cons_zero, List.set_cons_succ])
  refine wpAnyN_take (i := 6) (oi := { dst := some 8, op := Go.Op.load 96 (Go.Operand.tmp 1), type := 96, pos := "fetched.go:28", after := #[], guard := none }) (oL := { dst := none, op := Go.Op.store 3 (Go.Operand.tmp 15) (Go.Operand.tmp 12), type := 0, pos := "fetched.go:28", after := #[{ on := 14, ground := Go.Ground.data }, { on := 10, ground := Go.Ground.data }, { on := 12, ground := Go.Ground.chain }, { on := 0, ground := Go.Ground.phase }, { on := 1, ground := Go.Ground.phase }, { on := 2, ground := Go.Ground.phase }, { on := 3, ground := Go.Ground.phase }, { on := 4, ground := Go.Ground.phase }, { on := 5, ground := Go.Ground.phase }, { on := 6, ground := Go.Ground.phase }, { on := 7, ground := Go.Ground.phase }, { on := 8, ground := Go.Ground.phase }, { on := 9, ground := Go.Ground.phase }, { on := 10, ground := Go.Ground.phase }, { on := 11, ground := Go.Ground.phase }, { on := 12, ground := Go.Ground.phase }], guard := none }) (v := .pointer (some ⟨P, 1, none⟩)) rfl rfl (by kernel_rfl) (by kernel_rfl) (by kernel_rfl) (by kernel_rfl) (fun _ _ _ h => h) (Or.inl ⟨by kernel_rfl, ?_⟩) (.inl rfl) ?_
  · (intro X hX; rcases hX with rfl | rfl <;> (go_simp; try (with_reducible rfl)))
  (try simp only [Act.put, List.setIfInBounds_toArray, List.set_cons_zero, List.set_cons_succ])
  refine wpAnyN_take (i := 7) (oi := { dst := some 9, op := Go.Op.fieldAddr 105 (Go.Operand.tmp 0) 0, type := 0, pos := "fetched.go:28", after := #[], guard := none }) (oL := { dst := none, op := Go.Op.store 3 (Go.Operand.tmp 15) (Go.Operand.tmp 12), type := 0, pos := "fetched.go:28", after := #[{ on := 14, ground := Go.Ground.data }, { on := 10, ground := Go.Ground.data }, { on := 12, ground := Go.Ground.chain }, { on := 0, ground := Go.Ground.phase }, { on := 1, ground := Go.Ground.phase }, { on := 2, ground := Go.Ground.phase }, { on := 3, ground := Go.Ground.phase }, { on := 4, ground := Go.Ground.phase }, { on := 5, ground := Go.Ground.phase }, { on := 6, ground := Go.Ground.phase }, { on := 7, ground := Go.Ground.phase }, { on := 8, ground := Go.Ground.phase }, { on := 9, ground := Go.Ground.phase }, { on := 10, ground := Go.Ground.phase }, { on := 11, ground := Go.Ground.phase }, { on := 12, ground := Go.Ground.phase }], guard := none }) (v := .pointer (some ⟨D, 0, none⟩)) rfl rfl (by kernel_rfl) (by kernel_rfl) (by kernel_rfl) (by kernel_rfl) (fun _ _ _ h => h) (Or.inl ⟨by kernel_rfl, ?_⟩) (.inl rfl) ?_
  · (intro X hX; rcases hX with rfl | rfl <;> (go_simp; try (with_reducible rfl)))
  (try simp only [Act.put, List.setIfInBounds_toArray, List.set_cons_zero, List.set_cons_succ])
  refine wpAnyN_take (i := 8) (oi := { dst := some 10, op := Go.Op.load 98 (Go.Operand.tmp 9), type := 98, pos := "fetched.go:28", after := #[{ on := 7, ground := Go.Ground.data }], guard := none }) (oL := { dst := none, op := Go.Op.store 3 (Go.Operand.tmp 15) (Go.Operand.tmp 12), type := 0, pos := "fetched.go:28", after := #[{ on := 14, ground := Go.Ground.data }, { on := 10, ground := Go.Ground.data }, { on := 12, ground := Go.Ground.chain }, { on := 0, ground := Go.Ground.phase }, { on := 1, ground := Go.Ground.phase }, { on := 2, ground := Go.Ground.phase }, { on := 3, ground := Go.Ground.phase }, { on := 4, ground := Go.Ground.phase }, { on := 5, ground := Go.Ground.phase }, { on := 6, ground := Go.Ground.phase }, { on := 7, ground := Go.Ground.phase }, { on := 8, ground := Go.Ground.phase }, { on := 9, ground := Go.Ground.phase }, { on := 10, ground := Go.Ground.phase }, { on := 11, ground := Go.Ground.phase }, { on := 12, ground := Go.Ground.phase }], guard := none }) (v := .agg #[.int .i64 du, .bool dk, .slice fa fn fc]) rfl rfl (by kernel_rfl) (by kernel_rfl) (by kernel_rfl) (by kernel_rfl) (fun _ _ _ h => h) (Or.inl ⟨by kernel_rfl, ?_⟩) (.inl rfl) ?_
  · (intro X hX; rcases hX with rfl | rfl <;> (go_simp; try (with_reducible rfl)))
  (try simp only [Act.put, List.setIfInBounds_toArray, List.set_cons_zero, List.set_cons_succ])
  refine wpAnyN_take (i := 9) (oi := { dst := some 11, op := Go.Op.fieldAddr 105 (Go.Operand.tmp 0) 2, type := 0, pos := "fetched.go:28", after := #[], guard := none }) (oL := { dst := none, op := Go.Op.store 3 (Go.Operand.tmp 15) (Go.Operand.tmp 12), type := 0, pos := "fetched.go:28", after := #[{ on := 14, ground := Go.Ground.data }, { on := 10, ground := Go.Ground.data }, { on := 12, ground := Go.Ground.chain }, { on := 0, ground := Go.Ground.phase }, { on := 1, ground := Go.Ground.phase }, { on := 2, ground := Go.Ground.phase }, { on := 3, ground := Go.Ground.phase }, { on := 4, ground := Go.Ground.phase }, { on := 5, ground := Go.Ground.phase }, { on := 6, ground := Go.Ground.phase }, { on := 7, ground := Go.Ground.phase }, { on := 8, ground := Go.Ground.phase }, { on := 9, ground := Go.Ground.phase }, { on := 10, ground := Go.Ground.phase }, { on := 11, ground := Go.Ground.phase }, { on := 12, ground := Go.Ground.phase }], guard := none }) (v := .pointer (some ⟨D, 4, none⟩)) rfl rfl (by kernel_rfl) (by kernel_rfl) (by kernel_rfl) (by kernel_rfl) (fun _ _ _ h => h) (Or.inl ⟨by kernel_rfl, ?_⟩) (.inl rfl) ?_
  · (intro X hX; rcases hX with rfl | rfl <;> (go_simp; try (with_reducible rfl)))
  (try simp only [Act.put, List.setIfInBounds_toArray, List.set_cons_zero, List.set_cons_succ])
  refine wpAnyN_take (i := 10) (oi := { dst := some 12, op := Go.Op.load 3 (Go.Operand.tmp 11), type := 3, pos := "fetched.go:28", after := #[{ on := 9, ground := Go.Ground.data }], guard := none }) (oL := { dst := none, op := Go.Op.store 3 (Go.Operand.tmp 15) (Go.Operand.tmp 12), type := 0, pos := "fetched.go:28", after := #[{ on := 14, ground := Go.Ground.data }, { on := 10, ground := Go.Ground.data }, { on := 12, ground := Go.Ground.chain }, { on := 0, ground := Go.Ground.phase }, { on := 1, ground := Go.Ground.phase }, { on := 2, ground := Go.Ground.phase }, { on := 3, ground := Go.Ground.phase }, { on := 4, ground := Go.Ground.phase }, { on := 5, ground := Go.Ground.phase }, { on := 6, ground := Go.Ground.phase }, { on := 7, ground := Go.Ground.phase }, { on := 8, ground := Go.Ground.phase }, { on := 9, ground := Go.Ground.phase }, { on := 10, ground := Go.Ground.phase }, { on := 11, ground := Go.Ground.phase }, { on := 12, ground := Go.Ground.phase }], guard := none }) (v := .int .i64 dh) rfl rfl (by kernel_rfl) (by kernel_rfl) (by kernel_rfl) (by kernel_rfl) (fun _ _ _ h => h) (Or.inl ⟨by kernel_rfl, ?_⟩) (.inl rfl) ?_
  · (intro X hX; rcases hX with rfl | rfl <;> (go_simp; try (with_reducible rfl)))
  (try simp only [Act.put, List.setIfInBounds_toArray, List.set_cons_zero, List.set_cons_succ])
  refine wpAnyN_take (i := 11) (oi := { dst := some 13, op := Go.Op.indexAddr 70 (Go.Operand.tmp 5) (Go.Operand.tmp 7), type := 0, pos := "fetched.go:28", after := #[{ on := 3, ground := Go.Ground.data }, { on := 5, ground := Go.Ground.data }, { on := 0, ground := Go.Ground.phase }, { on := 1, ground := Go.Ground.phase }, { on := 2, ground := Go.Ground.phase }, { on := 3, ground := Go.Ground.phase }, { on := 4, ground := Go.Ground.phase }, { on := 5, ground := Go.Ground.phase }, { on := 6, ground := Go.Ground.textOnly Go.Departure.inlinedCapture }, { on := 7, ground := Go.Ground.phase }, { on := 8, ground := Go.Ground.phase }, { on := 9, ground := Go.Ground.textOnly Go.Departure.lateStores }, { on := 10, ground := Go.Ground.phase }], guard := none }) (oL := { dst := none, op := Go.Op.store 3 (Go.Operand.tmp 15) (Go.Operand.tmp 12), type := 0, pos := "fetched.go:28", after := #[{ on := 14, ground := Go.Ground.data }, { on := 10, ground := Go.Ground.data }, { on := 12, ground := Go.Ground.chain }, { on := 0, ground := Go.Ground.phase }, { on := 1, ground := Go.Ground.phase }, { on := 2, ground := Go.Ground.phase }, { on := 3, ground := Go.Ground.phase }, { on := 4, ground := Go.Ground.phase }, { on := 5, ground := Go.Ground.phase }, { on := 6, ground := Go.Ground.phase }, { on := 7, ground := Go.Ground.phase }, { on := 8, ground := Go.Ground.phase }, { on := 9, ground := Go.Ground.phase }, { on := 10, ground := Go.Ground.phase }, { on := 11, ground := Go.Ground.phase }, { on := 12, ground := Go.Ground.phase }], guard := none }) (v := .pointer (some ⟨g, o + i * 3, none⟩)) rfl rfl (by kernel_rfl) (by kernel_rfl) (by kernel_rfl) (by kernel_rfl) (fun _ _ _ h => h) (Or.inl ⟨by kernel_rfl, ?_⟩) (.inl rfl) ?_
  · (intro X hX; rcases hX with rfl | rfl <;> (go_simp; try (with_reducible rfl)))
  (try simp only [Act.put, List.setIfInBounds_toArray, List.set_cons_zero, List.set_cons_succ])
  refine wpAnyN_one (i := 12) (o := { dst := none, op := Go.Op.store 98 (Go.Operand.tmp 13) (Go.Operand.tmp 10), type := 0, pos := "fetched.go:28", after := #[{ on := 11, ground := Go.Ground.data }, { on := 8, ground := Go.Ground.data }, { on := 0, ground := Go.Ground.phase }, { on := 1, ground := Go.Ground.phase }, { on := 2, ground := Go.Ground.phase }, { on := 3, ground := Go.Ground.phase }, { on := 4, ground := Go.Ground.phase }, { on := 5, ground := Go.Ground.phase }, { on := 6, ground := Go.Ground.textOnly Go.Departure.inlinedCapture }, { on := 7, ground := Go.Ground.phase }, { on := 8, ground := Go.Ground.phase }, { on := 9, ground := Go.Ground.textOnly Go.Departure.lateStores }, { on := 10, ground := Go.Ground.phase }], guard := none }) (by kernel_rfl) rfl (fun K hK => ?_)
  go_simp
  refine hK.out _ _ (fun _ => (.inr HW1.out)) ?_
  clear hK K
  (try simp only [Act.put, List.setIfInBounds_toArray, List.set_cons_zero, List.set_cons_succ])
  refine wpAnyN_take (i := 13) (oi := { dst := some 14, op := Go.Op.nilCheck (Go.Operand.tmp 8), type := 0, pos := "fetched.go:28", after := #[{ on := 6, ground := Go.Ground.data }, { on := 0, ground := Go.Ground.phase }, { on := 1, ground := Go.Ground.phase }, { on := 2, ground := Go.Ground.phase }, { on := 3, ground := Go.Ground.phase }, { on := 4, ground := Go.Ground.phase }, { on := 5, ground := Go.Ground.phase }, { on := 6, ground := Go.Ground.phase }, { on := 7, ground := Go.Ground.phase }, { on := 8, ground := Go.Ground.phase }, { on := 9, ground := Go.Ground.phase }, { on := 10, ground := Go.Ground.phase }, { on := 11, ground := Go.Ground.phase }, { on := 12, ground := Go.Ground.phase }], guard := none }) (oL := { dst := none, op := Go.Op.store 3 (Go.Operand.tmp 15) (Go.Operand.tmp 12), type := 0, pos := "fetched.go:28", after := #[{ on := 14, ground := Go.Ground.data }, { on := 10, ground := Go.Ground.data }, { on := 12, ground := Go.Ground.chain }, { on := 0, ground := Go.Ground.phase }, { on := 1, ground := Go.Ground.phase }, { on := 2, ground := Go.Ground.phase }, { on := 3, ground := Go.Ground.phase }, { on := 4, ground := Go.Ground.phase }, { on := 5, ground := Go.Ground.phase }, { on := 6, ground := Go.Ground.phase }, { on := 7, ground := Go.Ground.phase }, { on := 8, ground := Go.Ground.phase }, { on := 9, ground := Go.Ground.phase }, { on := 10, ground := Go.Ground.phase }, { on := 11, ground := Go.Ground.phase }, { on := 12, ground := Go.Ground.phase }], guard := none }) (v := .pointer (some ⟨P, 1, none⟩)) rfl rfl (by kernel_rfl) (by kernel_rfl) (by kernel_rfl) (by kernel_rfl) (fun _ _ _ h => h) (Or.inl ⟨by kernel_rfl, ?_⟩) (.inr HW1.out) ?_
  · (intro X hX; rcases hX with rfl | rfl <;> (go_simp; try (with_reducible rfl)))
  (try simp only [Act.put, List.setIfInBounds_toArray, List.set_cons_zero, List.set_cons_succ])
  refine wpAnyN_take (i := 14) (oi := { dst := some 15, op := Go.Op.fieldAddr 73 (Go.Operand.tmp 14) 3, type := 0, pos := "fetched.go:28", after := #[{ on := 13, ground := Go.Ground.data }, { on := 0, ground := Go.Ground.phase }, { on := 1, ground := Go.Ground.phase }, { on := 2, ground := Go.Ground.phase }, { on := 3, ground := Go.Ground.phase }, { on := 4, ground := Go.Ground.phase }, { on := 5, ground := Go.Ground.phase }, { on := 6, ground := Go.Ground.phase }, { on := 7, ground := Go.Ground.phase }, { on := 8, ground := Go.Ground.phase }, { on := 9, ground := Go.Ground.phase }, { on := 10, ground := Go.Ground.phase }, { on := 11, ground := Go.Ground.phase }, { on := 12, ground := Go.Ground.phase }], guard := none }) (oL := { dst := none, op := Go.Op.store 3 (Go.Operand.tmp 15) (Go.Operand.tmp 12), type := 0, pos := "fetched.go:28", after := #[{ on := 14, ground := Go.Ground.data }, { on := 10, ground := Go.Ground.data }, { on := 12, ground := Go.Ground.chain }, { on := 0, ground := Go.Ground.phase }, { on := 1, ground := Go.Ground.phase }, { on := 2, ground := Go.Ground.phase }, { on := 3, ground := Go.Ground.phase }, { on := 4, ground := Go.Ground.phase }, { on := 5, ground := Go.Ground.phase }, { on := 6, ground := Go.Ground.phase }, { on := 7, ground := Go.Ground.phase }, { on := 8, ground := Go.Ground.phase }, { on := 9, ground := Go.Ground.phase }, { on := 10, ground := Go.Ground.phase }, { on := 11, ground := Go.Ground.phase }, { on := 12, ground := Go.Ground.phase }], guard := none }) (v := .pointer (some ⟨P, 4, none⟩)) rfl rfl (by kernel_rfl) (by kernel_rfl) (by kernel_rfl) (by kernel_rfl) (fun _ _ _ h => h) (Or.inl ⟨by kernel_rfl, ?_⟩) (.inr HW1.out) ?_
  · (intro X hX; rcases hX with rfl | rfl <;> (go_simp; try (with_reducible rfl)))
  (try simp only [Act.put, List.setIfInBounds_toArray, List.set_cons_zero, List.set_cons_succ])
  refine wpAnyN_one (i := 15) (o := { dst := none, op := Go.Op.store 3 (Go.Operand.tmp 15) (Go.Operand.tmp 12), type := 0, pos := "fetched.go:28", after := #[{ on := 14, ground := Go.Ground.data }, { on := 10, ground := Go.Ground.data }, { on := 12, ground := Go.Ground.chain }, { on := 0, ground := Go.Ground.phase }, { on := 1, ground := Go.Ground.phase }, { on := 2, ground := Go.Ground.phase }, { on := 3, ground := Go.Ground.phase }, { on := 4, ground := Go.Ground.phase }, { on := 5, ground := Go.Ground.phase }, { on := 6, ground := Go.Ground.phase }, { on := 7, ground := Go.Ground.phase }, { on := 8, ground := Go.Ground.phase }, { on := 9, ground := Go.Ground.phase }, { on := 10, ground := Go.Ground.phase }, { on := 11, ground := Go.Ground.phase }, { on := 12, ground := Go.Ground.phase }], guard := none }) (by kernel_rfl) rfl (fun K hK => ?_)
  rw [HW1.out]
  go_simp
  refine hK.out _ _ (fun e => absurd (e.symm.trans (by kernel_rfl) : false = true) Bool.false_ne_true) ?_
  clear hK K
  (try simp only [Act.put, List.setIfInBounds_toArray, List.set_cons_zero, List.set_cons_succ])
  refine wpAnyN_of_H (S' := fun _ => True) _ _ _ _ (by kernel_rfl) ?_
  refine wpAnyH_done (by kernel_rfl) ?_ _
  go_wp2_with fail
  first | refine bodyPost_end (results_none rfl _ _ _) rfl ?_ | refine bodyPost_ret (results_none rfl _ _ _) rfl ?_
  have q := FIN.out
  first | exact q | exact ⟨q.1, q.2.1.drew, q.2.2⟩
end Go.Proofs.YtlmlbcnjohjnlaaDoor

/- mirror: what a FETCH changes. -/
namespace Go.Proofs.YtlmlbcnjohjnlaaDoor
open Go.RowKit

def learnAll (M : PM) (i : Nat) : PD → List (ByteArray × PV) → Option PD
  | d, [] => some d
  | d, x :: l => match learnD M i d x with
    | none => none
    | some d' => learnAll M i d' l
def putD (i : Nat) (d : PD) (N : PM) : PM := { N with rows := N.rows.set i d.r, h := d.h }
def fetF (M : PM) (num : Int) (data : List (ByteArray × PV)) : Option (PM → PM) :=
  if telM M = false ∨ hasM M num = false then none
  else (learnAll M (num - 1).toNat ⟨M.rows.getD (num - 1).toNat PR0, M.h⟩ data).map (putD (num - 1).toNat)
/-- An answer's data in memory. -/
def DataA (X : World) (dv : Value) (data : List (ByteArray × PV)) : Prop := ∃ a c, dv = .slice a data.length c ∧ data.length ≤ 1000000 ∧ (0 < data.length → ∃ g o, a = some ⟨g, o, none⟩ ∧ g < X.heap.size ∧ ∀ j x, data[j]? = some x → ∃ t ka kn kc, X.cell? ⟨g, o + j * 5, none⟩ = some (.string x.1) ∧ X.cell? ⟨g, o + j * 5 + 1, none⟩ = some (.int .i64 x.2.k) ∧ X.cell? ⟨g, o + j * 5 + 2, none⟩ = some (.int .i64 x.2.n) ∧ X.cell? ⟨g, o + j * 5 + 3, none⟩ = some (.string t) ∧ X.cell? ⟨g, o + j * 5 + 4, none⟩ = some (.slice ka kn kc) ∧ KidsA X (.slice ka kn kc) x.2.kids)
theorem DataA.on {X X' : World} {dv : Value} {data : List (ByteArray × PV)} (h : DataA X dv data) (hb : Below X.heap.size X X') : DataA X' dv data := by
  obtain ⟨a, c, e, hl, h⟩ := h
  refine ⟨a, c, e, hl, fun h0 => ?_⟩
  obtain ⟨g, o, e, hg, hc⟩ := h h0
  refine ⟨g, o, e, Nat.lt_of_lt_of_le hg hb.size, fun j x hx => ?_⟩
  obtain ⟨t, ka, kn, kc, c0, c1, c2, c3, c4, hk⟩ := hc j x hx
  exact ⟨t, ka, kn, kc, by rw [hb.cell (p := ⟨g, o + j * 5, none⟩) hg]; exact c0, by rw [hb.cell (p := ⟨g, o + j * 5 + 1, none⟩) hg]; exact c1, by rw [hb.cell (p := ⟨g, o + j * 5 + 2, none⟩) hg]; exact c2, by rw [hb.cell (p := ⟨g, o + j * 5 + 3, none⟩) hg]; exact c3, by rw [hb.cell (p := ⟨g, o + j * 5 + 4, none⟩) hg]; exact c4, hk.on hb⟩
theorem DrIn.bel {fr : List Nat} {B D : Nat} {i : Int} {d : PD} {X X' : World} (h : DrIn fr B D i d X) (hb : Below X.heap.size X X') (hlt : ∀ b, b ∈ fr → b < X.heap.size) : DrIn fr B D i d X' := by
  obtain ⟨fv, h1, h2⟩ := h
  refine ⟨fv, bel_at hb (lt_of_heap h1) h1, ?_⟩
  rcases h2 with h2 | h2
  · exact .inl (h2.on (fun b e => hb.block b (hlt b e)) (fun _ e => e))
  · exact .inr (h2.ks (KeepS.below hb))
theorem stays_below {B D : Nat} {w Z X : World} (hb : Below B w Z) (hs : Stays [D] Z X) (hD : B ≤ D) (hB : B ≤ w.heap.size) : Below B w X :=
  ⟨hs.os.trans hb.os, hs.tape.trans hb.tape, hs.output.trans hb.output, Nat.le_trans hb.size hs.size, fun b h => by rw [hs.block b (Nat.lt_of_lt_of_le h (Nat.le_trans hB hb.size)) (fun e => by simp at e; omega), hb.block b h]⟩
theorem Tryd.sizeDt : (Tryd.prog.info? 66).map (·.size) = some 5 := by kernel_rfl
/-- As far as j data. -/
structure FeT (fr : List Nat) (M : PM) (B D i : Nat) (d0 : PD) (data : List (ByteArray × PV)) (Z : World) (j : Nat) (d : PD) (X : World) : Prop where
  st : Stays [D] Z X
  dr : DrIn fr B D i d X
  ln : learnAll M i d0 data = learnAll M i d (data.drop j)
set_option maxRecDepth 20000 in
set_option maxHeartbeats 4000000 in
theorem fetched_tel (P : Nat) (fr : List Nat) (M : PM) (a : AN) (w : World) (h : MAt P fr M w) (hq : M.q.length ≤ 1000000) (htel : telM M = false) : Calls Tryd.prog 34 #[.pointer (some ⟨P, 0, none⟩), .agg (anC a)] w (ChgOut P fr M none w) := by
  have q2 := two_below w (anO a) (ppO P)
  obtain ⟨Y, hY⟩ : ∃ Y, (w.alloc (anO a)).alloc (ppO P) = Y := ⟨_, rfl⟩
  have hz : Y.heap.size = w.heap.size + 1 + 1 := by rw [← hY]; simp
  rw [hY] at q2
  have r0 : Y.heap[w.heap.size]? = some (anO a) := by rw [← hY, Below.heap_alloc _ _ _ (by simp)]; exact heap_new _ _
  have r1 : Y.heap[w.heap.size + 1]? = some (ppO P) := by rw [← hY]; have := heap_new (w.alloc (anO a)) (ppO P); rw [show (w.alloc (anO a)).heap.size = w.heap.size + 1 from by simp] at this; exact this
  have HXA : Hid (∀ X, Below Y.heap.size Y X → X.cell? ⟨w.heap.size, 6, none⟩ = some (.int .i64 a.num) ∧ X.cell? ⟨w.heap.size + 1, 0, none⟩ = some (.pointer (some ⟨P, 1, none⟩))) := Lib.hid (fun X hX => by
    refine ⟨(an_cells (bel_at hX (by omega) r0)).2.2.2.2.2, ?_⟩
    have := bel_at hX (by omega) r1
    unfold ppO at this
    exact cell_of this 0)
  have Q2 := Lib.hid q2
  have HY := Lib.hid hY
  have HM : Hid (∀ X, Below Y.heap.size Y X → Calls Tryd.prog 43 #[.pointer (some ⟨P, 0, none⟩)] X fun e w' => e = .returned (.bool false) ∧ Below X.heap.size X w') := Lib.hid (fun X hX => by rw [← htel]; exact mayTell_M ((h.bel q2).bel hX) hq)
  clear hY q2 r0 r1 hz h hq htel
  unfold anO ppO at HY
  go_enter Tryd.func34, Tryd.ntmps34
  go_upto_region 2 with fail
  rw [HY.out]
  clear HY
  go_wp2_with (go_at_call 43; refine (HM.out _ (Below.refl _ _)).mono ?_; rintro e w4 ⟨rfl, hb4⟩; obtain ⟨c6, c7⟩ := HXA.out _ hb4; have HB4 := Lib.hid hb4; clear hb4)
  go_ret
  exact ⟨Q2.out.trans (HB4.out.mono Q2.out.size), rfl⟩
set_option maxRecDepth 20000 in
set_option maxHeartbeats 4000000 in
theorem fetched_has (P : Nat) (fr : List Nat) (M : PM) (a : AN) (w : World) (h : MAt P fr M w) (hq : M.q.length ≤ 1000000) (htel : telM M = true) (hhas : hasM M a.num = false) : Calls Tryd.prog 34 #[.pointer (some ⟨P, 0, none⟩), .agg (anC a)] w (ChgOut P fr M none w) := by
  have q2 := two_below w (anO a) (ppO P)
  obtain ⟨Y, hY⟩ : ∃ Y, (w.alloc (anO a)).alloc (ppO P) = Y := ⟨_, rfl⟩
  have hz : Y.heap.size = w.heap.size + 1 + 1 := by rw [← hY]; simp
  rw [hY] at q2
  have r0 : Y.heap[w.heap.size]? = some (anO a) := by rw [← hY, Below.heap_alloc _ _ _ (by simp)]; exact heap_new _ _
  have r1 : Y.heap[w.heap.size + 1]? = some (ppO P) := by rw [← hY]; have := heap_new (w.alloc (anO a)) (ppO P); rw [show (w.alloc (anO a)).heap.size = w.heap.size + 1 from by simp] at this; exact this
  have HXA : Hid (∀ X, Below Y.heap.size Y X → X.cell? ⟨w.heap.size, 6, none⟩ = some (.int .i64 a.num) ∧ X.cell? ⟨w.heap.size + 1, 0, none⟩ = some (.pointer (some ⟨P, 1, none⟩))) := Lib.hid (fun X hX => by
    refine ⟨(an_cells (bel_at hX (by omega) r0)).2.2.2.2.2, ?_⟩
    have := bel_at hX (by omega) r1
    unfold ppO at this
    exact cell_of this 0)
  have Q2 := Lib.hid q2
  have HY := Lib.hid hY
  have HM : Hid (∀ X, Below Y.heap.size Y X → Calls Tryd.prog 43 #[.pointer (some ⟨P, 0, none⟩)] X fun e w' => e = .returned (.bool true) ∧ Below X.heap.size X w') := Lib.hid (fun X hX => by rw [← htel]; exact mayTell_M ((h.bel q2).bel hX) hq)
  have HH : Hid (∀ X, Below Y.heap.size Y X → Calls Tryd.prog 46 #[.pointer (some ⟨P, 1, none⟩), .int .i64 a.num] X fun e w' => e = .returned (.bool false) ∧ w' = X) := Lib.hid (fun X hX => by rw [← hhas]; exact has_M ((h.bel q2).bel hX) a.num)
  clear hY q2 r0 r1 hz h hq htel hhas
  unfold anO ppO at HY
  go_enter Tryd.func34, Tryd.ntmps34
  go_upto_region 2 with fail
  rw [HY.out]
  clear HY
  go_wp2_with (first | (go_at_call 43; refine (HM.out _ (Below.refl _ _)).mono ?_; rintro e w4 ⟨rfl, hb4⟩; obtain ⟨c6, c7⟩ := HXA.out _ hb4; have HB4 := Lib.hid hb4; clear hb4) | (go_at_call 46; refine (HH.out _ HB4.out).mono ?_; rintro e w6 ⟨rfl, hw6⟩; obtain rfl : w4 = w6 := hw6.symm))
  go_ret
  exact ⟨Q2.out.trans (HB4.out.mono Q2.out.size), rfl⟩
set_option maxRecDepth 20000 in
set_option maxHeartbeats 4000000 in
theorem fetched_go (P : Nat) (fr : List Nat) (M : PM) (a : AN) (w : World) (h : MAt P fr M w) (hq : M.q.length ≤ 1000000) (hrn : M.rows.length ≤ 1000000) (data : List (ByteArray × PV)) (hdat : DataA w a.data data) (htel : telM M = true) (hhas : hasM M a.num = true) (i : Nat) (hni : a.num - 1 = (i : Int)) (hi : i < M.rows.length) : Calls Tryd.prog 34 #[.pointer (some ⟨P, 0, none⟩), .agg (anC a)] w (ChgOut P fr M ((learnAll M i ⟨M.rows.getD i PR0, M.h⟩ data).map (putD i)) w) := by
  have q2 := two_below w (anO a) (ppO P)
  obtain ⟨Y, hY⟩ : ∃ Y, (w.alloc (anO a)).alloc (ppO P) = Y := ⟨_, rfl⟩
  have hz : Y.heap.size = w.heap.size + 1 + 1 := by rw [← hY]; simp
  rw [hY] at q2
  have r0 : Y.heap[w.heap.size]? = some (anO a) := by rw [← hY, Below.heap_alloc _ _ _ (by simp)]; exact heap_new _ _
  have r1 : Y.heap[w.heap.size + 1]? = some (ppO P) := by rw [← hY]; have := heap_new (w.alloc (anO a)) (ppO P); rw [show (w.alloc (anO a)).heap.size = w.heap.size + 1 from by simp] at this; exact this
  have HXA : Hid (∀ X, Below Y.heap.size Y X → X.cell? ⟨w.heap.size, 6, none⟩ = some (.int .i64 a.num) ∧ X.cell? ⟨w.heap.size + 1, 0, none⟩ = some (.pointer (some ⟨P, 1, none⟩))) := Lib.hid (fun X hX => by
    refine ⟨(an_cells (bel_at hX (by omega) r0)).2.2.2.2.2, ?_⟩
    have := bel_at hX (by omega) r1
    unfold ppO at this
    exact cell_of this 0)
  have Q2 := Lib.hid q2
  have HY := Lib.hid hY
  have HM : Hid (∀ X, Below Y.heap.size Y X → Calls Tryd.prog 43 #[.pointer (some ⟨P, 0, none⟩)] X fun e w' => e = .returned (.bool true) ∧ Below X.heap.size X w') := Lib.hid (fun X hX => by rw [← htel]; exact mayTell_M ((h.bel q2).bel hX) hq)
  have HH : Hid (∀ X, Below Y.heap.size Y X → Calls Tryd.prog 46 #[.pointer (some ⟨P, 1, none⟩), .int .i64 a.num] X fun e w' => e = .returned (.bool true) ∧ w' = X) := Lib.hid (fun X hX => by rw [← hhas]; exact has_M ((h.bel q2).bel hX) a.num)
  have hfrl := h.lt
  have hop : opnM M = false := by unfold telM at htel; simp only [Bool.and_eq_true, Bool.not_eq_true'] at htel; exact htel.2
  obtain ⟨q, rowsV, was, hM, hQ, ⟨rs, hr1, hr2, hr3⟩, hW⟩ := h.ex
  obtain ⟨g, o, rc, rfl, _, hgl, hcell⟩ := hr1.cell (by omega)
  obtain ⟨r, hr⟩ : ∃ r, rs[i]? = some r := by
    obtain ⟨r, hr, _⟩ := hr3.gets i _ (List.getElem?_eq_getElem hi)
    exact ⟨r, hr⟩
  obtain ⟨p, hp, hrp⟩ := hr3.get i r hr
  have hpd : M.rows.getD i PR0 = p := by rw [List.getD_eq_getElem?_getD, hp]; rfl
  rw [hpd]
  obtain ⟨fa, fc, hfe⟩ := hrp.fl.shape
  obtain ⟨ru, rk, rf⟩ := r
  simp only at hfe
  subst hfe
  obtain ⟨l0, l1, l2⟩ := rwL_get rs i _ hr
  obtain ⟨rn, hrne⟩ : ∃ rn, M.rows.length = rn := ⟨_, rfl⟩
  obtain ⟨fn, hfne⟩ : ∃ fn, p.fl.length = fn := ⟨_, rfl⟩
  obtain ⟨hh, hhe⟩ : ∃ hh, M.h = hh := ⟨_, rfl⟩
  obtain ⟨y, hye⟩ : ∃ y, a.num = y := ⟨_, rfl⟩
  rw [hye] at hni HXA HH
  have e1 := hrp.uid
  have e2 := hrp.kn
  have e3 := hrp.fl
  simp only at e1 e2 e3
  rw [hfne] at l2 e3
  have HX : Hid (∀ X, Below Y.heap.size Y X → X.cell? ⟨w.heap.size + 1, 0, none⟩ = some (.pointer (some ⟨P, 1, none⟩)) ∧ X.cell? ⟨w.heap.size, 6, none⟩ = some (.int .i64 y) ∧ X.cell? ⟨P, 5, none⟩ = some (.slice (some ⟨g, o, none⟩) rn rc) ∧ X.cell? ⟨g, o + i * 3, none⟩ = some (.int .i64 ru) ∧ X.cell? ⟨g, o + i * 3 + 1, none⟩ = some (.bool rk) ∧ X.cell? ⟨g, o + i * 3 + 2, none⟩ = some (.slice fa fn fc) ∧ X.cell? ⟨P, 4, none⟩ = some (.int .i64 hh)) := Lib.hid (fun X hX => by
    have hb := q2.trans (hX.mono q2.size)
    obtain ⟨y1, y2⟩ := HXA.out X hX
    have k := mir_cells (bel_at hb (lt_of_heap hM) hM)
    refine ⟨y2, y1, by rw [← hrne]; exact k.c5, ?_, ?_, ?_, by rw [← hhe]; exact k.c4⟩
    · rw [hb.cell (p := ⟨g, o + i * 3, none⟩) hgl, hcell _ (by omega)]; exact l0
    · rw [hb.cell (p := ⟨g, o + i * 3 + 1, none⟩) hgl, Nat.add_assoc, hcell _ (by omega)]; exact l1
    · rw [hb.cell (p := ⟨g, o + i * 3 + 2, none⟩) hgl, Nat.add_assoc, hcell _ (by omega)]; exact l2)
  have hwr : IntKind.i64.wrap (y - 1) = (i : Int) := by rw [hni, IntKind.wrap_i64]; omega
  have hi0 : (0 : Int) ≤ (i : Int) := by omega
  have hin : (i : Int) < (rn : Int) := by omega
  obtain ⟨da, dc, hde, hdl, hdall⟩ := hdat
  obtain ⟨N, hN⟩ : ∃ N, data.length = N := ⟨_, rfl⟩
  rw [hN] at hde hdl hdall
  -- the draft at its begin
  have HST : Hid (∀ W4 Z, Below Y.heap.size Y W4 → Below W4.heap.size W4 Z → Z.heap[W4.heap.size]? = some (dfO ru rk (.slice fa fn fc) i hh) → Below w.heap.size w Z ∧ FeT fr M w.heap.size W4.heap.size i ⟨p, hh⟩ data Z 0 ⟨p, hh⟩ Z) := Lib.hid (fun W4 Z h4 hZ hd => by
    have hb : Below w.heap.size w Z := (q2.trans (h4.mono q2.size)).trans (hZ.mono (Nat.le_trans q2.size h4.size))
    refine ⟨hb, Stays.refl _ _, ⟨.slice fa fn fc, by rw [← e1, ← e2]; exact hd, .inl (e3.on (fun b hbf => hb.block b (hfrl b hbf)) (fun _ e => e))⟩, rfl⟩)
  have HCD : Hid (∀ X, Below w.heap.size w X → ∀ j, j < N → ∃ gd od, da = some ⟨gd, od, none⟩ ∧ ∃ nm k n t ka kn kc l, data[j]? = some (nm, ⟨k, n, l⟩) ∧ X.cell? ⟨gd, od + j * 5, none⟩ = some (.string nm) ∧ X.cell? ⟨gd, od + j * 5 + 1, none⟩ = some (.int .i64 k) ∧ X.cell? ⟨gd, od + j * 5 + 2, none⟩ = some (.int .i64 n) ∧ X.cell? ⟨gd, od + j * 5 + 3, none⟩ = some (.string t) ∧ X.cell? ⟨gd, od + j * 5 + 4, none⟩ = some (.slice ka kn kc) ∧ KidsA X (.slice ka kn kc) l) := Lib.hid (fun X hX j hj => by
    obtain ⟨gd, od, e, hgd, hc⟩ := hdall (by omega)
    have hx : data[j]? = some (data[j]'(by omega)) := List.getElem?_eq_getElem _
    obtain ⟨t, ka, kn, kc, c0, c1, c2, c3, c4, hk⟩ := hc j _ hx
    refine ⟨gd, od, e, _, _, _, t, ka, kn, kc, _, hx, ?_, ?_, ?_, ?_, ?_, hk.on hX⟩
    · rw [hX.cell (p := ⟨gd, od + j * 5, none⟩) hgd]; exact c0
    · rw [hX.cell (p := ⟨gd, od + j * 5 + 1, none⟩) hgd]; exact c1
    · rw [hX.cell (p := ⟨gd, od + j * 5 + 2, none⟩) hgd]; exact c2
    · rw [hX.cell (p := ⟨gd, od + j * 5 + 3, none⟩) hgd]; exact c3
    · rw [hX.cell (p := ⟨gd, od + j * 5 + 4, none⟩) hgd]; exact c4)
  have HDc : Hid (∀ X, Below Y.heap.size Y X → X.cell? ⟨w.heap.size, 10, none⟩ = some (.slice da N dc)) := Lib.hid (fun X hX => by
    have k := bel_at hX (by omega) r0
    unfold anO anC at k
    rw [cell_of k, ← hde]
    rfl)
  have HPP : Hid (∀ X, Below Y.heap.size Y X → X.heap[w.heap.size + 1]? = some (ppO P)) := Lib.hid (fun X hX => bel_at hX (by omega) r1)
  have HLn : Hid (∀ D d nm k n t ka kn kc l X, Below w.heap.size w X → w.heap.size ≤ D → DrIn fr w.heap.size D i d X → KidsA X (.slice ka kn kc) l → Calls Tryd.prog 49 #[.pointer (some ⟨P, 1, none⟩), .pointer (some ⟨D, 0, none⟩), .agg #[.string nm, .int .i64 k, .int .i64 n, .string t, .slice ka kn kc]] X (LrO fr w.heap.size D i (learnD M i d (nm, ⟨k, n, l⟩)) X)) := Lib.hid (fun D d nm k n t ka kn kc l X hX hD hd hk =>
    learn_any P fr M w.heap.size D i d nm k n t ka kn kc l X (h.bel hX) hd hk (fun e => by have := hfrl D e; omega) hX.size hi hrn)
  have FIN : Hid (∀ W4 Z d X, Below Y.heap.size Y W4 → Below W4.heap.size W4 Z → Below w.heap.size w Z → FeT fr M w.heap.size W4.heap.size i ⟨p, hh⟩ data Z N d X → ChgOut P fr M ((learnAll M i ⟨p, hh⟩ data).map (putD i)) w (.returned (.func (.func 50) #[] #[.pointer (some ⟨W4.heap.size, 0, none⟩), .pointer (some ⟨w.heap.size + 1, 0, none⟩)])) X) := Lib.hid (fun W4 Z d X h4 hZ hwZ hft => by
    have hDl : w.heap.size ≤ W4.heap.size := Nat.le_trans q2.size h4.size
    have hbX := stays_below hwZ hft.st hDl (Nat.le_refl _)
    have hpp : X.heap[w.heap.size + 1]? = some (ppO P) := by
      have k4 := HPP.out W4 h4
      have kZ := bel_at hZ (lt_of_heap k4) k4
      rw [hft.st.block _ (lt_of_heap kZ) (fun e => by have := lt_of_heap k4; simp at e; omega)]
      exact kZ
    have hln : learnAll M i ⟨p, hh⟩ data = some d := by rw [hft.ln, List.drop_eq_nil_of_le (by omega)]; rfl
    rw [hln]
    refine ⟨hbX, _, _, rfl, isFn_fetched1, fun bb X' hbb hX' hM' => ?_⟩
    obtain rfl : bb = false := by cases bb with
      | false => rfl
      | true => rw [hop] at hbb; exact absurd (hbb.1 rfl) (by decide)
    have hNM : bgM false M = M := rfl
    rw [hNM] at hM' ⊢
    obtain ⟨q', rows', was', k1, k2, ⟨rs', r1', r2', r3'⟩, k4⟩ := hM'.ex
    obtain ⟨fv, hdX, hfl⟩ := hft.dr
    have hPl := h.plt
    have at' : ∀ (b : Nat) (oo : Obj), X.heap[b]? = some oo → b ≠ P → X'.heap[b]? = some oo := fun b oo e hb => by rw [hbb.2.block b (lt_of_heap e) (by simpa using hb)]; exact e
    have hd' := at' _ _ hdX (by omega)
    have hp' := at' _ _ hpp (by omega)
    obtain ⟨fa', fn', fc', hfs⟩ : ∃ a n c, fv = .slice a n c := by
      rcases hfl with hfl | ⟨nb, hfl, _⟩
      · obtain ⟨a, c, e⟩ := hfl.shape; exact ⟨a, _, c, e⟩
      · obtain ⟨a, c, e⟩ := hfl.shape; exact ⟨a, _, c, e⟩
    subst hfs
    have hPm : ∃ cs f, X.heap[P]? = some (.cells cs 75 f) := by
      rw [hbX.block P hPl]
      obtain ⟨_, _, _, hMw, _⟩ := h.ex
      exact ⟨_, _, hMw⟩
    obtain ⟨nb, hnb1, hnb2⟩ : ∃ nb, StrsIn (fr ++ nb) X' (.slice fa' fn' fc') d.r.fl ∧ ∀ b, b ∈ nb → w.heap.size ≤ b ∧ b < X'.heap.size := by
      have kt : KeepT [75] X X' := KeepT.of hbb.2 (fun b hb => by
        simp at hb
        subst hb
        obtain ⟨cs, f, e⟩ := hPm
        exact ⟨cs, _, f, e, by simp⟩)
      rcases hfl with hfl | ⟨nb, hfl, hnb⟩
      · exact ⟨[], hfl.kt kt (by decide) (fun b e => by simpa using e), fun b hb => by cases hb⟩
      · refine ⟨nb, hfl.kt kt (by decide) (fun b e => by simp [e]), fun b hb => ?_⟩
        obtain ⟨h1, cs, f, e⟩ := hnb b hb
        exact ⟨h1, Nat.lt_of_lt_of_le (lt_of_heap e) hX'.size⟩
    refine (fetched1_any P W4.heap.size (w.heap.size + 1) q' _ _ _ _ rows' M.rows.length was' _ rs' d.r.uid d.r.kn fa' fn' fc' i d.h X' k1 r1' hi hrn hp' hd').mono ?_
    rintro e X2 ⟨rfl, hs, hm, hrr⟩
    have hB : w.heap.size ≤ X'.heap.size := Nat.le_trans hbX.size hX'.size
    refine ⟨rfl, MAt.rows (nb := nb) (rs := rs'.set i ⟨d.r.uid, d.r.kn, .slice fa' fn' fc'⟩) hM' k1 k2 k4 r1' r2' hs hm rfl rfl ?_ ?_ (fun b e => .inl (r2' b e)) hnb2⟩
    · rw [show (putD i d M).rows.length = M.rows.length from List.length_set]
      exact hrr
    · exact (r3'.mono (fun _ _ rr => rr.on (fun _ _ => rfl) (fun b e => by simp [e]))).set i _ _ ⟨rfl, rfl, hnb1⟩)
  have HEv : Hid (∀ j d x, data[j]? = some x → learnAll M i ⟨p, hh⟩ data = learnAll M i d (data.drop j) → (learnD M i d x = none → learnAll M i ⟨p, hh⟩ data = none) ∧ ∀ d', learnD M i d x = some d' → learnAll M i ⟨p, hh⟩ data = learnAll M i d' (data.drop (j + 1))) := Lib.hid (fun j d x hx he => by
    obtain ⟨hk, hxx⟩ := List.getElem?_eq_some_iff.1 hx
    rw [List.drop_eq_getElem_cons hk, hxx] at he
    refine ⟨fun e => ?_, fun d' e => ?_⟩
    · rw [he]; simp only [learnAll, e]
    · rw [he]; simp only [learnAll, e])
  rw [hhe]
  obtain ⟨res, hres⟩ : ∃ res, learnAll M i ⟨p, hh⟩ data = res := ⟨_, rfl⟩
  have HRes := Lib.hid hres
  simp only [hres] at FIN HEv ⊢
  have HLe := Lib.hid (And.intro hdl hN)
  have HFr : Hid (∀ b, b ∈ fr → b < w.heap.size) := Lib.hid hfrl
  clear hY q2 r0 r1 hz h hq htel hhas hop hM hQ hr1 hr2 hr3 hW hcell hr hp hrp hpd l0 l1 l2 hrne hfne hhe hye e1 e2 e3 hde hdall hdl hN hi hrn hfrl hgl hni HXA hres
  unfold anO ppO at HY
  go_enter Tryd.func34, Tryd.ntmps34
  go_upto_region 2 with fail
  rw [HY.out]
  clear HY
  go_upto_region 4 with (first | (go_at_call 43; refine (HM.out _ (Below.refl _ _)).mono ?_; rintro e w4 ⟨rfl, hb4⟩; obtain ⟨c7, c6, _⟩ := HX.out _ hb4; have HB4 := Lib.hid hb4; clear hb4) | (go_at_call 46; refine (HH.out _ HB4.out).mono ?_; rintro e w6 ⟨rfl, hw6⟩; obtain rfl : w4 = w6 := hw6.symm))
  clear c6 c7
  refine wp_region_N 18 (fun X => Below Y.heap.size Y X) (by kernel_rfl) ?_
  refine wpAnyN_take (i := 0) (oi := { dst := some 22, op := Go.Op.load 96 (Go.Operand.tmp 5), type := 96, pos := "fetched.go:22", after := #[], guard := none }) (oL := { dst := none, op := Go.Op.store 105 (Go.Operand.tmp 6) (Go.Operand.tmp 38), type := 0, pos := "fetched.go:22", after := #[{ on := 17, ground := Go.Ground.data }, { on := 16, ground := Go.Ground.data }, { on := 0, ground := Go.Ground.phase }, { on := 1, ground := Go.Ground.phase }, { on := 2, ground := Go.Ground.phase }, { on := 3, ground := Go.Ground.phase }, { on := 4, ground := Go.Ground.phase }, { on := 5, ground := Go.Ground.phase }, { on := 6, ground := Go.Ground.phase }, { on := 7, ground := Go.Ground.phase }, { on := 8, ground := Go.Ground.phase }, { on := 9, ground := Go.Ground.phase }, { on := 10, ground := Go.Ground.phase }, { on := 11, ground := Go.Ground.phase }, { on := 12, ground := Go.Ground.phase }, { on := 13, ground := Go.Ground.phase }, { on := 14, ground := Go.Ground.phase }, { on := 15, ground := Go.Ground.phase }, { on := 16, ground := Go.Ground.phase }, { on := 17, ground := Go.Ground.phase }], guard := none }) (v := .pointer (some ⟨P, 1, none⟩)) rfl rfl (by kernel_rfl) (by kernel_rfl) (by kernel_rfl) (by kernel_rfl) (fun _ _ _ h => h) (Or.inl ⟨by kernel_rfl, ?_⟩) HB4.out.drew ?_
  · (intro X hX; obtain ⟨x0, x1, x2, x3, x4, x5, x6⟩ := HX.out X hX <;> (go_simp; try (with_reducible rfl)))
  (try simp only [Act.put, List.setIfInBounds_toArray, List.set_cons_zero, List.set_cons_succ])
  refine wpAnyN_take (i := 1) (oi := { dst := some 23, op := Go.Op.nilCheck (Go.Operand.tmp 22), type := 0, pos := "fetched.go:22", after := #[{ on := 0, ground := Go.Ground.data }], guard := none }) (oL := { dst := none, op := Go.Op.store 105 (Go.Operand.tmp 6) (Go.Operand.tmp 38), type := 0, pos := "fetched.go:22", after := #[{ on := 17, ground := Go.Ground.data }, { on := 16, ground := Go.Ground.data }, { on := 0, ground := Go.Ground.phase }, { on := 1, ground := Go.Ground.phase }, { on := 2, ground := Go.Ground.phase }, { on := 3, ground := Go.Ground.phase }, { on := 4, ground := Go.Ground.phase }, { on := 5, ground := Go.Ground.phase }, { on := 6, ground := Go.Ground.phase }, { on := 7, ground := Go.Ground.phase }, { on := 8, ground := Go.Ground.phase }, { on := 9, ground := Go.Ground.phase }, { on := 10, ground := Go.Ground.phase }, { on := 11, ground := Go.Ground.phase }, { on := 12, ground := Go.Ground.phase }, { on := 13, ground := Go.Ground.phase }, { on := 14, ground := Go.Ground.phase }, { on := 15, ground := Go.Ground.phase }, { on := 16, ground := Go.Ground.phase }, { on := 17, ground := Go.Ground.phase }], guard := none }) (v := .pointer (some ⟨P, 1, none⟩)) rfl rfl (by kernel_rfl) (by kernel_rfl) (by kernel_rfl) (by kernel_rfl) (fun _ _ _ h => h) (Or.inl ⟨by kernel_rfl, ?_⟩) HB4.out.drew ?_
  · (intro X hX; obtain ⟨x0, x1, x2, x3, x4, x5, x6⟩ := HX.out X hX <;> (go_simp; try (with_reducible rfl)))
  (try simp only [Act.put, List.setIfInBounds_toArray, List.set_cons_zero, List.set_cons_succ])
  refine wpAnyN_take (i := 2) (oi := { dst := some 24, op := Go.Op.fieldAddr 73 (Go.Operand.tmp 23) 4, type := 0, pos := "fetched.go:22", after := #[{ on := 1, ground := Go.Ground.data }], guard := none }) (oL := { dst := none, op := Go.Op.store 105 (Go.Operand.tmp 6) (Go.Operand.tmp 38), type := 0, pos := "fetched.go:22", after := #[{ on := 17, ground := Go.Ground.data }, { on := 16, ground := Go.Ground.data }, { on := 0, ground := Go.Ground.phase }, { on := 1, ground := Go.Ground.phase }, { on := 2, ground := Go.Ground.phase }, { on := 3, ground := Go.Ground.phase }, { on := 4, ground := Go.Ground.phase }, { on := 5, ground := Go.Ground.phase }, { on := 6, ground := Go.Ground.phase }, { on := 7, ground := Go.Ground.phase }, { on := 8, ground := Go.Ground.phase }, { on := 9, ground := Go.Ground.phase }, { on := 10, ground := Go.Ground.phase }, { on := 11, ground := Go.Ground.phase }, { on := 12, ground := Go.Ground.phase }, { on := 13, ground := Go.Ground.phase }, { on := 14, ground := Go.Ground.phase }, { on := 15, ground := Go.Ground.phase }, { on := 16, ground := Go.Ground.phase }, { on := 17, ground := Go.Ground.phase }], guard := none }) (v := .pointer (some ⟨P, 5, none⟩)) rfl rfl (by kernel_rfl) (by kernel_rfl) (by kernel_rfl) (by kernel_rfl) (fun _ _ _ h => h) (Or.inl ⟨by kernel_rfl, ?_⟩) HB4.out.drew ?_
  · (intro X hX; obtain ⟨x0, x1, x2, x3, x4, x5, x6⟩ := HX.out X hX <;> (go_simp; try (with_reducible rfl)))
  (try simp only [Act.put, List.setIfInBounds_toArray, List.set_cons_zero, List.set_cons_succ])
  refine wpAnyN_take (i := 3) (oi := { dst := some 25, op := Go.Op.load 70 (Go.Operand.tmp 24), type := 70, pos := "fetched.go:22", after := #[{ on := 2, ground := Go.Ground.data }], guard := none }) (oL := { dst := none, op := Go.Op.store 105 (Go.Operand.tmp 6) (Go.Operand.tmp 38), type := 0, pos := "fetched.go:22", after := #[{ on := 17, ground := Go.Ground.data }, { on := 16, ground := Go.Ground.data }, { on := 0, ground := Go.Ground.phase }, { on := 1, ground := Go.Ground.phase }, { on := 2, ground := Go.Ground.phase }, { on := 3, ground := Go.Ground.phase }, { on := 4, ground := Go.Ground.phase }, { on := 5, ground := Go.Ground.phase }, { on := 6, ground := Go.Ground.phase }, { on := 7, ground := Go.Ground.phase }, { on := 8, ground := Go.Ground.phase }, { on := 9, ground := Go.Ground.phase }, { on := 10, ground := Go.Ground.phase }, { on := 11, ground := Go.Ground.phase }, { on := 12, ground := Go.Ground.phase }, { on := 13, ground := Go.Ground.phase }, { on := 14, ground := Go.Ground.phase }, { on := 15, ground := Go.Ground.phase }, { on := 16, ground := Go.Ground.phase }, { on := 17, ground := Go.Ground.phase }], guard := none }) (v := .slice (some ⟨g, o, none⟩) rn rc) rfl rfl (by kernel_rfl) (by kernel_rfl) (by kernel_rfl) (by kernel_rfl) (fun _ _ _ h => h) (Or.inl ⟨by kernel_rfl, ?_⟩) HB4.out.drew ?_
  · (intro X hX; obtain ⟨x0, x1, x2, x3, x4, x5, x6⟩ := HX.out X hX <;> (go_simp; try (with_reducible rfl)))
  (try simp only [Act.put, List.setIfInBounds_toArray, List.set_cons_zero, List.set_cons_succ])
  refine wpAnyN_take (i := 4) (oi := { dst := some 26, op := Go.Op.fieldAddr 43 (Go.Operand.tmp 3) 6, type := 0, pos := "fetched.go:22", after := #[], guard := none }) (oL := { dst := none, op := Go.Op.store 105 (Go.Operand.tmp 6) (Go.Operand.tmp 38), type := 0, pos := "fetched.go:22", after := #[{ on := 17, ground := Go.Ground.data }, { on := 16, ground := Go.Ground.data }, { on := 0, ground := Go.Ground.phase }, { on := 1, ground := Go.Ground.phase }, { on := 2, ground := Go.Ground.phase }, { on := 3, ground := Go.Ground.phase }, { on := 4, ground := Go.Ground.phase }, { on := 5, ground := Go.Ground.phase }, { on := 6, ground := Go.Ground.phase }, { on := 7, ground := Go.Ground.phase }, { on := 8, ground := Go.Ground.phase }, { on := 9, ground := Go.Ground.phase }, { on := 10, ground := Go.Ground.phase }, { on := 11, ground := Go.Ground.phase }, { on := 12, ground := Go.Ground.phase }, { on := 13, ground := Go.Ground.phase }, { on := 14, ground := Go.Ground.phase }, { on := 15, ground := Go.Ground.phase }, { on := 16, ground := Go.Ground.phase }, { on := 17, ground := Go.Ground.phase }], guard := none }) (v := .pointer (some ⟨w.heap.size, 6, none⟩)) rfl rfl (by kernel_rfl) (by kernel_rfl) (by kernel_rfl) (by kernel_rfl) (fun _ _ _ h => h) (Or.inl ⟨by kernel_rfl, ?_⟩) HB4.out.drew ?_
  · (intro X hX; obtain ⟨x0, x1, x2, x3, x4, x5, x6⟩ := HX.out X hX <;> (go_simp; try (with_reducible rfl)))
  (try simp only [Act.put, List.setIfInBounds_toArray, List.set_cons_zero, List.set_cons_succ])
  refine wpAnyN_take (i := 5) (oi := { dst := some 27, op := Go.Op.load 3 (Go.Operand.tmp 26), type := 3, pos := "fetched.go:22", after := #[{ on := 4, ground := Go.Ground.data }], guard := none }) (oL := { dst := none, op := Go.Op.store 105 (Go.Operand.tmp 6) (Go.Operand.tmp 38), type := 0, pos := "fetched.go:22", after := #[{ on := 17, ground := Go.Ground.data }, { on := 16, ground := Go.Ground.data }, { on := 0, ground := Go.Ground.phase }, { on := 1, ground := Go.Ground.phase }, { on := 2, ground := Go.Ground.phase }, { on := 3, ground := Go.Ground.phase }, { on := 4, ground := Go.Ground.phase }, { on := 5, ground := Go.Ground.phase }, { on := 6, ground := Go.Ground.phase }, { on := 7, ground := Go.Ground.phase }, { on := 8, ground := Go.Ground.phase }, { on := 9, ground := Go.Ground.phase }, { on := 10, ground := Go.Ground.phase }, { on := 11, ground := Go.Ground.phase }, { on := 12, ground := Go.Ground.phase }, { on := 13, ground := Go.Ground.phase }, { on := 14, ground := Go.Ground.phase }, { on := 15, ground := Go.Ground.phase }, { on := 16, ground := Go.Ground.phase }, { on := 17, ground := Go.Ground.phase }], guard := none }) (v := .int .i64 y) rfl rfl (by kernel_rfl) (by kernel_rfl) (by kernel_rfl) (by kernel_rfl) (fun _ _ _ h => h) (Or.inl ⟨by kernel_rfl, ?_⟩) HB4.out.drew ?_
  · (intro X hX; obtain ⟨x0, x1, x2, x3, x4, x5, x6⟩ := HX.out X hX <;> (go_simp; try (with_reducible rfl)))
  (try simp only [Act.put, List.setIfInBounds_toArray, List.set_cons_zero, List.set_cons_succ])
  refine wpAnyN_take (i := 6) (oi := { dst := some 28, op := Go.Op.binOp Go.BinOp.sub 3 (Go.Operand.tmp 27) (Go.Operand.const (Go.Value.int Go.IntKind.i64 1)) 3, type := 3, pos := "fetched.go:22", after := #[{ on := 5, ground := Go.Ground.data }], guard := none }) (oL := { dst := none, op := Go.Op.store 105 (Go.Operand.tmp 6) (Go.Operand.tmp 38), type := 0, pos := "fetched.go:22", after := #[{ on := 17, ground := Go.Ground.data }, { on := 16, ground := Go.Ground.data }, { on := 0, ground := Go.Ground.phase }, { on := 1, ground := Go.Ground.phase }, { on := 2, ground := Go.Ground.phase }, { on := 3, ground := Go.Ground.phase }, { on := 4, ground := Go.Ground.phase }, { on := 5, ground := Go.Ground.phase }, { on := 6, ground := Go.Ground.phase }, { on := 7, ground := Go.Ground.phase }, { on := 8, ground := Go.Ground.phase }, { on := 9, ground := Go.Ground.phase }, { on := 10, ground := Go.Ground.phase }, { on := 11, ground := Go.Ground.phase }, { on := 12, ground := Go.Ground.phase }, { on := 13, ground := Go.Ground.phase }, { on := 14, ground := Go.Ground.phase }, { on := 15, ground := Go.Ground.phase }, { on := 16, ground := Go.Ground.phase }, { on := 17, ground := Go.Ground.phase }], guard := none }) (v := .int .i64 (i : Int)) rfl rfl (by kernel_rfl) (by kernel_rfl) (by kernel_rfl) (by kernel_rfl) (fun _ _ _ h => h) (Or.inl ⟨by kernel_rfl, ?_⟩) HB4.out.drew ?_
  · (intro X hX; obtain ⟨x0, x1, x2, x3, x4, x5, x6⟩ := HX.out X hX <;> (go_simp; try (with_reducible rfl)))
  (try simp only [Act.put, List.setIfInBounds_toArray, List.set_cons_zero, List.set_cons_succ])
  refine wpAnyN_take (i := 7) (oi := { dst := some 29, op := Go.Op.indexAddr 70 (Go.Operand.tmp 25) (Go.Operand.tmp 28), type := 0, pos := "fetched.go:22", after := #[{ on := 3, ground := Go.Ground.data }, { on := 6, ground := Go.Ground.data }], guard := none }) (oL := { dst := none, op := Go.Op.store 105 (Go.Operand.tmp 6) (Go.Operand.tmp 38), type := 0, pos := "fetched.go:22", after := #[{ on := 17, ground := Go.Ground.data }, { on := 16, ground := Go.Ground.data }, { on := 0, ground := Go.Ground.phase }, { on := 1, ground := Go.Ground.phase }, { on := 2, ground := Go.Ground.phase }, { on := 3, ground := Go.Ground.phase }, { on := 4, ground := Go.Ground.phase }, { on := 5, ground := Go.Ground.phase }, { on := 6, ground := Go.Ground.phase }, { on := 7, ground := Go.Ground.phase }, { on := 8, ground := Go.Ground.phase }, { on := 9, ground := Go.Ground.phase }, { on := 10, ground := Go.Ground.phase }, { on := 11, ground := Go.Ground.phase }, { on := 12, ground := Go.Ground.phase }, { on := 13, ground := Go.Ground.phase }, { on := 14, ground := Go.Ground.phase }, { on := 15, ground := Go.Ground.phase }, { on := 16, ground := Go.Ground.phase }, { on := 17, ground := Go.Ground.phase }], guard := none }) (v := .pointer (some ⟨g, o + i * 3, none⟩)) rfl rfl (by kernel_rfl) (by kernel_rfl) (by kernel_rfl) (by kernel_rfl) (fun _ _ _ h => h) (Or.inl ⟨by kernel_rfl, ?_⟩) HB4.out.drew ?_
  · (intro X hX; obtain ⟨x0, x1, x2, x3, x4, x5, x6⟩ := HX.out X hX <;> (go_simp; try (with_reducible rfl)))
  (try simp only [Act.put, List.setIfInBounds_toArray, List.set_cons_zero, List.set_cons_succ])
  refine wpAnyN_take (i := 8) (oi := { dst := some 30, op := Go.Op.load 98 (Go.Operand.tmp 29), type := 98, pos := "fetched.go:22", after := #[{ on := 7, ground := Go.Ground.data }], guard := none }) (oL := { dst := none, op := Go.Op.store 105 (Go.Operand.tmp 6) (Go.Operand.tmp 38), type := 0, pos := "fetched.go:22", after := #[{ on := 17, ground := Go.Ground.data }, { on := 16, ground := Go.Ground.data }, { on := 0, ground := Go.Ground.phase }, { on := 1, ground := Go.Ground.phase }, { on := 2, ground := Go.Ground.phase }, { on := 3, ground := Go.Ground.phase }, { on := 4, ground := Go.Ground.phase }, { on := 5, ground := Go.Ground.phase }, { on := 6, ground := Go.Ground.phase }, { on := 7, ground := Go.Ground.phase }, { on := 8, ground := Go.Ground.phase }, { on := 9, ground := Go.Ground.phase }, { on := 10, ground := Go.Ground.phase }, { on := 11, ground := Go.Ground.phase }, { on := 12, ground := Go.Ground.phase }, { on := 13, ground := Go.Ground.phase }, { on := 14, ground := Go.Ground.phase }, { on := 15, ground := Go.Ground.phase }, { on := 16, ground := Go.Ground.phase }, { on := 17, ground := Go.Ground.phase }], guard := none }) (v := .agg #[.int .i64 ru, .bool rk, .slice fa fn fc]) rfl rfl (by kernel_rfl) (by kernel_rfl) (by kernel_rfl) (by kernel_rfl) (fun _ _ _ h => h) (Or.inl ⟨by kernel_rfl, ?_⟩) HB4.out.drew ?_
  · (intro X hX; obtain ⟨x0, x1, x2, x3, x4, x5, x6⟩ := HX.out X hX <;> (go_simp; try (with_reducible rfl)))
  (try simp only [Act.put, List.setIfInBounds_toArray, List.set_cons_zero, List.set_cons_succ])
  refine wpAnyN_take (i := 9) (oi := { dst := some 31, op := Go.Op.fieldAddr 43 (Go.Operand.tmp 3) 6, type := 0, pos := "fetched.go:22", after := #[], guard := none }) (oL := { dst := none, op := Go.Op.store 105 (Go.Operand.tmp 6) (Go.Operand.tmp 38), type := 0, pos := "fetched.go:22", after := #[{ on := 17, ground := Go.Ground.data }, { on := 16, ground := Go.Ground.data }, { on := 0, ground := Go.Ground.phase }, { on := 1, ground := Go.Ground.phase }, { on := 2, ground := Go.Ground.phase }, { on := 3, ground := Go.Ground.phase }, { on := 4, ground := Go.Ground.phase }, { on := 5, ground := Go.Ground.phase }, { on := 6, ground := Go.Ground.phase }, { on := 7, ground := Go.Ground.phase }, { on := 8, ground := Go.Ground.phase }, { on := 9, ground := Go.Ground.phase }, { on := 10, ground := Go.Ground.phase }, { on := 11, ground := Go.Ground.phase }, { on := 12, ground := Go.Ground.phase }, { on := 13, ground := Go.Ground.phase }, { on := 14, ground := Go.Ground.phase }, { on := 15, ground := Go.Ground.phase }, { on := 16, ground := Go.Ground.phase }, { on := 17, ground := Go.Ground.phase }], guard := none }) (v := .pointer (some ⟨w.heap.size, 6, none⟩)) rfl rfl (by kernel_rfl) (by kernel_rfl) (by kernel_rfl) (by kernel_rfl) (fun _ _ _ h => h) (Or.inl ⟨by kernel_rfl, ?_⟩) HB4.out.drew ?_
  · (intro X hX; obtain ⟨x0, x1, x2, x3, x4, x5, x6⟩ := HX.out X hX <;> (go_simp; try (with_reducible rfl)))
  (try simp only [Act.put, List.setIfInBounds_toArray, List.set_cons_zero, List.set_cons_succ])
  refine wpAnyN_take (i := 10) (oi := { dst := some 32, op := Go.Op.load 3 (Go.Operand.tmp 31), type := 3, pos := "fetched.go:22", after := #[{ on := 9, ground := Go.Ground.data }], guard := none }) (oL := { dst := none, op := Go.Op.store 105 (Go.Operand.tmp 6) (Go.Operand.tmp 38), type := 0, pos := "fetched.go:22", after := #[{ on := 17, ground := Go.Ground.data }, { on := 16, ground := Go.Ground.data }, { on := 0, ground := Go.Ground.phase }, { on := 1, ground := Go.Ground.phase }, { on := 2, ground := Go.Ground.phase }, { on := 3, ground := Go.Ground.phase }, { on := 4, ground := Go.Ground.phase }, { on := 5, ground := Go.Ground.phase }, { on := 6, ground := Go.Ground.phase }, { on := 7, ground := Go.Ground.phase }, { on := 8, ground := Go.Ground.phase }, { on := 9, ground := Go.Ground.phase }, { on := 10, ground := Go.Ground.phase }, { on := 11, ground := Go.Ground.phase }, { on := 12, ground := Go.Ground.phase }, { on := 13, ground := Go.Ground.phase }, { on := 14, ground := Go.Ground.phase }, { on := 15, ground := Go.Ground.phase }, { on := 16, ground := Go.Ground.phase }, { on := 17, ground := Go.Ground.phase }], guard := none }) (v := .int .i64 y) rfl rfl (by kernel_rfl) (by kernel_rfl) (by kernel_rfl) (by kernel_rfl) (fun _ _ _ h => h) (Or.inl ⟨by kernel_rfl, ?_⟩) HB4.out.drew ?_
  · (intro X hX; obtain ⟨x0, x1, x2, x3, x4, x5, x6⟩ := HX.out X hX <;> (go_simp; try (with_reducible rfl)))
  (try simp only [Act.put, List.setIfInBounds_toArray, List.set_cons_zero, List.set_cons_succ])
  refine wpAnyN_take (i := 11) (oi := { dst := some 33, op := Go.Op.binOp Go.BinOp.sub 3 (Go.Operand.tmp 32) (Go.Operand.const (Go.Value.int Go.IntKind.i64 1)) 3, type := 3, pos := "fetched.go:22", after := #[{ on := 10, ground := Go.Ground.data }], guard := none }) (oL := { dst := none, op := Go.Op.store 105 (Go.Operand.tmp 6) (Go.Operand.tmp 38), type := 0, pos := "fetched.go:22", after := #[{ on := 17, ground := Go.Ground.data }, { on := 16, ground := Go.Ground.data }, { on := 0, ground := Go.Ground.phase }, { on := 1, ground := Go.Ground.phase }, { on := 2, ground := Go.Ground.phase }, { on := 3, ground := Go.Ground.phase }, { on := 4, ground := Go.Ground.phase }, { on := 5, ground := Go.Ground.phase }, { on := 6, ground := Go.Ground.phase }, { on := 7, ground := Go.Ground.phase }, { on := 8, ground := Go.Ground.phase }, { on := 9, ground := Go.Ground.phase }, { on := 10, ground := Go.Ground.phase }, { on := 11, ground := Go.Ground.phase }, { on := 12, ground := Go.Ground.phase }, { on := 13, ground := Go.Ground.phase }, { on := 14, ground := Go.Ground.phase }, { on := 15, ground := Go.Ground.phase }, { on := 16, ground := Go.Ground.phase }, { on := 17, ground := Go.Ground.phase }], guard := none }) (v := .int .i64 (i : Int)) rfl rfl (by kernel_rfl) (by kernel_rfl) (by kernel_rfl) (by kernel_rfl) (fun _ _ _ h => h) (Or.inl ⟨by kernel_rfl, ?_⟩) HB4.out.drew ?_
  · (intro X hX; obtain ⟨x0, x1, x2, x3, x4, x5, x6⟩ := HX.out X hX <;> (go_simp; try (with_reducible rfl)))
  (try simp only [Act.put, List.setIfInBounds_toArray, List.set_cons_zero, List.set_cons_succ])
  refine wpAnyN_take (i := 12) (oi := { dst := some 34, op := Go.Op.load 96 (Go.Operand.tmp 5), type := 96, pos := "fetched.go:22", after := #[], guard := none }) (oL := { dst := none, op := Go.Op.store 105 (Go.Operand.tmp 6) (Go.Operand.tmp 38), type := 0, pos := "fetched.go:22", after := #[{ on := 17, ground := Go.Ground.data }, { on := 16, ground := Go.Ground.data }, { on := 0, ground := Go.Ground.phase }, { on := 1, ground := Go.Ground.phase }, { on := 2, ground := Go.Ground.phase }, { on := 3, ground := Go.Ground.phase }, { on := 4, ground := Go.Ground.phase }, { on := 5, ground := Go.Ground.phase }, { on := 6, ground := Go.Ground.phase }, { on := 7, ground := Go.Ground.phase }, { on := 8, ground := Go.Ground.phase }, { on := 9, ground := Go.Ground.phase }, { on := 10, ground := Go.Ground.phase }, { on := 11, ground := Go.Ground.phase }, { on := 12, ground := Go.Ground.phase }, { on := 13, ground := Go.Ground.phase }, { on := 14, ground := Go.Ground.phase }, { on := 15, ground := Go.Ground.phase }, { on := 16, ground := Go.Ground.phase }, { on := 17, ground := Go.Ground.phase }], guard := none }) (v := .pointer (some ⟨P, 1, none⟩)) rfl rfl (by kernel_rfl) (by kernel_rfl) (by kernel_rfl) (by kernel_rfl) (fun _ _ _ h => h) (Or.inl ⟨by kernel_rfl, ?_⟩) HB4.out.drew ?_
  · (intro X hX; obtain ⟨x0, x1, x2, x3, x4, x5, x6⟩ := HX.out X hX <;> (go_simp; try (with_reducible rfl)))
  (try simp only [Act.put, List.setIfInBounds_toArray, List.set_cons_zero, List.set_cons_succ])
  refine wpAnyN_take (i := 13) (oi := { dst := some 35, op := Go.Op.nilCheck (Go.Operand.tmp 34), type := 0, pos := "fetched.go:22", after := #[{ on := 12, ground := Go.Ground.data }], guard := none }) (oL := { dst := none, op := Go.Op.store 105 (Go.Operand.tmp 6) (Go.Operand.tmp 38), type := 0, pos := "fetched.go:22", after := #[{ on := 17, ground := Go.Ground.data }, { on := 16, ground := Go.Ground.data }, { on := 0, ground := Go.Ground.phase }, { on := 1, ground := Go.Ground.phase }, { on := 2, ground := Go.Ground.phase }, { on := 3, ground := Go.Ground.phase }, { on := 4, ground := Go.Ground.phase }, { on := 5, ground := Go.Ground.phase }, { on := 6, ground := Go.Ground.phase }, { on := 7, ground := Go.Ground.phase }, { on := 8, ground := Go.Ground.phase }, { on := 9, ground := Go.Ground.phase }, { on := 10, ground := Go.Ground.phase }, { on := 11, ground := Go.Ground.phase }, { on := 12, ground := Go.Ground.phase }, { on := 13, ground := Go.Ground.phase }, { on := 14, ground := Go.Ground.phase }, { on := 15, ground := Go.Ground.phase }, { on := 16, ground := Go.Ground.phase }, { on := 17, ground := Go.Ground.phase }], guard := none }) (v := .pointer (some ⟨P, 1, none⟩)) rfl rfl (by kernel_rfl) (by kernel_rfl) (by kernel_rfl) (by kernel_rfl) (fun _ _ _ h => h) (Or.inl ⟨by kernel_rfl, ?_⟩) HB4.out.drew ?_
  · (intro X hX; obtain ⟨x0, x1, x2, x3, x4, x5, x6⟩ := HX.out X hX <;> (go_simp; try (with_reducible rfl)))
  (try simp only [Act.put, List.setIfInBounds_toArray, List.set_cons_zero, List.set_cons_succ])
  refine wpAnyN_take (i := 14) (oi := { dst := some 36, op := Go.Op.fieldAddr 73 (Go.Operand.tmp 35) 3, type := 0, pos := "fetched.go:22", after := #[{ on := 13, ground := Go.Ground.data }], guard := none }) (oL := { dst := none, op := Go.Op.store 105 (Go.Operand.tmp 6) (Go.Operand.tmp 38), type := 0, pos := "fetched.go:22", after := #[{ on := 17, ground := Go.Ground.data }, { on := 16, ground := Go.Ground.data }, { on := 0, ground := Go.Ground.phase }, { on := 1, ground := Go.Ground.phase }, { on := 2, ground := Go.Ground.phase }, { on := 3, ground := Go.Ground.phase }, { on := 4, ground := Go.Ground.phase }, { on := 5, ground := Go.Ground.phase }, { on := 6, ground := Go.Ground.phase }, { on := 7, ground := Go.Ground.phase }, { on := 8, ground := Go.Ground.phase }, { on := 9, ground := Go.Ground.phase }, { on := 10, ground := Go.Ground.phase }, { on := 11, ground := Go.Ground.phase }, { on := 12, ground := Go.Ground.phase }, { on := 13, ground := Go.Ground.phase }, { on := 14, ground := Go.Ground.phase }, { on := 15, ground := Go.Ground.phase }, { on := 16, ground := Go.Ground.phase }, { on := 17, ground := Go.Ground.phase }], guard := none }) (v := .pointer (some ⟨P, 4, none⟩)) rfl rfl (by kernel_rfl) (by kernel_rfl) (by kernel_rfl) (by kernel_rfl) (fun _ _ _ h => h) (Or.inl ⟨by kernel_rfl, ?_⟩) HB4.out.drew ?_
  · (intro X hX; obtain ⟨x0, x1, x2, x3, x4, x5, x6⟩ := HX.out X hX <;> (go_simp; try (with_reducible rfl)))
  (try simp only [Act.put, List.setIfInBounds_toArray, List.set_cons_zero, List.set_cons_succ])
  refine wpAnyN_take (i := 15) (oi := { dst := some 37, op := Go.Op.load 3 (Go.Operand.tmp 36), type := 3, pos := "fetched.go:22", after := #[{ on := 14, ground := Go.Ground.data }], guard := none }) (oL := { dst := none, op := Go.Op.store 105 (Go.Operand.tmp 6) (Go.Operand.tmp 38), type := 0, pos := "fetched.go:22", after := #[{ on := 17, ground := Go.Ground.data }, { on := 16, ground := Go.Ground.data }, { on := 0, ground := Go.Ground.phase }, { on := 1, ground := Go.Ground.phase }, { on := 2, ground := Go.Ground.phase }, { on := 3, ground := Go.Ground.phase }, { on := 4, ground := Go.Ground.phase }, { on := 5, ground := Go.Ground.phase }, { on := 6, ground := Go.Ground.phase }, { on := 7, ground := Go.Ground.phase }, { on := 8, ground := Go.Ground.phase }, { on := 9, ground := Go.Ground.phase }, { on := 10, ground := Go.Ground.phase }, { on := 11, ground := Go.Ground.phase }, { on := 12, ground := Go.Ground.phase }, { on := 13, ground := Go.Ground.phase }, { on := 14, ground := Go.Ground.phase }, { on := 15, ground := Go.Ground.phase }, { on := 16, ground := Go.Ground.phase }, { on := 17, ground := Go.Ground.phase }], guard := none }) (v := .int .i64 hh) rfl rfl (by kernel_rfl) (by kernel_rfl) (by kernel_rfl) (by kernel_rfl) (fun _ _ _ h => h) (Or.inl ⟨by kernel_rfl, ?_⟩) HB4.out.drew ?_
  · (intro X hX; obtain ⟨x0, x1, x2, x3, x4, x5, x6⟩ := HX.out X hX <;> (go_simp; try (with_reducible rfl)))
  (try simp only [Act.put, List.setIfInBounds_toArray, List.set_cons_zero, List.set_cons_succ])
  refine wpAnyN_take (i := 16) (oi := { dst := some 38, op := Go.Op.build 105 #[(0, Go.Operand.tmp 30), (1, Go.Operand.tmp 33), (2, Go.Operand.tmp 37)], type := 105, pos := "fetched.go:22", after := #[{ on := 8, ground := Go.Ground.data }, { on := 11, ground := Go.Ground.data }, { on := 15, ground := Go.Ground.data }], guard := none }) (oL := { dst := none, op := Go.Op.store 105 (Go.Operand.tmp 6) (Go.Operand.tmp 38), type := 0, pos := "fetched.go:22", after := #[{ on := 17, ground := Go.Ground.data }, { on := 16, ground := Go.Ground.data }, { on := 0, ground := Go.Ground.phase }, { on := 1, ground := Go.Ground.phase }, { on := 2, ground := Go.Ground.phase }, { on := 3, ground := Go.Ground.phase }, { on := 4, ground := Go.Ground.phase }, { on := 5, ground := Go.Ground.phase }, { on := 6, ground := Go.Ground.phase }, { on := 7, ground := Go.Ground.phase }, { on := 8, ground := Go.Ground.phase }, { on := 9, ground := Go.Ground.phase }, { on := 10, ground := Go.Ground.phase }, { on := 11, ground := Go.Ground.phase }, { on := 12, ground := Go.Ground.phase }, { on := 13, ground := Go.Ground.phase }, { on := 14, ground := Go.Ground.phase }, { on := 15, ground := Go.Ground.phase }, { on := 16, ground := Go.Ground.phase }, { on := 17, ground := Go.Ground.phase }], guard := none }) (v := .agg #[.int .i64 ru, .bool rk, .slice fa fn fc, .int .i64 (i : Int), .int .i64 hh]) rfl rfl (by kernel_rfl) (by kernel_rfl) (by kernel_rfl) (by kernel_rfl) (fun _ _ _ h => h) (Or.inl ⟨by kernel_rfl, ?_⟩) HB4.out.drew ?_
  · (intro X hX; obtain ⟨x0, x1, x2, x3, x4, x5, x6⟩ := HX.out X hX <;> (go_simp; try (with_reducible rfl)))
  (try simp only [Act.put, List.setIfInBounds_toArray, List.set_cons_zero, List.set_cons_succ])
  refine wpAnyN_one (i := 17) (o := { dst := some 6, op := Go.Op.alloc 105, type := 0, pos := "fetched.go:22", after := #[], guard := none }) (by kernel_rfl) rfl (fun K hK => ?_)
  go_simp
  refine hK.out _ _ (fun _ => (third_below HB4.out.drew _)) ?_
  clear hK K
  (try simp only [Act.put, List.setIfInBounds_toArray, List.set_cons_zero, List.set_cons_succ])
  refine wpAnyN_one (i := 18) (o := { dst := none, op := Go.Op.store 105 (Go.Operand.tmp 6) (Go.Operand.tmp 38), type := 0, pos := "fetched.go:22", after := #[{ on := 17, ground := Go.Ground.data }, { on := 16, ground := Go.Ground.data }, { on := 0, ground := Go.Ground.phase }, { on := 1, ground := Go.Ground.phase }, { on := 2, ground := Go.Ground.phase }, { on := 3, ground := Go.Ground.phase }, { on := 4, ground := Go.Ground.phase }, { on := 5, ground := Go.Ground.phase }, { on := 6, ground := Go.Ground.phase }, { on := 7, ground := Go.Ground.phase }, { on := 8, ground := Go.Ground.phase }, { on := 9, ground := Go.Ground.phase }, { on := 10, ground := Go.Ground.phase }, { on := 11, ground := Go.Ground.phase }, { on := 12, ground := Go.Ground.phase }, { on := 13, ground := Go.Ground.phase }, { on := 14, ground := Go.Ground.phase }, { on := 15, ground := Go.Ground.phase }, { on := 16, ground := Go.Ground.phase }, { on := 17, ground := Go.Ground.phase }], guard := none }) (by kernel_rfl) rfl (fun K hK => ?_)
  go_simp
  refine hK.out _ _ (fun e => absurd (e.symm.trans (by kernel_rfl) : false = true) Bool.false_ne_true) ?_
  clear hK K
  (try simp only [Act.put, List.setIfInBounds_toArray, List.set_cons_zero, List.set_cons_succ])
  refine wpAnyN_of_H (S' := fun _ => True) _ _ _ _ (by kernel_rfl) ?_
  refine wpAnyH_done (by kernel_rfl) ?_ _
  go_upto_region 5 with fail
  refine wp_gen (fun Z hZ => ?_)
  have hZ2 : Below w4.heap.size w4 Z ∧ Z.heap[w4.heap.size]? = some (dfO ru rk (.slice fa fn fc) i hh) := by
    first
      | (have k := box_below (w := w4.drew) hZ.symm; exact ⟨⟨k.1.os, k.1.tape, k.1.output, k.1.size, k.1.block⟩, k.2⟩)
      | (rw [hZ]; exact ⟨(third_below ((Below.refl _ _).drew) _), heap_new _ _⟩)
  have HZb := Lib.hid hZ2.1
  obtain ⟨hwZ, hft0⟩ := HST.out w4 Z HB4.out hZ2.1 hZ2.2
  have HWZ := Lib.hid hwZ
  have HF0 := Lib.hid hft0
  have dcell := HDc.out _ (HB4.out.trans (hZ2.1.mono HB4.out.size))
  have HDl : Hid (w.heap.size ≤ w4.heap.size) := Lib.hid (Nat.le_trans Q2.out.size HB4.out.size)
  have HPc : Hid (∀ X, Stays [w4.heap.size] Z X → X.cell? ⟨w.heap.size + 1, 0, none⟩ = some (.pointer (some ⟨P, 1, none⟩))) := Lib.hid (fun X hX => by
    have k4 := HPP.out w4 HB4.out
    have kZ := bel_at HZb.out (lt_of_heap k4) k4
    have kX : X.heap[w.heap.size + 1]? = some (ppO P) := by
      rw [hX.block _ (lt_of_heap kZ) (fun e => by have := lt_of_heap k4; simp at e; omega)]
      exact kZ
    unfold ppO at kX
    exact cell_of kX 0)
  clear hZ hZ2 hwZ hft0
  go_wp2_with fail
  clear dcell
  go_loopw [42] (fun x wr => ∃ (j : Nat) (X : World) (d : PD), X = wr ∧ x = .int .i64 j ∧ j ≤ N ∧ FeT fr M w.heap.size w4.heap.size i ⟨p, hh⟩ data Z j d X) (fun x _ => N - (intOf x).toNat)
  case atStart => exact ⟨0, _, _, rfl, rfl, Nat.zero_le _, HF0.out⟩
  case round =>
    obtain ⟨j, X, d, rfl, rfl, hj, hG⟩ := hrel
    have HG := Lib.hid hG
    clear hG
    by_cases hlt : j < N
    · have hlti : (j : Int) < (N : Int) := by omega
      have hjb : (N : Int) ≤ 1000000 := by have := HLe.out.1; omega
      have hbX := stays_below HWZ.out HG.out.st HDl.out (Nat.le_refl _)
      obtain ⟨gd, od, rfl, nm, k, n, t, ka, kn, kc, l, hx, d0, d1, d2, d3, d4, hkids⟩ := HCD.out X hbX j hlt
      obtain ⟨X1, hX1⟩ : ∃ X1, X.alloc (.cells #[.string nm, .int .i64 k, .int .i64 n, .string t, .slice ka kn kc] 66) = X1 := ⟨_, rfl⟩
      have b1 : Below X.heap.size X X1 := by rw [← hX1]; exact (Below.refl _ _).alloc (Nat.le_refl _) _
      have rr1 : X1.heap[X.heap.size]? = some (.cells #[.string nm, .int .i64 k, .int .i64 n, .string t, .slice ka kn kc] 66 (0, 0)) := by rw [← hX1]; exact heap_new _ _
      have HRG : Hid (X1.rangeAt X.heap.size 0 [.string nm, .int .i64 k, .int .i64 n, .string t, .slice ka kn kc]) := Lib.hid (box_range (z := 5) (cs := [.string nm, .int .i64 k, .int .i64 n, .string t, .slice ka kn kc]) rr1 0)
      have HX1 := Lib.hid hX1
      have cp : X1.cell? ⟨w.heap.size + 1, 0, none⟩ = some (.pointer (some ⟨P, 1, none⟩)) := HPc.out X1 (HG.out.st.trans (Stays.ofBelow (fp := [w4.heap.size]) b1) (fun _ e => .inl e))
      have HC : Hid (Calls Tryd.prog 49 #[.pointer (some ⟨P, 1, none⟩), .pointer (some ⟨w4.heap.size, 0, none⟩), .agg #[.string nm, .int .i64 k, .int .i64 n, .string t, .slice ka kn kc]] X1 (LrO fr w.heap.size w4.heap.size i (learnD M i d (nm, ⟨k, n, l⟩)) X1)) := Lib.hid (HLn.out w4.heap.size d nm k n t ka kn kc l X1 (hbX.trans (b1.mono hbX.size)) HDl.out (HG.out.dr.bel b1 (fun b hb => Nat.lt_of_lt_of_le (HFr.out b hb) hbX.size)) (hkids.on b1))
      obtain ⟨ev1, ev2⟩ := HEv.out j d _ hx (HRes.out.symm.trans HG.out.ln)
      have hst1 : Stays [w4.heap.size] Z X1 := HG.out.st.trans (Stays.ofBelow (fp := [w4.heap.size]) b1) (fun _ e => .inl e)
      have HS1 := Lib.hid hst1
      have HBw := Lib.hid (hbX.trans (b1.mono hbX.size))
      clear hX1 b1 rr1 hkids hx hbX hst1
      cases hlr : learnD M i d (nm, ⟨k, n, l⟩) with
      | none =>
        rw [hlr] at HC
        have HE := Lib.hid (ev1 hlr)
        clear ev1 ev2 hlr
        go_upto_region 8 with fail
        rw [HX1.out]
        clear HX1 d0 d1 d2 d3 d4
        go_wp2_with (first | (refine wpList_load_mid rfl 66 _ rfl X.heap.size 0 rfl [.string nm, .int .i64 k, .int .i64 n, .string t, .slice ka kn kc] _ HRG.out Tryd.underlying66 rfl Tryd.sizeDt ?_) | (go_at_call 49; refine HC.out.mono ?_; rintro e w5 ⟨rfl, hs5, _⟩; have HS5 := Lib.hid hs5; clear hs5))
        go_ret
        rw [HE.out]
        exact ⟨stays_below (stays_below HWZ.out HS1.out HDl.out (Nat.le_refl _)) HS5.out HDl.out (Nat.le_refl _), rfl⟩
      | some d' =>
        rw [hlr] at HC
        have HE := Lib.hid (ev2 d' hlr)
        clear ev1 ev2 hlr
        go_upto_region 8 with fail
        rw [HX1.out]
        clear HX1 d0 d1 d2 d3 d4
        go_wp2_with (first | (refine wpList_load_mid rfl 66 _ rfl X.heap.size 0 rfl [.string nm, .int .i64 k, .int .i64 n, .string t, .slice ka kn kc] _ HRG.out Tryd.underlying66 rfl Tryd.sizeDt ?_) | (go_at_call 49; refine HC.out.mono ?_; rintro e w5 ⟨rfl, hs5, hd5⟩; have HS5 := Lib.hid (And.intro hs5 (hd5 d' rfl)); clear hs5 hd5))
        go_roundw
        case rel => exact ⟨j + 1, _, d', rfl, by go_num, by omega, ⟨HS1.out.trans HS5.out.1 (fun _ e => .inl e), HS5.out.2, HRes.out.trans HE.out⟩⟩
        case measure => simp [intOf]; omega
    · obtain rfl : j = N := by omega
      have hlti : ¬ (j : Int) < (j : Int) := by omega
      have HF := Lib.hid (FIN.out w4 Z d X HB4.out HZb.out HWZ.out HG.out)
      clear FIN
      go_wp2_with fail
      go_ret
      exact HF.out
theorem fetched_M (P : Nat) (fr : List Nat) (M : PM) (a : AN) (w : World) (h : MAt P fr M w) (hq : M.q.length ≤ 1000000) (hrn : M.rows.length ≤ 1000000) (data : List (ByteArray × PV)) (hdat : DataA w a.data data) : Calls Tryd.prog 34 #[.pointer (some ⟨P, 0, none⟩), .agg (anC a)] w (ChgOut P fr M (fetF M a.num data) w) := by
  unfold fetF
  cases htel : telM M with
  | false => rw [if_pos (.inl rfl)]; exact fetched_tel P fr M a w h hq htel
  | true =>
    cases hhas : hasM M a.num with
    | false => rw [if_pos (.inr rfl)]; exact fetched_has P fr M a w h hq htel hhas
    | true =>
      rw [if_neg (by simp)]
      have hh := hhas
      unfold hasM at hh
      simp only [Bool.and_eq_true, decide_eq_true_eq] at hh
      exact fetched_go P fr M a w h hq hrn data hdat htel hhas (a.num - 1).toNat (by omega) (by omega)
end Go.Proofs.YtlmlbcnjohjnlaaDoor

/- mirror: Hear, of any answer. -/
namespace Go.Proofs.YtlmlbcnjohjnlaaDoor
open Go.RowKit

def codP (M : PM) (code : Int) (arg : Option (Int × Int)) : Option (PM → PM) :=
  if code = 10 ∨ code = 9 ∨ code = 13 then (match arg with
    | none => none
    | some x => if isNm x.1 x.2 0 = true then (if opnM M = true then some (fun N => if code = 10 then { N with v := x.2 } else if code = 9 then { N with n := x.2 } else { N with h := x.2 }) else some id) else none)
  else some id
def staP (M : PM) (n : PN) : Option (PM → PM) :=
  if n.out < 1 ∨ 4 < n.out then none
  else if n.tag.toList.isEmpty = false then ansF M n.tag n.out
  else if n.out = 4 then some nopM
  else if n.out = 1 then codP M n.code n.arg
  else some id
/-- What an answer changes. -/
def chgP (M : PM) (n : PN) : Option (PM → PM) :=
  if n.k < 0 ∨ 19 ≤ n.k then none
  else if n.k = 0 ∨ n.k = 18 then none
  else if n.k = 1 then staP M n
  else if n.k = 11 then exF M n.num
  else if n.k = 13 then expF M n.num
  else if n.k = 14 then fetF M n.num n.data
  else some id
def begP (M : PM) (n : PN) : Bool := opnM M && !M.bg && !(n.k == 1 && !n.tag.toList.isEmpty && n.out == 3)
/-- A mirror behind an answer, and what is told. -/
def hearP (M : PM) (n : PN) : PM := match chgP M n with
  | none => M
  | some f => f (bgM (begP M n) M)
/-- An answer in memory. -/
structure AnsA (W : World) (a : AN) (n : PN) : Prop where
  k : a.k = n.k
  tag : a.tag = n.tag
  out : a.out = n.out
  code : a.code = n.code
  num : a.num = n.num
  args : ∃ args, KidsA W a.args args ∧ n.arg = args.head?.map (fun x => (x.1, x.2.1))
  data : DataA W a.data n.data
/-- What is small. -/
structure SmQ (M : PM) : Prop where
  q : M.q.length ≤ 1000000
  rows : M.rows.length ≤ 1000000
  sets : ∀ c ∈ M.q, c.set.length ≤ 1000000
section
variable (P : Nat) (fr : List Nat) (M : PM) (a : AN) (n : PN) (W w : World)
theorem isFn_state : IsFn 30 := fun _ _ => by kernel_rfl
theorem isFn_nothing : IsFn 31 := fun _ _ => by kernel_rfl
theorem isFn_exists : IsFn 32 := fun _ _ => by kernel_rfl
theorem isFn_expunge : IsFn 33 := fun _ _ => by kernel_rfl
theorem isFn_fetched : IsFn 34 := fun _ _ => by kernel_rfl
theorem coded_M (h : MAt P fr M w) (hq : M.q.length ≤ 1000000) (hn : AnsA W a n) (hW : Below W.heap.size W w) (hfr : ∀ b, b ∈ fr → W.heap.size ≤ b) :
    Calls Tryd.prog 40 #[.pointer (some ⟨P, 0, none⟩), .agg (anC a)] w (ChgOut P fr M (codP M n.code n.arg) w) := by
  obtain ⟨args, hka, harg⟩ := hn.args
  rw [← hn.code]
  unfold codP
  by_cases hc : a.code = 10 ∨ a.code = 9 ∨ a.code = 13
  · rw [if_pos hc, harg]
    have hka2 := hka.on hW
    obtain ⟨ga, gc, hga, hgl, hgk⟩ := hka
    cases args with
    | nil =>
      simp only [List.head?_nil, Option.map_none]
      rcases hc with hc | hc | hc
      · exact coded_none_10 P fr M a w hc ga gc hga
      · exact coded_none_9 P fr M a w hc ga gc hga
      · exact coded_none_13 P fr M a w hc ga gc hga
    | cons x l =>
      simp only [List.head?_cons, Option.map_some]
      obtain ⟨g, o, rfl, hg, hc0⟩ := hgk (by simp)
      obtain ⟨_, ka, kn, kc, c0, c1, c2, c3⟩ := hc0 0 x rfl
      simp only [Nat.zero_mul, Nat.add_zero] at c0 c1 c2 c3
      have hA : ArgA fr w a.args x.1 x.2.1 := by
        refine ⟨g, o, _, gc, x.2.2, ka, kn, kc, hga, by simp, Nat.lt_of_lt_of_le hg hW.size, fun e => by have := hfr g e; omega, ?_, ?_, ?_, ?_⟩
        · rw [hW.cell (p := ⟨g, o, none⟩) hg]; exact c0
        · rw [hW.cell (p := ⟨g, o + 1, none⟩) hg]; exact c1
        · rw [hW.cell (p := ⟨g, o + 2, none⟩) hg]; exact c2
        · rw [hW.cell (p := ⟨g, o + 3, none⟩) hg]; exact c3
      cases hnm : isNm x.1 x.2.1 0 with
      | false =>
        rw [if_neg (by simp)]
        rcases hc with hc | hc | hc
        · exact coded_bad_10 P fr M a w hc _ _ hA hnm
        · exact coded_bad_9 P fr M a w hc _ _ hA hnm
        · exact coded_bad_13 P fr M a w hc _ _ hA hnm
      | true =>
        rw [if_pos rfl]
        cases hop : opnM M with
        | false =>
          rw [if_neg (by simp)]
          rcases hc with hc | hc | hc
          · exact coded_shut_10 P fr M a w h hc _ _ hA hnm hq hop
          · exact coded_shut_9 P fr M a w h hc _ _ hA hnm hq hop
          · exact coded_shut_13 P fr M a w h hc _ _ hA hnm hq hop
        | true =>
          rw [if_pos rfl]
          rcases hc with hc | hc | hc
          · have := coded_go_10 P fr M a w h hc _ _ hA hnm hq hop
            simp only [hc, if_true]
            exact this
          · have := coded_go_9 P fr M a w h hc _ _ hA hnm hq hop
            simp only [hc, show ¬ (9 : Int) = 10 by decide, if_false, if_true]
            exact this
          · have := coded_go_13 P fr M a w h hc _ _ hA hnm hq hop
            simp only [hc, show ¬ (13 : Int) = 10 by decide, show ¬ (13 : Int) = 9 by decide, if_false]
            exact this
  · rw [if_neg hc]
    exact coded_other P fr M a w (fun e => hc (.inl e)) (fun e => hc (.inr (.inl e))) (fun e => hc (.inr (.inr e)))
theorem state_M (h : MAt P fr M w) (hs : SmQ M) (hn : AnsA W a n) (hW : Below W.heap.size W w) (hfr : ∀ b, b ∈ fr → W.heap.size ≤ b) :
    Calls Tryd.prog 30 #[.pointer (some ⟨P, 0, none⟩), .agg (anC a)] w (ChgOut P fr M (staP M n) w) := by
  unfold staP
  rw [← hn.out, ← hn.tag]
  by_cases ho : a.out < 1 ∨ 4 < a.out
  · rw [if_pos ho]
    exact state_bad P fr M a w ho
  · rw [if_neg ho]
    cases ht : a.tag.toList.isEmpty with
    | false =>
      rw [if_pos rfl]
      exact state_answered P fr M _ a w (by omega) (by omega) ht (fun X hX => answered_M P fr M a X (h.bel hX) hs.q hs.sets hs.rows)
    | true =>
      rw [if_neg (by simp)]
      by_cases h4 : a.out = 4
      · rw [if_pos h4]
        exact state_bye P fr M a w h.lt h4 ht
      · rw [if_neg h4]
        by_cases h1 : a.out = 1
        · rw [if_pos h1]
          exact state_coded P fr M _ a w h1 ht (fun X hX => coded_M P fr M a n W X (h.bel hX) hs.q hn (hW.trans (hX.mono hW.size)) hfr)
        · rw [if_neg h1]
          exact state_other P fr M _ a w (by omega) (by omega) ht (fun X _ => nothing_any P fr M a X)
theorem change_M (h : MAt P fr M w) (hs : SmQ M) (hn : AnsA W a n) (hW : Below W.heap.size W w) (hfr : ∀ b, b ∈ fr → W.heap.size ≤ b) :
    Calls Tryd.prog 20 #[.pointer (some ⟨P, 0, none⟩), .agg (anC a)] w (ChgOut P fr M (chgP M n) w) := by
  unfold chgP
  rw [← hn.k, ← hn.num]
  by_cases hk : a.k < 0 ∨ 19 ≤ a.k
  · rw [if_pos hk]
    exact change_out P fr M a hk w
  · rw [if_neg hk]
    obtain ⟨K, hK⟩ : ∃ K : Nat, a.k = (K : Int) := ⟨a.k.toNat, by omega⟩
    have hKl : K < 19 := by omega
    have nth : ∀ (hkn : kndA[K]? = some (.func (.func 31) #[] #[])), Calls Tryd.prog 20 #[.pointer (some ⟨P, 0, none⟩), .agg (anC a)] w (ChgOut P fr M (some id) w) := fun hkn =>
      change_fn P fr M (some id) a K hK hKl _ isFn_nothing hkn w (fun X _ => nothing_any P fr M a X)
    have hKs : K = 0 ∨ K = 18 ∨ K = 1 ∨ K = 11 ∨ K = 13 ∨ K = 14 ∨ (K = 2 ∨ K = 3 ∨ K = 4 ∨ K = 5 ∨ K = 6 ∨ K = 7 ∨ K = 8 ∨ K = 9 ∨ K = 10 ∨ K = 12 ∨ K = 15 ∨ K = 16 ∨ K = 17) := by omega
    rcases hKs with rfl | rfl | rfl | rfl | rfl | rfl | hKs
    · rw [if_pos (.inl hK)]
      exact change_nil P fr M a 0 hK hKl rfl w
    · rw [if_pos (.inr hK)]
      exact change_nil P fr M a 18 hK hKl rfl w
    · rw [if_neg (by omega), if_pos (show a.k = 1 by omega)]
      exact change_fn P fr M _ a 1 hK hKl _ isFn_state rfl w (fun X hX => state_M P fr M a n W X (h.bel hX) hs hn (hW.trans (hX.mono hW.size)) hfr)
    · rw [if_neg (by omega), if_neg (by omega), if_pos (show a.k = 11 by omega)]
      exact change_fn P fr M _ a 11 hK hKl _ isFn_exists rfl w (fun X hX => exists_M P fr M a X (h.bel hX) hs.q)
    · rw [if_neg (by omega), if_neg (by omega), if_neg (by omega), if_pos (show a.k = 13 by omega)]
      exact change_fn P fr M _ a 13 hK hKl _ isFn_expunge rfl w (fun X hX => expunge_M P fr M a X (h.bel hX) hs.q hs.rows)
    · rw [if_neg (by omega), if_neg (by omega), if_neg (by omega), if_neg (by omega), if_pos (show a.k = 14 by omega)]
      exact change_fn P fr M _ a 14 hK hKl _ isFn_fetched rfl w (fun X hX => fetched_M P fr M a X (h.bel hX) hs.q hs.rows n.data (hn.data.on (hW.trans (hX.mono hW.size))))
    · rw [if_neg (by omega), if_neg (by omega), if_neg (by omega), if_neg (by omega), if_neg (by omega)]
      rcases hKs with rfl | rfl | rfl | rfl | rfl | rfl | rfl | rfl | rfl | rfl | rfl | rfl | rfl <;> exact nth rfl
/-- What Hear answers. -/
def HeardOut (e : Ending) (w' : World) : Prop := e = .returned (.int .i64 (if (chgP M n).isSome then 0 else 190)) ∧ MG P fr (hearP M n) w w'
theorem Hear_any (h : MAt P fr M w) (hs : SmQ M) (hn : AnsA W a n) (hW : Below W.heap.size W w) (hfr : ∀ b, b ∈ fr → W.heap.size ≤ b) :
    Calls Tryd.prog 9 #[.pointer (some ⟨P, 0, none⟩), .agg (anC a)] w (HeardOut P fr M n w) := by
  have hb : Below w.heap.size w (w.alloc (anO a)) := (Below.refl _ _).alloc (Nat.le_refl _) _
  have hc := change_M P fr M a n W (w.alloc (anO a)) (h.bel hb) hs hn (hW.trans (hb.mono hW.size)) hfr
  have hbg : begB M a = begP M n := by unfold begB begP ownBad; rw [hn.k, hn.tag, hn.out]
  unfold HeardOut hearP
  revert hc
  cases chgP M n with
  | none =>
    intro hc
    exact (Hear_M P fr M a none w h hs.q hc).mono (fun e w' k => ⟨k.1, k.2⟩)
  | some f =>
    intro hc
    have hh := Hear_M P fr M a (some f) w h hs.q hc
    simp only [hbg] at hh
    exact hh.mono (fun e w' k => ⟨k.1, k.2⟩)
end
end Go.Proofs.YtlmlbcnjohjnlaaDoor

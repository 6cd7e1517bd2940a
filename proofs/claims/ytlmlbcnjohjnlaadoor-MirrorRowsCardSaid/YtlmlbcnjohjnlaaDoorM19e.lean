/- mirror: what an EXISTS changes. -/
import Derived.Test.YtlmlbcnjohjnlaaDoorM19b
import Derived.Test.YtlmlbcnjohjnlaaDoorZv
namespace Go.Proofs.YtlmlbcnjohjnlaaDoor
open Go.RowKit

theorem an_cells {X : World} {b : Nat} {a : AN} (h : X.heap[b]? = some (anO a)) : X.cell? ⟨b, 0, none⟩ = some (.int .i64 a.k) ∧ X.cell? ⟨b, 1, none⟩ = some (.string a.tag) ∧ X.cell? ⟨b, 2, none⟩ = some (.int .i64 a.out) ∧ X.cell? ⟨b, 3, none⟩ = some (.int .i64 a.code) ∧ X.cell? ⟨b, 4, none⟩ = some a.args ∧ X.cell? ⟨b, 6, none⟩ = some (.int .i64 a.num) := by
  unfold anO anC at h
  exact ⟨cell_of h 0, cell_of h 1, cell_of h 2, cell_of h 3, cell_of h 4, cell_of h 6⟩
theorem Tryd.sizeAn : (Tryd.prog.info? 43).map (·.size) = some 16 := by kernel_rfl
theorem an_range {X : World} {b : Nat} {a : AN} (h : X.heap[b]? = some (anO a)) : X.rangeAt b 0 (anC a).toList := by
  intro j u hj
  rw [Nat.zero_add]
  rw [cell_of (show X.heap[b]? = some (.cells (anC a) 43 (0, 0)) from h)]
  simpa using hj
theorem bel_at {w w' : World} {B b : Nat} {o : Obj} (h : Below B w w') (hb : b < B) (e : w.heap[b]? = some o) : w'.heap[b]? = some o := by rw [h.block b hb]; exact e
def ppO (P : Nat) : Obj := .cells #[.pointer (some ⟨P, 1, none⟩)] 96
set_option maxRecDepth 10000 in
set_option maxHeartbeats 2000000 in
theorem exists_deny (P : Nat) (q : Value) (sel : Bool) (k : Option AK) (a : AN) (w : World) (hq : w.cell? ⟨P, 0, none⟩ = some q) (hs1 : w.cell? ⟨P, 1, none⟩ = some (.bool sel)) (hP : P < w.heap.size) (hh : Hand w q k) (h0 : 0 ≤ a.num) (h1 : a.num ≤ 262144) (ho : opn k = false) (ht : tellB k sel = false) :
    Calls Tryd.prog 32 #[.pointer (some ⟨P, 0, none⟩), .agg (anC a)] w fun e w' => e = .returned .nilFunc ∧ Below w.heap.size w w' := by
  have q2 := two_below w (anO a) (ppO P)
  obtain ⟨Y, hY⟩ : ∃ Y, (w.alloc (anO a)).alloc (ppO P) = Y := ⟨_, rfl⟩
  rw [hY] at q2
  have r0 : Y.heap[w.heap.size]? = some (anO a) := by rw [← hY, Below.heap_alloc _ _ _ (by simp)]; exact heap_new _ _
  obtain ⟨_, _, _, _, _, c6⟩ := an_cells r0
  have HI : Hid (∀ X, Below w.heap.size w X → Calls Tryd.prog 28 #[.pointer (some ⟨P, 0, none⟩)] X fun e w' => e = .returned (.bool false) ∧ Below X.heap.size X w') := Lib.hid (fun X hX => by rw [← ho]; exact isOpening_any P q k X (by rw [hX.cell (p := ⟨P, 0, none⟩) hP]; exact hq) (Nat.lt_of_lt_of_le hP hX.size) (hh.on hX))
  have HM0 : Hid (∀ X, Below w.heap.size w X → Calls Tryd.prog 43 #[.pointer (some ⟨P, 0, none⟩)] X fun e w' => e = .returned (.bool false) ∧ Below X.heap.size X w') := Lib.hid (fun X hX => by rw [← ht]; exact mayTell_any P q sel k X (by rw [hX.cell (p := ⟨P, 0, none⟩) hP]; exact hq) (by rw [hX.cell (p := ⟨P, 1, none⟩) hP]; exact hs1) (Nat.lt_of_lt_of_le hP hX.size) (hh.on hX))
  have HM : Hid (∀ X, Below Y.heap.size Y X → Calls Tryd.prog 43 #[.pointer (some ⟨P, 0, none⟩)] X fun e w' => e = .returned (.bool false) ∧ Below X.heap.size X w') := Lib.hid (fun X hX => HM0.out X (q2.trans (hX.mono q2.size)))
  have Q2 := Lib.hid q2
  have HY := Lib.hid hY
  have n0 : ¬ a.num < 0 := by omega
  have n1 : ¬ (262144 : Int) < a.num := by omega
  clear hY q2 r0 hq hs1 hh h0 h1 ho ht HM0
  unfold anO ppO at HY
  unfold anC at HY ⊢
  go_enter Tryd.func32, Tryd.ntmps32
  go_upto_region 2 with fail
  rw [HY.out]
  clear HY
  go_upto_region 6 with (go_at_call 28; refine (HI.out _ Q2.out).mono ?_; rintro e w3 ⟨rfl, hb3⟩; have HB3 := Lib.hid hb3; clear hb3)
  clear HI c6
  refine wp_region_N 13 (fun X => Below Y.heap.size Y X) (by kernel_rfl) ?_
  refine wpAnyN_take (i := 0) (oi := { dst := some 23, op := Go.Op.move (Go.Operand.tmp 0), type := 24, pos := "hear.go:125", after := #[], guard := none }) (oL := { dst := some 22, op := Go.Op.assign (Go.Operand.tmp 35), type := 4, pos := "hear.go:125", after := #[{ on := 12, ground := Go.Ground.data }, { on := 3, ground := Go.Ground.chain }], guard := none }) (v := .pointer (some ⟨P, 0, none⟩)) rfl rfl (by kernel_rfl) (by kernel_rfl) (by kernel_rfl) (by kernel_rfl) (fun _ _ _ h => h) (Or.inl ⟨by kernel_rfl, ?_⟩) HB3.out.drew ?_
  · (intro X hX; have _hX := hX <;> (go_simp; try (with_reducible rfl)))
  (try simp only [Act.put, List.setIfInBounds_toArray, List.set_cons_zero, List.set_cons_succ])
  refine wpAnyN_one (i := 1) (o := { dst := some 24, op := Go.Op.call { callee := Go.Callee.value (Go.Operand.func 43), args := #[Go.Operand.tmp 23], argTypes := #[24] }, type := 4, pos := "hear.go:125", after := #[{ on := 0, ground := Go.Ground.data }], guard := none }) (by kernel_rfl) rfl (fun K hK => ?_)
  go_simp
  refine (HM.out _ HB3.out.drew).mono ?_
  rintro e w4 ⟨rfl, hb4⟩
  have HB4 := Lib.hid hb4
  clear hb4
  refine hK.out _ _ (fun _ => ((HB3.out.drew).trans (HB4.out.mono HB3.out.size))) ?_
  clear hK K
  (try simp only [Act.put, List.setIfInBounds_toArray, List.set_cons_zero, List.set_cons_succ])
  refine wpAnyN_take (i := 2) (oi := { dst := some 25, op := Go.Op.unOp Go.UnOp.not 4 (Go.Operand.tmp 24), type := 4, pos := "hear.go:125", after := #[{ on := 1, ground := Go.Ground.data }], guard := none }) (oL := { dst := some 22, op := Go.Op.assign (Go.Operand.tmp 35), type := 4, pos := "hear.go:125", after := #[{ on := 12, ground := Go.Ground.data }, { on := 3, ground := Go.Ground.chain }], guard := none }) (v := .bool true) rfl rfl (by kernel_rfl) (by kernel_rfl) (by kernel_rfl) (by kernel_rfl) (fun _ _ _ h => h) (Or.inl ⟨by kernel_rfl, ?_⟩) ((HB3.out.drew).trans (HB4.out.mono HB3.out.size)) ?_
  · (intro X hX; have _hX := hX <;> (go_simp; try (with_reducible rfl)))
  (try simp only [Act.put, List.setIfInBounds_toArray, List.set_cons_zero, List.set_cons_succ])
  refine wpAnyN_take (i := 3) (oi := { dst := some 26, op := Go.Op.move (Go.Operand.tmp 25), type := 4, pos := "hear.go:125", after := #[{ on := 2, ground := Go.Ground.data }, { on := 1, ground := Go.Ground.chain }], guard := none }) (oL := { dst := some 22, op := Go.Op.assign (Go.Operand.tmp 35), type := 4, pos := "hear.go:125", after := #[{ on := 12, ground := Go.Ground.data }, { on := 3, ground := Go.Ground.chain }], guard := none }) (v := .bool true) rfl rfl (by kernel_rfl) (by kernel_rfl) (by kernel_rfl) (by kernel_rfl) (fun _ _ _ h => h) (Or.inl ⟨by kernel_rfl, ?_⟩) ((HB3.out.drew).trans (HB4.out.mono HB3.out.size)) ?_
  · (intro X hX; have _hX := hX <;> (go_simp; try (with_reducible rfl)))
  (try simp only [Act.put, List.setIfInBounds_toArray, List.set_cons_zero, List.set_cons_succ])
  refine wpAnyN_take (i := 4) (oi := { dst := some 27, op := Go.Op.fieldAddr 43 (Go.Operand.tmp 3) 6, type := 0, pos := "hear.go:125", after := #[{ on := 3, ground := Go.Ground.guard }], guard := some (3, false) }) (oL := { dst := some 22, op := Go.Op.assign (Go.Operand.tmp 35), type := 4, pos := "hear.go:125", after := #[{ on := 12, ground := Go.Ground.data }, { on := 3, ground := Go.Ground.chain }], guard := none }) (v := undef) rfl rfl (by kernel_rfl) (by kernel_rfl) (by kernel_rfl) (by kernel_rfl) (fun _ _ _ h => h) (Or.inr ⟨by kernel_rfl, rfl⟩) ((HB3.out.drew).trans (HB4.out.mono HB3.out.size)) ?_
  (try simp only [Act.put, List.setIfInBounds_toArray, List.set_cons_zero, List.set_cons_succ])
  refine wpAnyN_take (i := 5) (oi := { dst := some 28, op := Go.Op.load 3 (Go.Operand.tmp 27), type := 3, pos := "hear.go:125", after := #[{ on := 4, ground := Go.Ground.data }, { on := 3, ground := Go.Ground.guard }], guard := some (3, false) }) (oL := { dst := some 22, op := Go.Op.assign (Go.Operand.tmp 35), type := 4, pos := "hear.go:125", after := #[{ on := 12, ground := Go.Ground.data }, { on := 3, ground := Go.Ground.chain }], guard := none }) (v := undef) rfl rfl (by kernel_rfl) (by kernel_rfl) (by kernel_rfl) (by kernel_rfl) (fun _ _ _ h => h) (Or.inr ⟨by kernel_rfl, rfl⟩) ((HB3.out.drew).trans (HB4.out.mono HB3.out.size)) ?_
  (try simp only [Act.put, List.setIfInBounds_toArray, List.set_cons_zero, List.set_cons_succ])
  refine wpAnyN_take (i := 6) (oi := { dst := some 29, op := Go.Op.load 96 (Go.Operand.tmp 5), type := 96, pos := "hear.go:125", after := #[{ on := 3, ground := Go.Ground.guard }], guard := some (3, false) }) (oL := { dst := some 22, op := Go.Op.assign (Go.Operand.tmp 35), type := 4, pos := "hear.go:125", after := #[{ on := 12, ground := Go.Ground.data }, { on := 3, ground := Go.Ground.chain }], guard := none }) (v := undef) rfl rfl (by kernel_rfl) (by kernel_rfl) (by kernel_rfl) (by kernel_rfl) (fun _ _ _ h => h) (Or.inr ⟨by kernel_rfl, rfl⟩) ((HB3.out.drew).trans (HB4.out.mono HB3.out.size)) ?_
  (try simp only [Act.put, List.setIfInBounds_toArray, List.set_cons_zero, List.set_cons_succ])
  refine wpAnyN_take (i := 7) (oi := { dst := some 30, op := Go.Op.nilCheck (Go.Operand.tmp 29), type := 0, pos := "hear.go:125", after := #[{ on := 6, ground := Go.Ground.data }, { on := 3, ground := Go.Ground.guard }], guard := some (3, false) }) (oL := { dst := some 22, op := Go.Op.assign (Go.Operand.tmp 35), type := 4, pos := "hear.go:125", after := #[{ on := 12, ground := Go.Ground.data }, { on := 3, ground := Go.Ground.chain }], guard := none }) (v := undef) rfl rfl (by kernel_rfl) (by kernel_rfl) (by kernel_rfl) (by kernel_rfl) (fun _ _ _ h => h) (Or.inr ⟨by kernel_rfl, rfl⟩) ((HB3.out.drew).trans (HB4.out.mono HB3.out.size)) ?_
  (try simp only [Act.put, List.setIfInBounds_toArray, List.set_cons_zero, List.set_cons_succ])
  refine wpAnyN_take (i := 8) (oi := { dst := some 31, op := Go.Op.fieldAddr 73 (Go.Operand.tmp 30) 4, type := 0, pos := "hear.go:125", after := #[{ on := 7, ground := Go.Ground.data }, { on := 3, ground := Go.Ground.guard }], guard := some (3, false) }) (oL := { dst := some 22, op := Go.Op.assign (Go.Operand.tmp 35), type := 4, pos := "hear.go:125", after := #[{ on := 12, ground := Go.Ground.data }, { on := 3, ground := Go.Ground.chain }], guard := none }) (v := undef) rfl rfl (by kernel_rfl) (by kernel_rfl) (by kernel_rfl) (by kernel_rfl) (fun _ _ _ h => h) (Or.inr ⟨by kernel_rfl, rfl⟩) ((HB3.out.drew).trans (HB4.out.mono HB3.out.size)) ?_
  (try simp only [Act.put, List.setIfInBounds_toArray, List.set_cons_zero, List.set_cons_succ])
  refine wpAnyN_take (i := 9) (oi := { dst := some 32, op := Go.Op.load 70 (Go.Operand.tmp 31), type := 70, pos := "hear.go:125", after := #[{ on := 8, ground := Go.Ground.data }, { on := 3, ground := Go.Ground.guard }], guard := some (3, false) }) (oL := { dst := some 22, op := Go.Op.assign (Go.Operand.tmp 35), type := 4, pos := "hear.go:125", after := #[{ on := 12, ground := Go.Ground.data }, { on := 3, ground := Go.Ground.chain }], guard := none }) (v := undef) rfl rfl (by kernel_rfl) (by kernel_rfl) (by kernel_rfl) (by kernel_rfl) (fun _ _ _ h => h) (Or.inr ⟨by kernel_rfl, rfl⟩) ((HB3.out.drew).trans (HB4.out.mono HB3.out.size)) ?_
  (try simp only [Act.put, List.setIfInBounds_toArray, List.set_cons_zero, List.set_cons_succ])
  refine wpAnyN_take (i := 10) (oi := { dst := some 33, op := Go.Op.call { callee := Go.Callee.builtin Go.Builtin.len, args := #[Go.Operand.tmp 32], argTypes := #[70] }, type := 3, pos := "hear.go:125", after := #[{ on := 9, ground := Go.Ground.data }, { on := 3, ground := Go.Ground.guard }], guard := some (3, false) }) (oL := { dst := some 22, op := Go.Op.assign (Go.Operand.tmp 35), type := 4, pos := "hear.go:125", after := #[{ on := 12, ground := Go.Ground.data }, { on := 3, ground := Go.Ground.chain }], guard := none }) (v := undef) rfl rfl (by kernel_rfl) (by kernel_rfl) (by kernel_rfl) (by kernel_rfl) (fun _ _ _ h => h) (Or.inr ⟨by kernel_rfl, rfl⟩) ((HB3.out.drew).trans (HB4.out.mono HB3.out.size)) ?_
  (try simp only [Act.put, List.setIfInBounds_toArray, List.set_cons_zero, List.set_cons_succ])
  refine wpAnyN_take (i := 11) (oi := { dst := some 34, op := Go.Op.binOp Go.BinOp.lss 3 (Go.Operand.tmp 28) (Go.Operand.tmp 33) 3, type := 4, pos := "hear.go:125", after := #[{ on := 5, ground := Go.Ground.data }, { on := 10, ground := Go.Ground.data }, { on := 3, ground := Go.Ground.guard }], guard := some (3, false) }) (oL := { dst := some 22, op := Go.Op.assign (Go.Operand.tmp 35), type := 4, pos := "hear.go:125", after := #[{ on := 12, ground := Go.Ground.data }, { on := 3, ground := Go.Ground.chain }], guard := none }) (v := undef) rfl rfl (by kernel_rfl) (by kernel_rfl) (by kernel_rfl) (by kernel_rfl) (fun _ _ _ h => h) (Or.inr ⟨by kernel_rfl, rfl⟩) ((HB3.out.drew).trans (HB4.out.mono HB3.out.size)) ?_
  (try simp only [Act.put, List.setIfInBounds_toArray, List.set_cons_zero, List.set_cons_succ])
  refine wpAnyN_take (i := 12) (oi := { dst := some 35, op := Go.Op.pick (Go.Operand.tmp 26) (Go.Operand.const (Go.Value.bool true)) (Go.Operand.tmp 34), type := 4, pos := "hear.go:125", after := #[{ on := 3, ground := Go.Ground.data }, { on := 11, ground := Go.Ground.data }], guard := none }) (oL := { dst := some 22, op := Go.Op.assign (Go.Operand.tmp 35), type := 4, pos := "hear.go:125", after := #[{ on := 12, ground := Go.Ground.data }, { on := 3, ground := Go.Ground.chain }], guard := none }) (v := .bool true) rfl rfl (by kernel_rfl) (by kernel_rfl) (by kernel_rfl) (by kernel_rfl) (fun _ _ _ h => h) (Or.inl ⟨by kernel_rfl, ?_⟩) ((HB3.out.drew).trans (HB4.out.mono HB3.out.size)) ?_
  · (intro X hX; have _hX := hX <;> (go_simp; try (with_reducible rfl)))
  (try simp only [Act.put, List.setIfInBounds_toArray, List.set_cons_zero, List.set_cons_succ])
  refine wpAnyN_one (i := 13) (o := { dst := some 22, op := Go.Op.assign (Go.Operand.tmp 35), type := 4, pos := "hear.go:125", after := #[{ on := 12, ground := Go.Ground.data }, { on := 3, ground := Go.Ground.chain }], guard := none }) (by kernel_rfl) rfl (fun K hK => ?_)
  go_simp
  refine hK.out _ _ (fun e => absurd (e.symm.trans (by kernel_rfl) : false = true) Bool.false_ne_true) ?_
  clear hK K
  (try simp only [Act.put, List.setIfInBounds_toArray, List.set_cons_zero, List.set_cons_succ])
  refine wpAnyN_of_H (S' := fun _ => True) _ _ _ _ (by kernel_rfl) ?_
  refine wpAnyH_done (by kernel_rfl) ?_ _
  go_wp2_with fail
  go_ret
  first | exact ⟨rfl, Q2.out.trans ((((HB3.out.drew).trans (HB4.out.mono HB3.out.size))).mono Q2.out.size)⟩ | exact Q2.out.trans ((((HB3.out.drew).trans (HB4.out.mono HB3.out.size))).mono Q2.out.size)
set_option maxRecDepth 10000 in
set_option maxHeartbeats 2000000 in
theorem exists_open (P : Nat) (q : Value) (k : Option AK) (a : AN) (w : World) (hq : w.cell? ⟨P, 0, none⟩ = some q) (hP : P < w.heap.size) (hh : Hand w q k) (h0 : 0 ≤ a.num) (h1 : a.num ≤ 262144) (ho : opn k = true) :
    Calls Tryd.prog 32 #[.pointer (some ⟨P, 0, none⟩), .agg (anC a)] w fun e w' => e = .returned (fnV 42 #[.pointer (some ⟨w.heap.size, 0, none⟩), .pointer (some ⟨w.heap.size + 1, 0, none⟩)]) ∧ Below w.heap.size w w' ∧ w'.heap[w.heap.size]? = some (anO a) ∧ w'.heap[w.heap.size + 1]? = some (ppO P) := by
  have q2 := two_below w (anO a) (ppO P)
  obtain ⟨Y, hY⟩ : ∃ Y, (w.alloc (anO a)).alloc (ppO P) = Y := ⟨_, rfl⟩
  have hz : Y.heap.size = w.heap.size + 1 + 1 := by rw [← hY]; simp
  rw [hY] at q2
  have r0 : Y.heap[w.heap.size]? = some (anO a) := by rw [← hY, Below.heap_alloc _ _ _ (by simp)]; exact heap_new _ _
  have r1 : Y.heap[w.heap.size + 1]? = some (ppO P) := by rw [← hY]; have := heap_new (w.alloc (anO a)) (ppO P); rw [show (w.alloc (anO a)).heap.size = w.heap.size + 1 from by simp] at this; exact this
  obtain ⟨_, _, _, _, _, c6⟩ := an_cells r0
  have HI : Hid (∀ X, Below w.heap.size w X → Calls Tryd.prog 28 #[.pointer (some ⟨P, 0, none⟩)] X fun e w' => e = .returned (.bool true) ∧ Below X.heap.size X w') := Lib.hid (fun X hX => by rw [← ho]; exact isOpening_any P q k X (by rw [hX.cell (p := ⟨P, 0, none⟩) hP]; exact hq) (Nat.lt_of_lt_of_le hP hX.size) (hh.on hX))
  have Q2 := Lib.hid q2
  have HY := Lib.hid hY
  have HR := Lib.hid (And.intro r0 (And.intro r1 hz))
  have n0 : ¬ a.num < 0 := by omega
  have n1 : ¬ (262144 : Int) < a.num := by omega
  clear hY q2 r0 r1 hz hq hh h0 h1 ho
  unfold anO ppO at HY
  unfold anC at HY ⊢
  go_enter Tryd.func32, Tryd.ntmps32
  go_upto_region 2 with fail
  rw [HY.out]
  clear HY
  go_wp2_with (go_at_call 28; refine (HI.out _ Q2.out).mono ?_; rintro e w3 ⟨rfl, hb3⟩; have HB3 := Lib.hid hb3; clear hb3)
  go_ret
  have fin := HR.out
  have fb := HB3.out
  have res : Below w.heap.size w w3 ∧ w3.heap[w.heap.size]? = some (anO a) ∧ w3.heap[w.heap.size + 1]? = some (ppO P) := ⟨Q2.out.trans (fb.mono Q2.out.size), bel_at fb (by rw [fin.2.2]; omega) fin.1, bel_at fb (by rw [fin.2.2]; omega) fin.2.1⟩
  first | exact ⟨rfl, res⟩ | exact res
theorem kinds_any (w : World) : Calls Tryd.prog 27 #[] w fun e w' => e = .returned (.agg kndA) ∧ Below w.heap.size w w' := by
  have H1 : Hid (kndA.all (·.oneCell') = true) := Lib.hid (by kernel_rfl)
  have HS : Hid ((Tryd.prog.info? 88).map (·.size) = some kndA.size) := Lib.hid (by kernel_rfl)
  go_enter Tryd.func27, Tryd.ntmps27
  go_wp2_with (first | (refine wpList_store_row rfl 88 _ _ rfl w.heap.size kndA rfl rfl 88 _ (heap_new _ _) HS.out rfl H1.out ?_))
  refine bodyPost_ret (v := .agg kndA) (results_cell_row Tryd.results27 _ _ w.heap.size 88 kndA (0, 0) _ rfl (setRow_heap _ _ _ _ _ _ (heap_new _ _)) Tryd.underlying88 rfl HS.out) rfl ⟨rfl, ?_⟩
  exact ⟨rfl, rfl, rfl, by simp [World.setRow], fun b hb => by rw [setRow_other _ _ _ _ (by omega)]; exact Below.heap_alloc _ _ _ hb⟩
end Go.Proofs.YtlmlbcnjohjnlaaDoor

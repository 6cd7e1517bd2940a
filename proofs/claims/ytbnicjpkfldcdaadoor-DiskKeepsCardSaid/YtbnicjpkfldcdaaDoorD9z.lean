/- disk: Plan. -/
import Derived.Test.YtbnicjpkfldcdaaDoorD9w
import Derived.Maps.AppendAt
namespace Go.Proofs.YtbnicjpkfldcdaaDoor
open Go.RowKit Go.Lib

/-- Stops that were handed over. -/
def StopsIn (w : World) (g o n : Nat) (l : List (Int × Int × Int)) : Prop := ∀ i, i < n → ∀ s, l[i]? = some s → w.cell? ⟨g, o + 3 * i, none⟩ = some (.int .i64 s.1) ∧ w.cell? ⟨g, o + 3 * i + 1, none⟩ = some (.int .i64 s.2.1) ∧ w.cell? ⟨g, o + 3 * i + 2, none⟩ = some (.int .i64 s.2.2)
def planP (l : List (Int × Int × Int)) : List (Int × Int × Int) := l.filter fun s => decide (1 ≤ s.1)
theorem Tryd.infoStop : (Tryd.prog.info? 56).map (fun i => (i.zero, i.size, i.bytes)) = some (some (.agg #[.int .i64 0, .int .i64 0, .int .i64 0]), 3, 24) := by kernel_rfl
/-- The plan as it grows. -/
structure Planning (B d m clk : Nat) (sv : Value) (S : DS) (F : List FE) (w : World) (v : Value) (acc : List (Int × Int × Int)) (X : World) : Prop where
  row : X.ownsRow w.heap.size 56 3 v acc.length (stopCells acc)
  blk : svBlk v = v.ownBlock
  disk : DiskAt B d m clk v { S with stops := acc } F X
  stays : Stays (fpOf d m sv F) w X
  fp : ∀ b, b ∈ fpOf d m v F → b ∈ fpOf d m sv F ∨ w.heap.size ≤ b
theorem stopsAt_own {w : World} {B : Nat} {v : Value} {l : List (Int × Int × Int)} (h : w.ownsRow B 56 3 v l.length (stopCells l)) : StopsAt w v l := by
  rcases h.2 with ⟨rfl, h0⟩ | ⟨g, cap, cur, rfl, _, hg, hnc, _, _, ht⟩
  · have : l = [] := List.eq_nil_of_length_eq_zero h0
    subst this
    exact ⟨none, 0, rfl, .inl rfl⟩
  · exact ⟨_, cap, rfl, .inr ⟨g, 0, cur, rfl, hnc, hg, by rw [List.drop_zero, Nat.mul_comm]; exact ht⟩⟩
theorem plan_nil {B d m clk : Nat} {sv : Value} {S : DS} {F : List FE} {w : World} (h : DiskAt B d m clk sv S F w) : Planning B d m clk sv S F w (.slice none 0 0) [] (w.setCell ⟨d, 4, none⟩ (.slice none 0 0)) := by
  obtain ⟨hD, hM⟩ := h.restop (sv' := .slice none 0 0) (S' := { S with stops := [] }) (w' := w.setCell ⟨d, 4, none⟩ (.slice none 0 0)) rfl h.steps (by
    have hs := h.self
    unfold selfObj at hs
    rw [heap_setCell_at _ hs]
    rfl) ⟨none, 0, rfl, .inl rfl⟩ (fun b e => by cases e) (by simp [World.setCell]) (fun b _ hb _ => Below.heap_setCell _ _ _ _ hb)
  exact ⟨World.ownsRow_nil _ _ _ _, rfl, hD, Stays.setCell (p := ⟨d, 4, none⟩) (Stays.refl _ _) (.inl mem_fp_self) _, hM⟩
theorem stopCells_snoc (l : List (Int × Int × Int)) (s : Int × Int × Int) : stopCells (l ++ [s]) = stopCells l ++ [.int .i64 s.1, .int .i64 s.2.1, .int .i64 s.2.2] := by simp [stopCells]
/-- One more stop: what its append leaves. -/
theorem plan_put {B d m clk : Nat} {sv : Value} {S : DS} {F : List FE} {w : World} {v : Value} {acc : List (Int × Int × Int)} {X Y : World} (h : Planning B d m clk sv S F w v acc X) (s : Int × Int × Int) (hacc : acc.length ≤ 5864062014634) (hXY : Below X.heap.size X Y) :
    ∃ a n c W3, (Builtin.append_ #[33, 33] 33 #[v, .slice (some ⟨Y.heap.size, 0, none⟩) 1 1]).run Tryd.prog (Y.alloc (.cells #[.int .i64 s.1, .int .i64 s.2.1, .int .i64 s.2.2] 56)) = .ok (.slice a n c) W3 ∧
      W3.cell? ⟨d, 4, none⟩ = some v ∧ W3.frozen? ⟨d, 4, none⟩ = false ∧ (∀ b, b < X.heap.size → v.ownBlock ≠ some b → W3.heap[b]? = X.heap[b]?) ∧ (∀ b, b < Y.heap.size → v.ownBlock ≠ some b → W3.heap[b]? = Y.heap[b]?) ∧ (∀ b, v.ownBlock = some b → b < X.heap.size) ∧
      Planning B d m clk sv S F w (.slice a n c) (acc ++ [s]) (W3.setCell ⟨d, 4, none⟩ (.slice a n c)) := by
  have hD := h.disk
  have hz := hXY.size
  have hsw := h.stays.size
  obtain ⟨i0, hi, hz0, hz1, hz2⟩ := info_parts' Tryd.infoStop
  have hrowY : (Y.alloc (.cells #[.int .i64 s.1, .int .i64 s.2.1, .int .i64 s.2.2] 56)).ownsRow w.heap.size 56 3 v acc.length (stopCells acc) := (ownsRow_same h.row (fun b hb => hXY.block b (h.row.lt b hb).2)).alloc _
  have hnew : (Y.alloc (.cells #[.int .i64 s.1, .int .i64 s.2.1, .int .i64 s.2.2] 56)).heap[Y.heap.size]? = some (.cells #[.int .i64 s.1, .int .i64 s.2.1, .int .i64 s.2.2] 56 (0, 0)) := heap_alloc_new Y _
  obtain ⟨v', W3, hrun, hrow3, hgr, _, hat⟩ := run_append_own_at (P := Tryd.prog) (Y.alloc (.cells #[.int .i64 s.1, .int .i64 s.2.1, .int .i64 s.2.2] 56)) w.heap.size 33 33 56 i0 _ 3 24 Tryd.underlying33 hi hz0 hz1 hz2 rfl (by decide) v acc.length (stopCells acc) hrowY ⟨Y.heap.size, 0, none⟩ 1 1 [.int .i64 s.1, .int .i64 s.2.1, .int .i64 s.2.2] rfl (by
      intro j u hj
      match j, hj with
      | 0, hj => simp at hj; subst hj; exact cell_of hnew 0
      | 1, hj => simp at hj; subst hj; exact cell_of hnew 1
      | 2, hj => simp at hj; subst hj; exact cell_of hnew 2
      | (j + 3), hj => simp at hj) (by
      intro u hu
      simp at hu
      rcases hu with rfl | rfl | rfl <;> rfl) (by unfold maxLen; omega) (by omega) (by simp; omega)
  rw [← stopCells_snoc] at hrow3
  have hrow4 : W3.ownsRow w.heap.size 56 3 v' (acc ++ [s]).length (stopCells (acc ++ [s])) := by rw [List.length_append]; exact hrow3
  obtain ⟨a, c, rfl⟩ := ownsRow_shape hrow3
  have hblk : svBlk (.slice a (acc.length + 1) c) = (Value.slice a (acc.length + 1) c).ownBlock := by cases a <;> rfl
  have hdown : v.ownBlock ≠ some d := fun e => by
    have hap := hD.apart
    rw [← h.blk] at e
    simp only [fpOf, List.nodup_cons, List.mem_cons, List.mem_append, Option.mem_toList] at hap
    exact hap.1 (.inr (.inl e))
  have hold : ∀ b, b < X.heap.size → v.ownBlock ≠ some b → W3.heap[b]? = X.heap[b]? := fun b hb hne => by
    rw [hgr.block b (by simp; omega) (fun e => hne e.symm), Below.heap_alloc _ _ _ (by omega), hXY.block b hb]
  have hdl := lt_of_heap hD.self
  have hd3 : W3.heap[d]? = some (selfObj { S with stops := acc } (usedF F) v m) := by rw [hold d hdl hdown]; exact hD.self
  have hd3' := hd3
  unfold selfObj at hd3'
  have hgs := hgr.size
  have hown : ∀ b, (Value.slice a (acc.length + 1) c).ownBlock = some b → v.ownBlock = some b ∨ X.heap.size ≤ b := by
    intro b e
    rcases hat with hat | hat
    · exact .inl (by rw [← hat]; exact e)
    · rw [hat] at e; simp at e; exact .inr (by omega)
  have hv'd : (Value.slice a (acc.length + 1) c).ownBlock ≠ some d := fun e => by
    rcases hown d e with e' | e'
    · exact hdown e'
    · omega
  have hrow5 : (W3.setCell ⟨d, 4, none⟩ (.slice a (acc.length + 1) c)).ownsRow w.heap.size 56 3 (.slice a (acc.length + 1) c) (acc ++ [s]).length (stopCells (acc ++ [s])) := ownsRow_same hrow4 (fun b e => Below.heap_setCell _ _ _ _ (fun x => hv'd (by rw [e, x])))
  obtain ⟨hD5, hM5⟩ := hD.restop (sv' := .slice a (acc.length + 1) c) (S' := { S with stops := acc ++ [s] }) (w' := W3.setCell ⟨d, 4, none⟩ (.slice a (acc.length + 1) c)) rfl hD.steps (by rw [heap_setCell_at _ hd3']; rfl) (stopsAt_own hrow5) (fun b e => by
      rw [hblk] at e
      rcases hown b e with e' | e'
      · exact .inl (by rw [h.blk]; exact e')
      · exact .inr e') (by simp [World.setCell]; simp at hgs; omega) (fun b hb h1 h2 => by
      rw [Below.heap_setCell _ _ _ _ h1, hold b (hD.lt hb) (by rw [← h.blk]; exact h2)])
  refine ⟨a, _, c, W3, hrun, cell_of hd3' 4, frozen_of hd3' 4, hold, fun b hb hne => by rw [hgr.block b (by simp; omega) (fun e => hne e.symm), Below.heap_alloc _ _ _ hb], fun b e => (h.row.lt b e).2, hrow5, hblk, hD5, ?_, ?_⟩
  · have hS1 : Stays (fpOf d m v F) X (Y.alloc (.cells #[.int .i64 s.1, .int .i64 s.2.1, .int .i64 s.2.2] 56)) := (Stays.ofBelow hXY).alloc _
    have hS2 : Stays (fpOf d m v F) X W3 := hS1.trans (Stays.ofGrown (fp := fpOf d m v F) hgr (fun b e => mem_fp_sv (by rw [h.blk]; exact e))) (fun b hb => .inl hb)
    exact Stays.setCell (p := ⟨d, 4, none⟩) (h.stays.trans hS2 h.fp) (.inl mem_fp_self) _
  · intro b hb
    rcases hM5 b hb with e | e
    · exact h.fp b e
    · exact .inr (by omega)
end Go.Proofs.YtbnicjpkfldcdaaDoor

/- disk: Plan, its walk. -/
namespace Go.Proofs.YtbnicjpkfldcdaaDoor
open Go.RowKit Go.Lib

theorem step_append_run {ops : Array Oper} {o : Oper} {a : Act} {K : Act → World → Prop} {Q : Exit → Act → World → Prop} {E : Prop} {w : World} (hgd : o.guard = none) (s x : Operand) (ts : Array TypeId)
    (ho : o.op = .call { callee := .builtin .append, args := #[s, x], argTypes := ts }) (ty : TypeId) (hty : o.type = ty) (u v : Value) (hs : a.eval s = u) (hx : a.eval x = v) (v' : Value) (w' : World)
    (hr : (Builtin.append_ ts ty #[u, v]).run Tryd.prog w = .ok v' w') (h : K (a.put o.dst v') w') : if Region.wanted o (yielded ops a.tmps) = true then Oper.wp Tryd.prog o a w K Q else E := by
  have hw : Region.wanted o (yielded ops a.tmps) = true := by simp [Region.wanted, hgd]
  rw [if_pos hw]
  subst hty
  unfold Oper.wp execOp
  simp only [ho, resolve, invoke, builtin, Sem.run_bind, Sem.run_pure, Result.andThen_ok, List.map_toArray, List.map_cons, List.map_nil, hs, hx, hr]
  exact h
theorem planP_snoc (l : List (Int × Int × Int)) (k : Nat) (s : Int × Int × Int) (hs : l[k]? = some s) : planP (l.take (k + 1)) = planP (l.take k) ++ (if 1 ≤ s.1 then [s] else []) := by
  have hk : k < l.length := (List.getElem?_eq_some_iff.1 hs).1
  have e : l.take (k + 1) = l.take k ++ [s] := by
    rw [List.take_add_one, hs]; rfl
  rw [e]
  unfold planP
  rw [List.filter_append]
  by_cases h : 1 ≤ s.1 <;> simp [h]
set_option maxHeartbeats 4000000 in
theorem Plan_some {B d m clk : Nat} {sv : Value} {S : DS} {F : List FE} {w : World} (h : DiskAt B d m clk sv S F w) (hq : 1 ≤ S.quota) (l : List (Int × Int × Int)) (g o c : Nat) (hl : l.length ≤ 5864062014634) (hg : g ∉ fpOf d m sv F) (hin : StopsIn w g o l.length l) :
    Calls Tryd.prog 6 #[.pointer (some ⟨d, 0, none⟩), .slice (some ⟨g, o, none⟩) l.length c] w fun e w' => e = .returned (.tuple #[]) ∧ ∃ sv', DiskAt B d m clk sv' { S with stops := planP l } F w' ∧ Stays (fpOf d m sv F) w w' ∧ ∀ b, b ∈ fpOf d m sv' F → b ∈ fpOf d m sv F ∨ w.heap.size ≤ b := by
  have HM := Lib.hid (isMade_any h hq)
  have HP0 := Lib.hid (plan_nil h)
  have c4 := h.cells.c4
  have f4 := h.cells.f4
  have HG := Lib.hid hg
  have HI := Lib.hid hin
  clear h hq hg hin
  generalize hN : l.length = N at *
  have HN := Lib.hid hN
  clear hN
  go_enter Tryd.func6, Tryd.ntmps6
  go_wp2_with (go_at_call 21; refine HM.out.mono ?_; rintro e w2 ⟨rfl, hw2⟩; subst w2)
  go_loopw [14] (fun i wr => ∃ (k : Nat) (v : Value) (X : World), X = wr ∧ k ≤ N ∧ i = .int .i64 k ∧ Planning B d m clk sv S F w v (planP (l.take k)) X) (fun i _ => N - (Go.RowKit.intOf i).toNat)
  case atStart => exact ⟨0, _, _, rfl, Nat.zero_le _, rfl, HP0.out⟩
  case round =>
    obtain ⟨k, v, X, hX, hk, rfl, hP⟩ := hrel
    subst hX
    have hk2 : (k : Int) ≤ 5864062014634 := by omega
    by_cases hlt : k < N
    · have hkl : k < l.length := by rw [HN.out]; exact hlt
      obtain ⟨s, hs⟩ : ∃ s, l[k]? = some s := ⟨l[k], List.getElem?_eq_getElem hkl⟩
      have hsn := planP_snoc l k s hs
      obtain ⟨i0, i1, i2⟩ := HI.out k hlt s hs
      obtain ⟨x, y, z⟩ := s
      have hgl : g < w.heap.size := World.block_lt_of_cell? w _ i0
      have hc : ∀ j, X.cell? ⟨g, j, none⟩ = w.cell? ⟨g, j, none⟩ := fun j => hP.stays.cell hgl HG.out
      have j0 : X.cell? ⟨g, o + k * 3, none⟩ = some (.int .i64 x) := by rw [hc, Nat.mul_comm]; exact i0
      have j1 : X.cell? ⟨g, o + k * 3 + 1, none⟩ = some (.int .i64 y) := by rw [hc, Nat.mul_comm]; exact i1
      have j2 : X.cell? ⟨g, o + k * 3 + 2, none⟩ = some (.int .i64 z) := by rw [hc, Nat.mul_comm]; exact i2
      have hlen : (planP (l.take k)).length ≤ 5864062014634 := by
        have h1 : (planP (l.take k)).length ≤ (l.take k).length := List.length_filter_le _ _
        rw [List.length_take] at h1
        omega
      have HPl := Lib.hid hP
      have HSn := Lib.hid hsn
      have HLen := Lib.hid hlen
      have HXb : Hid (Below X.heap.size X (X.alloc (.cells #[.int .i64 x, .int .i64 y, .int .i64 z] 56))) := Lib.hid ((Below.refl _ _).alloc (Nat.le_refl _) _)
      clear hP hsn hs hc i0 i1 i2 hlen hkl
      by_cases hx : 1 ≤ x
      · obtain ⟨Y, hY⟩ : ∃ Y, X.alloc (.cells #[.int .i64 x, .int .i64 y, .int .i64 z] 56) = Y := ⟨_, rfl⟩
        have hXY : Below X.heap.size X Y.drew := by rw [← hY]; exact HXb.out.drew
        obtain ⟨a3, n3, c3, W3, hrun, w4, wf, hold, hold2, hvl, hP3⟩ := plan_put HPl.out (x, y, z) HLen.out hXY
        obtain ⟨va, vc, hv⟩ := ownsRow_shape HPl.out.row
        obtain ⟨vn, hvn⟩ : ∃ vn, (planP (l.take k)).length = vn := ⟨_, rfl⟩
        rw [hvn] at hv
        have hsb : Y.heap[X.heap.size]? = some (.cells #[.int .i64 x, .int .i64 y, .int .i64 z] 56 (0, 0)) := by rw [← hY]; exact heap_alloc_new _ _
        have hyl : X.heap.size < Y.heap.size := lt_of_heap hsb
        have hsbA : (Y.drew.alloc (.cells #[.int .i64 x, .int .i64 y, .int .i64 z] 56)).heap[X.heap.size]? = some (.cells #[.int .i64 x, .int .i64 y, .int .i64 z] 56 (0, 0)) := by rw [Below.heap_alloc Y.drew _ _ hyl]; exact hsb
        have hsb3 : W3.heap[X.heap.size]? = some (.cells #[.int .i64 x, .int .i64 y, .int .i64 z] 56 (0, 0)) := by rw [hold2 _ hyl (fun e => Nat.lt_irrefl _ (hvl _ e))]; exact hsb
        have hd4 := HPl.out.disk.cells.c4
        have hdl := lt_of_heap HPl.out.disk.self
        have y4 : Y.drew.cell? ⟨d, 4, none⟩ = some v := by rw [World.cell?_of_block (hXY.block d hdl)]; exact hd4
        have a4 : (Y.drew.alloc (.cells #[.int .i64 x, .int .i64 y, .int .i64 z] 56)).cell? ⟨d, 4, none⟩ = some v := by rw [World.cell?_of_block (Below.heap_alloc Y.drew _ _ (Nat.lt_trans hdl hyl))]; exact y4
        have s0 : Y.drew.cell? ⟨X.heap.size, 0, none⟩ = some (.int .i64 x) := cell_of (w := Y.drew) hsb 0
        have s1 : Y.drew.cell? ⟨X.heap.size, 1, none⟩ = some (.int .i64 y) := cell_of (w := Y.drew) hsb 1
        have s2 : Y.drew.cell? ⟨X.heap.size, 2, none⟩ = some (.int .i64 z) := cell_of (w := Y.drew) hsb 2
        have t0 := cell_of hsbA 0
        have t1 := cell_of hsbA 1
        have t2 := cell_of hsbA 2
        have r0 := cell_of hsb3 0
        have r1 := cell_of hsb3 1
        have r2 := cell_of hsb3 2
        simp only [List.getElem?_toArray, List.getElem?_cons_zero, List.getElem?_cons_succ] at t0 t1 t2 r0 r1 r2
        rw [hv] at hrun w4 y4 a4
        have b4 : (Y.alloc (.cells #[.int .i64 x, .int .i64 y, .int .i64 z] 56)).cell? ⟨d, 4, none⟩ = some (.slice va vn vc) := a4
        have b5 : Y.cell? ⟨d, 4, none⟩ = some (.slice va vn vc) := y4
        have u0 : (Y.alloc (.cells #[.int .i64 x, .int .i64 y, .int .i64 z] 56)).cell? ⟨X.heap.size, 0, none⟩ = some (.int .i64 x) := t0
        have u1 : (Y.alloc (.cells #[.int .i64 x, .int .i64 y, .int .i64 z] 56)).cell? ⟨X.heap.size, 1, none⟩ = some (.int .i64 y) := t1
        have u2 : (Y.alloc (.cells #[.int .i64 x, .int .i64 y, .int .i64 z] 56)).cell? ⟨X.heap.size, 2, none⟩ = some (.int .i64 z) := t2
        have v0 : Y.cell? ⟨X.heap.size, 0, none⟩ = some (.int .i64 x) := s0
        have v1 : Y.cell? ⟨X.heap.size, 1, none⟩ = some (.int .i64 y) := s1
        have v2 : Y.cell? ⟨X.heap.size, 2, none⟩ = some (.int .i64 z) := s2
        have HRun := Lib.hid hrun
        have HP3 := Lib.hid hP3
        have HY := Lib.hid hY
        clear hrun hP3 hY hXY hold hold2 hvl hsb hsbA hsb3 hd4 hdl hv hvn hyl
        go_upto_region 6 with fail
        rw [HY.out]
        --R Plan--
        refine wp_region_N 10 (fun X => X = Y.drew ∨ X = Y.drew.alloc (.cells #[.int .i64 x, .int .i64 y, .int .i64 z] 56) ∨ X = W3) (by kernel_rfl) ?_
        refine wpAnyN_take (i := 0) (oi := { dst := some 21, op := Go.Op.move (Go.Operand.tmp 0), type := 24, pos := "stop.go:13", after := #[], guard := none }) (oL := { dst := none, op := Go.Op.store 33 (Go.Operand.tmp 30) (Go.Operand.tmp 28), type := 0, pos := "stop.go:13", after := #[{ on := 9, ground := Go.Ground.data }, { on := 7, ground := Go.Ground.data }, { on := 7, ground := Go.Ground.chain }, { on := 0, ground := Go.Ground.phase }, { on := 1, ground := Go.Ground.phase }, { on := 2, ground := Go.Ground.phase }, { on := 3, ground := Go.Ground.phase }, { on := 4, ground := Go.Ground.phase }, { on := 5, ground := Go.Ground.phase }, { on := 6, ground := Go.Ground.phase }, { on := 7, ground := Go.Ground.phase }], guard := none }) (v := .pointer (some ⟨d, 0, none⟩)) rfl rfl (by kernel_rfl) (by kernel_rfl) (by kernel_rfl) (by kernel_rfl) (fun _ _ _ h => h) (Or.inl ⟨by kernel_rfl, ?_⟩) (.inl rfl) ?_
        · (intro X hX; rcases hX with rfl | rfl | rfl <;> (go_simp; try (with_reducible rfl)))
        (try simp only [Act.put, List.setIfInBounds_toArray, List.set_cons_zero, List.set_cons_succ])
        refine wpAnyN_take (i := 1) (oi := { dst := some 22, op := Go.Op.move (Go.Operand.tmp 0), type := 24, pos := "stop.go:13", after := #[], guard := none }) (oL := { dst := none, op := Go.Op.store 33 (Go.Operand.tmp 30) (Go.Operand.tmp 28), type := 0, pos := "stop.go:13", after := #[{ on := 9, ground := Go.Ground.data }, { on := 7, ground := Go.Ground.data }, { on := 7, ground := Go.Ground.chain }, { on := 0, ground := Go.Ground.phase }, { on := 1, ground := Go.Ground.phase }, { on := 2, ground := Go.Ground.phase }, { on := 3, ground := Go.Ground.phase }, { on := 4, ground := Go.Ground.phase }, { on := 5, ground := Go.Ground.phase }, { on := 6, ground := Go.Ground.phase }, { on := 7, ground := Go.Ground.phase }], guard := none }) (v := .pointer (some ⟨d, 0, none⟩)) rfl rfl (by kernel_rfl) (by kernel_rfl) (by kernel_rfl) (by kernel_rfl) (fun _ _ _ h => h) (Or.inl ⟨by kernel_rfl, ?_⟩) (.inl rfl) ?_
        · (intro X hX; rcases hX with rfl | rfl | rfl <;> (go_simp; try (with_reducible rfl)))
        (try simp only [Act.put, List.setIfInBounds_toArray, List.set_cons_zero, List.set_cons_succ])
        refine wpAnyN_take (i := 2) (oi := { dst := some 23, op := Go.Op.nilCheck (Go.Operand.tmp 22), type := 0, pos := "stop.go:13", after := #[{ on := 1, ground := Go.Ground.data }], guard := none }) (oL := { dst := none, op := Go.Op.store 33 (Go.Operand.tmp 30) (Go.Operand.tmp 28), type := 0, pos := "stop.go:13", after := #[{ on := 9, ground := Go.Ground.data }, { on := 7, ground := Go.Ground.data }, { on := 7, ground := Go.Ground.chain }, { on := 0, ground := Go.Ground.phase }, { on := 1, ground := Go.Ground.phase }, { on := 2, ground := Go.Ground.phase }, { on := 3, ground := Go.Ground.phase }, { on := 4, ground := Go.Ground.phase }, { on := 5, ground := Go.Ground.phase }, { on := 6, ground := Go.Ground.phase }, { on := 7, ground := Go.Ground.phase }], guard := none }) (v := .pointer (some ⟨d, 0, none⟩)) rfl rfl (by kernel_rfl) (by kernel_rfl) (by kernel_rfl) (by kernel_rfl) (fun _ _ _ h => h) (Or.inl ⟨by kernel_rfl, ?_⟩) (.inl rfl) ?_
        · (intro X hX; rcases hX with rfl | rfl | rfl <;> (go_simp; try (with_reducible rfl)))
        (try simp only [Act.put, List.setIfInBounds_toArray, List.set_cons_zero, List.set_cons_succ])
        refine wpAnyN_take (i := 3) (oi := { dst := some 24, op := Go.Op.fieldAddr 54 (Go.Operand.tmp 23) 4, type := 0, pos := "stop.go:13", after := #[{ on := 2, ground := Go.Ground.data }], guard := none }) (oL := { dst := none, op := Go.Op.store 33 (Go.Operand.tmp 30) (Go.Operand.tmp 28), type := 0, pos := "stop.go:13", after := #[{ on := 9, ground := Go.Ground.data }, { on := 7, ground := Go.Ground.data }, { on := 7, ground := Go.Ground.chain }, { on := 0, ground := Go.Ground.phase }, { on := 1, ground := Go.Ground.phase }, { on := 2, ground := Go.Ground.phase }, { on := 3, ground := Go.Ground.phase }, { on := 4, ground := Go.Ground.phase }, { on := 5, ground := Go.Ground.phase }, { on := 6, ground := Go.Ground.phase }, { on := 7, ground := Go.Ground.phase }], guard := none }) (v := .pointer (some ⟨d, 4, none⟩)) rfl rfl (by kernel_rfl) (by kernel_rfl) (by kernel_rfl) (by kernel_rfl) (fun _ _ _ h => h) (Or.inl ⟨by kernel_rfl, ?_⟩) (.inl rfl) ?_
        · (intro X hX; rcases hX with rfl | rfl | rfl <;> (go_simp; try (with_reducible rfl)))
        (try simp only [Act.put, List.setIfInBounds_toArray, List.set_cons_zero, List.set_cons_succ])
        refine wpAnyN_take (i := 4) (oi := { dst := some 25, op := Go.Op.load 33 (Go.Operand.tmp 24), type := 33, pos := "stop.go:13", after := #[{ on := 3, ground := Go.Ground.data }], guard := none }) (oL := { dst := none, op := Go.Op.store 33 (Go.Operand.tmp 30) (Go.Operand.tmp 28), type := 0, pos := "stop.go:13", after := #[{ on := 9, ground := Go.Ground.data }, { on := 7, ground := Go.Ground.data }, { on := 7, ground := Go.Ground.chain }, { on := 0, ground := Go.Ground.phase }, { on := 1, ground := Go.Ground.phase }, { on := 2, ground := Go.Ground.phase }, { on := 3, ground := Go.Ground.phase }, { on := 4, ground := Go.Ground.phase }, { on := 5, ground := Go.Ground.phase }, { on := 6, ground := Go.Ground.phase }, { on := 7, ground := Go.Ground.phase }], guard := none }) (v := .slice va vn vc) rfl rfl (by kernel_rfl) (by kernel_rfl) (by kernel_rfl) (by kernel_rfl) (fun _ _ _ h => h) (Or.inl ⟨by kernel_rfl, ?_⟩) (.inl rfl) ?_
        · (intro X hX; rcases hX with rfl | rfl | rfl <;> (go_simp; try (with_reducible rfl)))
        (try simp only [Act.put, List.setIfInBounds_toArray, List.set_cons_zero, List.set_cons_succ])
        refine wpAnyN_take (i := 5) (oi := { dst := some 26, op := Go.Op.load 56 (Go.Operand.tmp 5), type := 56, pos := "stop.go:13", after := #[], guard := none }) (oL := { dst := none, op := Go.Op.store 33 (Go.Operand.tmp 30) (Go.Operand.tmp 28), type := 0, pos := "stop.go:13", after := #[{ on := 9, ground := Go.Ground.data }, { on := 7, ground := Go.Ground.data }, { on := 7, ground := Go.Ground.chain }, { on := 0, ground := Go.Ground.phase }, { on := 1, ground := Go.Ground.phase }, { on := 2, ground := Go.Ground.phase }, { on := 3, ground := Go.Ground.phase }, { on := 4, ground := Go.Ground.phase }, { on := 5, ground := Go.Ground.phase }, { on := 6, ground := Go.Ground.phase }, { on := 7, ground := Go.Ground.phase }], guard := none }) (v := .agg #[.int .i64 x, .int .i64 y, .int .i64 z]) rfl rfl (by kernel_rfl) (by kernel_rfl) (by kernel_rfl) (by kernel_rfl) (fun _ _ _ h => h) (Or.inl ⟨by kernel_rfl, ?_⟩) (.inl rfl) ?_
        · (intro X hX; rcases hX with rfl | rfl | rfl <;> (go_simp; try (with_reducible rfl)))
        (try simp only [Act.put, List.setIfInBounds_toArray, List.set_cons_zero, List.set_cons_succ])
        refine wpAnyN_one (i := 6) (o := { dst := some 27, op := Go.Op.buildSlice 33 1 #[(0, Go.Operand.tmp 26)], type := 33, pos := "stop.go:13", after := #[{ on := 5, ground := Go.Ground.data }], guard := none }) (by kernel_rfl) rfl (fun K hK => ?_)
        go_simp
        refine hK.out _ _ (fun _ => (.inr (.inl rfl))) ?_
        clear hK K
        (try simp only [Act.put, List.setIfInBounds_toArray, List.set_cons_zero, List.set_cons_succ])
        refine wpAnyN_one (i := 7) (o := { dst := some 28, op := Go.Op.call { callee := Go.Callee.builtin Go.Builtin.append, args := #[Go.Operand.tmp 25, Go.Operand.tmp 27], argTypes := #[33, 33] }, type := 33, pos := "stop.go:13", after := #[{ on := 4, ground := Go.Ground.data }, { on := 6, ground := Go.Ground.data }], guard := none }) (by kernel_rfl) rfl (fun K hK => ?_)
        refine step_append_run rfl _ _ _ rfl _ rfl _ _ rfl rfl _ _ HRun.out ?_
        refine hK.out _ _ (fun _ => (.inr (.inr rfl))) ?_
        clear hK K
        (try simp only [Act.put, List.setIfInBounds_toArray, List.set_cons_zero, List.set_cons_succ])
        refine wpAnyN_take (i := 8) (oi := { dst := some 29, op := Go.Op.nilCheck (Go.Operand.tmp 21), type := 0, pos := "stop.go:13", after := #[{ on := 0, ground := Go.Ground.data }, { on := 0, ground := Go.Ground.phase }, { on := 1, ground := Go.Ground.phase }, { on := 2, ground := Go.Ground.phase }, { on := 3, ground := Go.Ground.phase }, { on := 4, ground := Go.Ground.phase }, { on := 5, ground := Go.Ground.phase }, { on := 6, ground := Go.Ground.phase }, { on := 7, ground := Go.Ground.phase }], guard := none }) (oL := { dst := none, op := Go.Op.store 33 (Go.Operand.tmp 30) (Go.Operand.tmp 28), type := 0, pos := "stop.go:13", after := #[{ on := 9, ground := Go.Ground.data }, { on := 7, ground := Go.Ground.data }, { on := 7, ground := Go.Ground.chain }, { on := 0, ground := Go.Ground.phase }, { on := 1, ground := Go.Ground.phase }, { on := 2, ground := Go.Ground.phase }, { on := 3, ground := Go.Ground.phase }, { on := 4, ground := Go.Ground.phase }, { on := 5, ground := Go.Ground.phase }, { on := 6, ground := Go.Ground.phase }, { on := 7, ground := Go.Ground.phase }], guard := none }) (v := .pointer (some ⟨d, 0, none⟩)) rfl rfl (by kernel_rfl) (by kernel_rfl) (by kernel_rfl) (by kernel_rfl) (fun _ _ _ h => h) (Or.inl ⟨by kernel_rfl, ?_⟩) (.inr (.inr rfl)) ?_
        · (intro X hX; rcases hX with rfl | rfl | rfl <;> (go_simp; try (with_reducible rfl)))
        (try simp only [Act.put, List.setIfInBounds_toArray, List.set_cons_zero, List.set_cons_succ])
        refine wpAnyN_take (i := 9) (oi := { dst := some 30, op := Go.Op.fieldAddr 54 (Go.Operand.tmp 29) 4, type := 0, pos := "stop.go:13", after := #[{ on := 8, ground := Go.Ground.data }, { on := 0, ground := Go.Ground.phase }, { on := 1, ground := Go.Ground.phase }, { on := 2, ground := Go.Ground.phase }, { on := 3, ground := Go.Ground.phase }, { on := 4, ground := Go.Ground.phase }, { on := 5, ground := Go.Ground.phase }, { on := 6, ground := Go.Ground.phase }, { on := 7, ground := Go.Ground.phase }], guard := none }) (oL := { dst := none, op := Go.Op.store 33 (Go.Operand.tmp 30) (Go.Operand.tmp 28), type := 0, pos := "stop.go:13", after := #[{ on := 9, ground := Go.Ground.data }, { on := 7, ground := Go.Ground.data }, { on := 7, ground := Go.Ground.chain }, { on := 0, ground := Go.Ground.phase }, { on := 1, ground := Go.Ground.phase }, { on := 2, ground := Go.Ground.phase }, { on := 3, ground := Go.Ground.phase }, { on := 4, ground := Go.Ground.phase }, { on := 5, ground := Go.Ground.phase }, { on := 6, ground := Go.Ground.phase }, { on := 7, ground := Go.Ground.phase }], guard := none }) (v := .pointer (some ⟨d, 4, none⟩)) rfl rfl (by kernel_rfl) (by kernel_rfl) (by kernel_rfl) (by kernel_rfl) (fun _ _ _ h => h) (Or.inl ⟨by kernel_rfl, ?_⟩) (.inr (.inr rfl)) ?_
        · (intro X hX; rcases hX with rfl | rfl | rfl <;> (go_simp; try (with_reducible rfl)))
        (try simp only [Act.put, List.setIfInBounds_toArray, List.set_cons_zero, List.set_cons_succ])
        refine wpAnyN_one (i := 10) (o := { dst := none, op := Go.Op.store 33 (Go.Operand.tmp 30) (Go.Operand.tmp 28), type := 0, pos := "stop.go:13", after := #[{ on := 9, ground := Go.Ground.data }, { on := 7, ground := Go.Ground.data }, { on := 7, ground := Go.Ground.chain }, { on := 0, ground := Go.Ground.phase }, { on := 1, ground := Go.Ground.phase }, { on := 2, ground := Go.Ground.phase }, { on := 3, ground := Go.Ground.phase }, { on := 4, ground := Go.Ground.phase }, { on := 5, ground := Go.Ground.phase }, { on := 6, ground := Go.Ground.phase }, { on := 7, ground := Go.Ground.phase }], guard := none }) (by kernel_rfl) rfl (fun K hK => ?_)
        go_simp
        refine hK.out _ _ (fun e => absurd (e.symm.trans (by kernel_rfl) : false = true) Bool.false_ne_true) ?_
        clear hK K
        (try simp only [Act.put, List.setIfInBounds_toArray, List.set_cons_zero, List.set_cons_succ])
        refine wpAnyN_of_H (S' := fun _ => True) _ _ _ _ (by kernel_rfl) ?_
        refine wpAnyH_done (by kernel_rfl) ?_ _
        --E Plan--
        go_wp2_with fail
        go_roundw
        case rel => exact ⟨k + 1, _, _, rfl, by omega, by go_num, by
          rw [HSn.out, if_pos hx]; exact HP3.out⟩
        case measure => simp [Go.RowKit.intOf]; omega
      · have HP4 : Hid (Planning B d m clk sv S F w v (planP (l.take k)) (X.alloc (.cells #[.int .i64 x, .int .i64 y, .int .i64 z] 56))) := Lib.hid (by
          have hp := HPl.out
          exact ⟨hp.row.alloc _, hp.blk, hp.disk.alloc _, hp.stays.alloc _, hp.fp⟩)
        go_wp2_with fail
        go_roundw
        case rel => exact ⟨k + 1, _, _, rfl, by omega, by go_num, by
          rw [HSn.out, if_neg hx, List.append_nil]; exact HP4.out⟩
        case measure => simp [Go.RowKit.intOf]; omega
    · have HE : Hid (DiskAt B d m clk v { S with stops := planP l } F X ∧ Stays (fpOf d m sv F) w X ∧ ∀ b, b ∈ fpOf d m v F → b ∈ fpOf d m sv F ∨ w.heap.size ≤ b) := Lib.hid (by
        have e : l.take k = l := List.take_of_length_le (by rw [HN.out]; omega)
        have hp := hP
        rw [e] at hp
        exact ⟨hp.disk, hp.stays, hp.fp⟩)
      clear hP
      go_wp2_with fail
      first | refine bodyPost_end (results_none rfl _ _ _) rfl ?_ | refine bodyPost_ret (results_none rfl _ _ _) rfl ?_
      exact ⟨rfl, v, HE.out⟩
end Go.Proofs.YtbnicjpkfldcdaaDoor

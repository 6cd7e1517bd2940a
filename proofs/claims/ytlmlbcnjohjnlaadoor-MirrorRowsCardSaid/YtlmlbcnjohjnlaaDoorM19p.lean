/- mirror: a sight is made, list by list. -/
import Derived.Test.YtlmlbcnjohjnlaaDoorM19h
import Derived.Test.YtlmlbcnjohjnlaaDoorM19n
namespace Go.Proofs.YtlmlbcnjohjnlaaDoor
open Go.RowKit

theorem Tryd.infoI : (Tryd.prog.info? 3).map (fun i => (i.zero, i.size, i.bytes)) = some (some (.int .i64 0), 1, 8) := by kernel_rfl
theorem Tryd.infoF : (Tryd.prog.info? 27).map (fun i => (i.zero, i.size, i.bytes)) = some (some (.slice none 0 0), 1, 24) := by kernel_rfl
theorem Tryd.infoB : (Tryd.prog.info? 4).map (fun i => (i.zero, i.size, i.bytes)) = some (some (.bool false), 1, 1) := by kernel_rfl
structure SG (b : Nat) (v n h : Int) (us fl kn : Value) (U F K : List Value) (Y X : World) : Prop where
  obj : X.heap[b]? = some (.cells (siC true v n h us fl kn) 47 (0, 0))
  ru : X.ownsRow 0 3 1 us U.length U
  rf : X.ownsRow 0 27 1 fl F.length F
  rk : X.ownsRow 0 4 1 kn K.length K
  lu : ∀ g, us.ownBlock = some g → b < g
  lf : ∀ g, fl.ownBlock = some g → b < g
  lk : ∀ g, kn.ownBlock = some g → b < g
  bel : Below b Y X
section
variable {b : Nat} {v n h : Int} {us fl kn : Value} {U F K : List Value} {Y X : World}
theorem SG.hold {X' : World} (g : SG b v n h us fl kn U F K Y X) (hb : Below X.heap.size X X') : SG b v n h us fl kn U F K Y X' :=
  ⟨bel_at hb (lt_of_heap g.obj) g.obj, ownsRow_same g.ru (fun c e => hb.block c (g.ru.lt c e).2), ownsRow_same g.rf (fun c e => hb.block c (g.rf.lt c e).2), ownsRow_same g.rk (fun c e => hb.block c (g.rk.lt c e).2), g.lu, g.lf, g.lk, g.bel.trans (hb.mono (Nat.le_of_lt (lt_of_heap g.obj)))⟩
theorem SG.cells (g : SG b v n h us fl kn U F K Y X) : X.cell? ⟨b, 4, none⟩ = some us ∧ X.cell? ⟨b, 5, none⟩ = some fl ∧ X.cell? ⟨b, 6, none⟩ = some kn := by
  have k := g.obj
  unfold siC at k
  exact ⟨cell_of k 4, cell_of k 5, cell_of k 6⟩
theorem SG.fz (g : SG b v n h us fl kn U F K Y X) (o : Nat) : X.frozen? ⟨b, o, none⟩ = false := frozen_of g.obj o
theorem sg_ne {e : TypeId} {vv : Value} {m : Nat} {xs : List Value} (hr : X.ownsRow 0 e 1 vv m xs) {c : Nat} (hc : vv.ownBlock = some c) {g' : Nat} {cs : Array Value} {t : TypeId} {f : Nat × Nat} (hg : X.heap[g']? = some (.cells cs t f)) (ht : e ≠ t) : c ≠ g' := by
  obtain ⟨cs', h'⟩ := row_kind hr hc
  exact kind_ne h' hg ht
theorem SG.addU (g : SG b v n h us fl kn U F K Y X) (x : Int) (hl : U.length + 1 ≤ 4294967296) :
    ∃ a c W1, (Builtin.append_ #[36, 36] 36 #[us, .slice (some ⟨X.heap.size, 0, none⟩) 1 1]).run Tryd.prog (X.alloc (.cells #[(Value.int .i64 x)] 3)) = .ok (.slice a (U.length + 1) c) W1 ∧ W1.heap[b]? = some (.cells (siC true v n h us fl kn) 47 (0, 0)) ∧
      SG b v n h (.slice a (U.length + 1) c) fl kn (U ++ [(Value.int .i64 x)]) F K Y (W1.setCell ⟨b, 4, none⟩ (.slice a (U.length + 1) c)) ∧ (∀ (g' : Nat) (cs : Array Value) (t : TypeId) (f : Nat × Nat), X.heap[g']? = some (Obj.cells cs t f) → t ≠ 3 → g' ≠ b → W1.heap[g']? = X.heap[g']? ∧ (W1.setCell ⟨b, 4, none⟩ (.slice a (U.length + 1) c)).heap[g']? = X.heap[g']?) := by
  obtain ⟨a, c, W1, hrun, hrow, hg, hown⟩ := row_app (P := Tryd.prog) 36 3 (.int .i64 0) 1 8 Tryd.underlying36 Tryd.infoI rfl (by decide) g.ru #[(Value.int .i64 x)] rfl (by intro y hy; simp at hy; subst hy; rfl) hl (by omega)
  have hbl := lt_of_heap g.obj
  have keep : ∀ (g' : Nat) (cs : Array Value) (t : TypeId) (f : Nat × Nat), X.heap[g']? = some (Obj.cells cs t f) → t ≠ 3 → W1.heap[g']? = X.heap[g']? := fun g' cs t f e ht => hg.block g' (lt_of_heap e) (fun e' => sg_ne g.ru e'.symm e (fun q => ht q.symm) rfl)
  have hs1 : W1.heap[b]? = some (.cells (siC true v n h us fl kn) 47 (0, 0)) := by rw [keep b _ _ _ g.obj (by decide)]; exact g.obj
  have hset : ∀ g', g' ≠ b → (W1.setCell ⟨b, 4, none⟩ (.slice a (U.length + 1) c)).heap[g']? = W1.heap[g']? := fun g' hb => Below.heap_setCell _ _ _ _ hb
  have key : ∀ {e : TypeId} {vv : Value} {m : Nat} {xs : List Value}, X.ownsRow 0 e 1 vv m xs → e ≠ 3 → (∀ q, vv.ownBlock = some q → b < q) → (W1.setCell ⟨b, 4, none⟩ (.slice a (U.length + 1) c)).ownsRow 0 e 1 vv m xs := fun hr hne hlo => ownsRow_same hr (fun q e => by
    obtain ⟨cs', h'⟩ := row_kind hr e
    rw [hset q (by have := hlo q e; omega), keep q _ _ _ h' hne])
  refine ⟨a, c, W1, hrun, hs1, ⟨?_, ?_, key g.rf (by decide) g.lf, key g.rk (by decide) g.lk, ?_, g.lf, g.lk, ?_⟩, fun g' cs t f e ht hb => ⟨keep g' cs t f e ht, by rw [hset g' hb]; exact keep g' cs t f e ht⟩⟩
  · unfold siC at hs1
    rw [heap_setCell_at _ hs1]
    rfl
  · exact ownsRow_same (show W1.ownsRow 0 3 1 (.slice a (U.length + 1) c) (U ++ [(Value.int .i64 x)]).length (U ++ [(Value.int .i64 x)]) from by rw [List.length_append]; exact hrow) (fun q e => hset q (by
      rcases hown q e with e' | e'
      · have := g.lu q e'; omega
      · omega))
  · exact fun q e => by
      rcases hown q e with e' | e'
      · exact g.lu q e'
      · omega
  · have b1 : Below b X (W1.setCell ⟨b, 4, none⟩ (.slice a (U.length + 1) c)) := ⟨hg.os, hg.tape, hg.output, by have := hg.size; simpa [World.setCell] using this, fun q hq => by
      rw [hset q (by omega)]
      exact hg.block q (by omega) (fun e' => by have := g.lu q e'.symm; omega)⟩
    exact g.bel.trans b1
theorem SG.addF (g : SG b v n h us fl kn U F K Y X)  (hl : F.length + 1 ≤ 4294967296) :
    ∃ a c W1, (Builtin.append_ #[44, 44] 44 #[fl, .slice (some ⟨X.heap.size, 0, none⟩) 1 1]).run Tryd.prog (X.alloc (.cells #[(Value.slice none 0 0)] 27)) = .ok (.slice a (F.length + 1) c) W1 ∧ W1.heap[b]? = some (.cells (siC true v n h us fl kn) 47 (0, 0)) ∧
      SG b v n h us (.slice a (F.length + 1) c) kn U (F ++ [(Value.slice none 0 0)]) K Y (W1.setCell ⟨b, 5, none⟩ (.slice a (F.length + 1) c)) ∧ (∀ (g' : Nat) (cs : Array Value) (t : TypeId) (f : Nat × Nat), X.heap[g']? = some (Obj.cells cs t f) → t ≠ 27 → g' ≠ b → W1.heap[g']? = X.heap[g']? ∧ (W1.setCell ⟨b, 5, none⟩ (.slice a (F.length + 1) c)).heap[g']? = X.heap[g']?) := by
  obtain ⟨a, c, W1, hrun, hrow, hg, hown⟩ := row_app (P := Tryd.prog) 44 27 (.slice none 0 0) 1 24 Tryd.underlying44 Tryd.infoF rfl (by decide) g.rf #[(Value.slice none 0 0)] rfl (by intro y hy; simp at hy; subst hy; rfl) hl (by omega)
  have hbl := lt_of_heap g.obj
  have keep : ∀ (g' : Nat) (cs : Array Value) (t : TypeId) (f : Nat × Nat), X.heap[g']? = some (Obj.cells cs t f) → t ≠ 27 → W1.heap[g']? = X.heap[g']? := fun g' cs t f e ht => hg.block g' (lt_of_heap e) (fun e' => sg_ne g.rf e'.symm e (fun q => ht q.symm) rfl)
  have hs1 : W1.heap[b]? = some (.cells (siC true v n h us fl kn) 47 (0, 0)) := by rw [keep b _ _ _ g.obj (by decide)]; exact g.obj
  have hset : ∀ g', g' ≠ b → (W1.setCell ⟨b, 5, none⟩ (.slice a (F.length + 1) c)).heap[g']? = W1.heap[g']? := fun g' hb => Below.heap_setCell _ _ _ _ hb
  have key : ∀ {e : TypeId} {vv : Value} {m : Nat} {xs : List Value}, X.ownsRow 0 e 1 vv m xs → e ≠ 27 → (∀ q, vv.ownBlock = some q → b < q) → (W1.setCell ⟨b, 5, none⟩ (.slice a (F.length + 1) c)).ownsRow 0 e 1 vv m xs := fun hr hne hlo => ownsRow_same hr (fun q e => by
    obtain ⟨cs', h'⟩ := row_kind hr e
    rw [hset q (by have := hlo q e; omega), keep q _ _ _ h' hne])
  refine ⟨a, c, W1, hrun, hs1, ⟨?_, key g.ru (by decide) g.lu, ?_, key g.rk (by decide) g.lk, g.lu, ?_, g.lk, ?_⟩, fun g' cs t f e ht hb => ⟨keep g' cs t f e ht, by rw [hset g' hb]; exact keep g' cs t f e ht⟩⟩
  · unfold siC at hs1
    rw [heap_setCell_at _ hs1]
    rfl
  · exact ownsRow_same (show W1.ownsRow 0 27 1 (.slice a (F.length + 1) c) (F ++ [(Value.slice none 0 0)]).length (F ++ [(Value.slice none 0 0)]) from by rw [List.length_append]; exact hrow) (fun q e => hset q (by
      rcases hown q e with e' | e'
      · have := g.lf q e'; omega
      · omega))
  · exact fun q e => by
      rcases hown q e with e' | e'
      · exact g.lf q e'
      · omega
  · have b1 : Below b X (W1.setCell ⟨b, 5, none⟩ (.slice a (F.length + 1) c)) := ⟨hg.os, hg.tape, hg.output, by have := hg.size; simpa [World.setCell] using this, fun q hq => by
      rw [hset q (by omega)]
      exact hg.block q (by omega) (fun e' => by have := g.lf q e'.symm; omega)⟩
    exact g.bel.trans b1
theorem SG.addK (g : SG b v n h us fl kn U F K Y X) (x : Bool) (hl : K.length + 1 ≤ 4294967296) :
    ∃ a c W1, (Builtin.append_ #[45, 45] 45 #[kn, .slice (some ⟨X.heap.size, 0, none⟩) 1 1]).run Tryd.prog (X.alloc (.cells #[(Value.bool x)] 4)) = .ok (.slice a (K.length + 1) c) W1 ∧ W1.heap[b]? = some (.cells (siC true v n h us fl kn) 47 (0, 0)) ∧
      SG b v n h us fl (.slice a (K.length + 1) c) U F (K ++ [(Value.bool x)]) Y (W1.setCell ⟨b, 6, none⟩ (.slice a (K.length + 1) c)) ∧ (∀ (g' : Nat) (cs : Array Value) (t : TypeId) (f : Nat × Nat), X.heap[g']? = some (Obj.cells cs t f) → t ≠ 4 → g' ≠ b → W1.heap[g']? = X.heap[g']? ∧ (W1.setCell ⟨b, 6, none⟩ (.slice a (K.length + 1) c)).heap[g']? = X.heap[g']?) := by
  obtain ⟨a, c, W1, hrun, hrow, hg, hown⟩ := row_app (P := Tryd.prog) 45 4 (.bool false) 1 1 Tryd.underlying45 Tryd.infoB rfl (by decide) g.rk #[(Value.bool x)] rfl (by intro y hy; simp at hy; subst hy; rfl) hl (by omega)
  have hbl := lt_of_heap g.obj
  have keep : ∀ (g' : Nat) (cs : Array Value) (t : TypeId) (f : Nat × Nat), X.heap[g']? = some (Obj.cells cs t f) → t ≠ 4 → W1.heap[g']? = X.heap[g']? := fun g' cs t f e ht => hg.block g' (lt_of_heap e) (fun e' => sg_ne g.rk e'.symm e (fun q => ht q.symm) rfl)
  have hs1 : W1.heap[b]? = some (.cells (siC true v n h us fl kn) 47 (0, 0)) := by rw [keep b _ _ _ g.obj (by decide)]; exact g.obj
  have hset : ∀ g', g' ≠ b → (W1.setCell ⟨b, 6, none⟩ (.slice a (K.length + 1) c)).heap[g']? = W1.heap[g']? := fun g' hb => Below.heap_setCell _ _ _ _ hb
  have key : ∀ {e : TypeId} {vv : Value} {m : Nat} {xs : List Value}, X.ownsRow 0 e 1 vv m xs → e ≠ 4 → (∀ q, vv.ownBlock = some q → b < q) → (W1.setCell ⟨b, 6, none⟩ (.slice a (K.length + 1) c)).ownsRow 0 e 1 vv m xs := fun hr hne hlo => ownsRow_same hr (fun q e => by
    obtain ⟨cs', h'⟩ := row_kind hr e
    rw [hset q (by have := hlo q e; omega), keep q _ _ _ h' hne])
  refine ⟨a, c, W1, hrun, hs1, ⟨?_, key g.ru (by decide) g.lu, key g.rf (by decide) g.lf, ?_, g.lu, g.lf, ?_, ?_⟩, fun g' cs t f e ht hb => ⟨keep g' cs t f e ht, by rw [hset g' hb]; exact keep g' cs t f e ht⟩⟩
  · unfold siC at hs1
    rw [heap_setCell_at _ hs1]
    rfl
  · exact ownsRow_same (show W1.ownsRow 0 4 1 (.slice a (K.length + 1) c) (K ++ [(Value.bool x)]).length (K ++ [(Value.bool x)]) from by rw [List.length_append]; exact hrow) (fun q e => hset q (by
      rcases hown q e with e' | e'
      · have := g.lk q e'; omega
      · omega))
  · exact fun q e => by
      rcases hown q e with e' | e'
      · exact g.lk q e'
      · omega
  · have b1 : Below b X (W1.setCell ⟨b, 6, none⟩ (.slice a (K.length + 1) c)) := ⟨hg.os, hg.tape, hg.output, by have := hg.size; simpa [World.setCell] using this, fun q hq => by
      rw [hset q (by omega)]
      exact hg.block q (by omega) (fun e' => by have := g.lk q e'.symm; omega)⟩
    exact g.bel.trans b1
end
end Go.Proofs.YtlmlbcnjohjnlaaDoor

/- mirror: a sight of two rows. -/
namespace Go.Proofs.YtlmlbcnjohjnlaaDoor
open Go.RowKit

theorem Tryd.nilApp (w : World) : (Builtin.append_ #[27, 27] 27 #[.slice none 0 0, .slice none 0 0]).run Tryd.prog w = .ok (.slice none 0 0) w := by kernel_rfl
def SGI (b : Nat) (v n h : Int) (k : Nat) (us fl kn : Value) (Y X : World) : Prop := SG b v n h us fl kn (List.replicate k (.int .i64 0)) (List.replicate k (.slice none 0 0)) (List.replicate k (.bool false)) Y X
theorem rw2_cells {X : World} {g : Nat} (h : X.heap[g]? = some rw2) (k : Nat) (hk : k < 2) : X.cell? ⟨g, k * 3, none⟩ = some (.int .i64 0) ∧ X.cell? ⟨g, k * 3 + 1, none⟩ = some (.bool false) ∧ X.cell? ⟨g, k * 3 + 2, none⟩ = some (.slice none 0 0) := by
  unfold rw2 at h
  match k, hk with
  | 0, _ => exact ⟨cell_of h 0, cell_of h 1, cell_of h 2⟩
  | 1, _ => exact ⟨cell_of h 3, cell_of h 4, cell_of h 5⟩
/-- What a sight of two rows answers. -/
def SightTwo (v n h : Int) (w : World) (e : Ending) (w' : World) : Prop := ∃ us fl kn, e = .returned (.agg (siC true v n h us fl kn)) ∧ Below w.heap.size w w' ∧ w'.ownsRow 0 3 1 us 2 [.int .i64 0, .int .i64 0] ∧ w'.ownsRow 0 27 1 fl 2 [.slice none 0 0, .slice none 0 0] ∧ w'.ownsRow 0 4 1 kn 2 [.bool false, .bool false]
set_option maxRecDepth 20000 in
set_option maxHeartbeats 4000000 in
theorem sight_two (P : Nat) (q : Value) (v n h : Int) (gr rc : Nat) (was : Value) (bg : Bool) (w : World) (hM : w.heap[P]? = some (mirO q true v n h (.slice (some ⟨gr, 0, none⟩) 2 rc) was bg)) (hR : w.heap[gr]? = some rw2) :
    Calls Tryd.prog 26 #[.pointer (some ⟨P, 1, none⟩)] w (SightTwo v n h w) := by
  obtain ⟨Y0, hY0⟩ : ∃ Y, w.alloc (.cells #[.bool false, .int .i64 0, .int .i64 0, .int .i64 0, .slice none 0 0, .slice none 0 0, .slice none 0 0] 47) = Y := ⟨_, rfl⟩
  have b0 : Below w.heap.size w Y0 := by rw [← hY0]; exact (Below.refl _ _).alloc (Nat.le_refl _) _
  have z0 : Y0.heap.size = w.heap.size + 1 := by rw [← hY0]; simp
  have rS : Y0.heap[w.heap.size]? = some (.cells #[.bool false, .int .i64 0, .int .i64 0, .int .i64 0, .slice none 0 0, .slice none 0 0, .slice none 0 0] 47 (0, 0)) := by rw [← hY0]; exact heap_new _ _
  have yM := bel_at b0 (lt_of_heap hM) hM
  have yR := bel_at b0 (lt_of_heap hR) hR
  have gl := lt_of_heap hR
  have pl := lt_of_heap yM
  have m1 := (mir_cells yM).c1
  have m2 := (mir_cells yM).c2
  have m3 := (mir_cells yM).c3
  have m4 := (mir_cells yM).c4
  have yMa := bel_at ((Below.refl Y0.heap.size Y0).alloc (Nat.le_refl _) (.cells #[.bool false, .int .i64 0, .int .i64 0, .int .i64 0, .slice none 0 0, .slice none 0 0, .slice none 0 0] 47)) pl yM
  have a2 := (mir_cells yMa).c2
  have a3 := (mir_cells yMa).c3
  have a4 := (mir_cells yMa).c4
  obtain ⟨Y1, hY1⟩ : ∃ Y1, (Y0.alloc (.cells #[.bool false, .int .i64 0, .int .i64 0, .int .i64 0, .slice none 0 0, .slice none 0 0, .slice none 0 0] 47)).drew.setRow Y0.heap.size #[.bool true, .int .i64 v, .int .i64 n, .int .i64 h, .slice none 0 0, .slice none 0 0, .slice none 0 0] = Y1 := ⟨_, rfl⟩
  have hb1 := box_below (w := Y0.drew) hY1
  have b1 : Below Y0.heap.size Y0 Y1 := ⟨hb1.1.os, hb1.1.tape, hb1.1.output, hb1.1.size, hb1.1.block⟩
  have r1 : Y1.heap[Y0.heap.size]? = some (.cells (siC true v n h (.slice none 0 0) (.slice none 0 0) (.slice none 0 0)) 47 (0, 0)) := hb1.2
  have m5 := (mir_cells (bel_at b1 pl yM)).c5
  have hst : SGI Y0.heap.size v n h 0 (.slice none 0 0) (.slice none 0 0) (.slice none 0 0) Y1 Y1 := ⟨r1, World.ownsRow_nil _ _ _ _, World.ownsRow_nil _ _ _ _, World.ownsRow_nil _ _ _ _, fun g e => (by cases e), fun g e => (by cases e), fun g e => (by cases e), Below.refl _ _⟩
  have HR1 : Hid (∀ X, Below Y0.heap.size Y1 X → X.heap[gr]? = some rw2 ∧ X.heap[w.heap.size]? = some (.cells #[.bool false, .int .i64 0, .int .i64 0, .int .i64 0, .slice none 0 0, .slice none 0 0, .slice none 0 0] 47 (0, 0)) ∧ Below w.heap.size w X) := Lib.hid (fun X hX => by
    have q := b1.trans hX
    exact ⟨bel_at q (by omega) yR, bel_at q (by omega) rS, b0.trans (q.mono b0.size)⟩)
  have HNew : Hid ((Y0.drew.alloc (.cells #[.bool false, .int .i64 0, .int .i64 0, .int .i64 0, .slice none 0 0, .slice none 0 0, .slice none 0 0] 47)).heap[Y0.heap.size]? = some (.cells #[.bool false, .int .i64 0, .int .i64 0, .int .i64 0, .slice none 0 0, .slice none 0 0, .slice none 0 0] 47 (0, 0))) := Lib.hid (heap_new _ _)
  have H1 : Hid ((#[.bool true, .int .i64 v, .int .i64 n, .int .i64 h, .slice none 0 0, .slice none 0 0, .slice none 0 0] : Array Value).all (·.oneCell') = true) := Lib.hid (by simp [Value.oneCell'])
  have HY0 := Lib.hid hY0
  have HY1 := Lib.hid hY1
  have HST := Lib.hid hst
  have HZ0 : Hid (w.heap.size ≤ Y0.heap.size) := Lib.hid (by omega)
  clear hY0 hY1 b0 z0 rS yM yR gl pl yMa hb1 b1 r1 hst hM hR
  go_enter Tryd.func26, Tryd.ntmps26
  go_upto_region 1 with fail
  rw [HY0.out]
  clear HY0
  go_upto_region 3 with fail
  refine wp_region_N 14 (fun X => X = Y0.drew ∨ X = Y0.drew.alloc (.cells #[.bool false, .int .i64 0, .int .i64 0, .int .i64 0, .slice none 0 0, .slice none 0 0, .slice none 0 0] 47)) (by kernel_rfl) ?_
  refine wpAnyN_take (i := 0) (oi := { dst := some 12, op := Go.Op.move (Go.Operand.tmp 0), type := 96, pos := "picture.go:24", after := #[], guard := none }) (oL := { dst := none, op := Go.Op.store 47 (Go.Operand.tmp 3) (Go.Operand.tmp 24), type := 0, pos := "picture.go:24", after := #[{ on := 13, ground := Go.Ground.data }, { on := 12, ground := Go.Ground.data }, { on := 0, ground := Go.Ground.phase }, { on := 1, ground := Go.Ground.phase }, { on := 2, ground := Go.Ground.phase }, { on := 3, ground := Go.Ground.phase }, { on := 4, ground := Go.Ground.phase }, { on := 5, ground := Go.Ground.phase }, { on := 6, ground := Go.Ground.phase }, { on := 7, ground := Go.Ground.phase }, { on := 8, ground := Go.Ground.phase }, { on := 9, ground := Go.Ground.phase }, { on := 10, ground := Go.Ground.phase }, { on := 11, ground := Go.Ground.phase }, { on := 12, ground := Go.Ground.phase }, { on := 13, ground := Go.Ground.phase }], guard := none }) (v := .pointer (some ⟨P, 1, none⟩)) rfl rfl (by kernel_rfl) (by kernel_rfl) (by kernel_rfl) (by kernel_rfl) (fun _ _ _ h => h) (Or.inl ⟨by kernel_rfl, ?_⟩) (.inl rfl) ?_
  · (intro X hX; rcases hX with rfl | rfl <;> (go_simp; try (with_reducible rfl)))
  (try simp only [Act.put, List.setIfInBounds_toArray, List.set_cons_zero, List.set_cons_succ])
  refine wpAnyN_take (i := 1) (oi := { dst := some 13, op := Go.Op.nilCheck (Go.Operand.tmp 12), type := 0, pos := "picture.go:24", after := #[{ on := 0, ground := Go.Ground.data }], guard := none }) (oL := { dst := none, op := Go.Op.store 47 (Go.Operand.tmp 3) (Go.Operand.tmp 24), type := 0, pos := "picture.go:24", after := #[{ on := 13, ground := Go.Ground.data }, { on := 12, ground := Go.Ground.data }, { on := 0, ground := Go.Ground.phase }, { on := 1, ground := Go.Ground.phase }, { on := 2, ground := Go.Ground.phase }, { on := 3, ground := Go.Ground.phase }, { on := 4, ground := Go.Ground.phase }, { on := 5, ground := Go.Ground.phase }, { on := 6, ground := Go.Ground.phase }, { on := 7, ground := Go.Ground.phase }, { on := 8, ground := Go.Ground.phase }, { on := 9, ground := Go.Ground.phase }, { on := 10, ground := Go.Ground.phase }, { on := 11, ground := Go.Ground.phase }, { on := 12, ground := Go.Ground.phase }, { on := 13, ground := Go.Ground.phase }], guard := none }) (v := .pointer (some ⟨P, 1, none⟩)) rfl rfl (by kernel_rfl) (by kernel_rfl) (by kernel_rfl) (by kernel_rfl) (fun _ _ _ h => h) (Or.inl ⟨by kernel_rfl, ?_⟩) (.inl rfl) ?_
  · (intro X hX; rcases hX with rfl | rfl <;> (go_simp; try (with_reducible rfl)))
  (try simp only [Act.put, List.setIfInBounds_toArray, List.set_cons_zero, List.set_cons_succ])
  refine wpAnyN_take (i := 2) (oi := { dst := some 14, op := Go.Op.fieldAddr 73 (Go.Operand.tmp 13) 1, type := 0, pos := "picture.go:24", after := #[{ on := 1, ground := Go.Ground.data }], guard := none }) (oL := { dst := none, op := Go.Op.store 47 (Go.Operand.tmp 3) (Go.Operand.tmp 24), type := 0, pos := "picture.go:24", after := #[{ on := 13, ground := Go.Ground.data }, { on := 12, ground := Go.Ground.data }, { on := 0, ground := Go.Ground.phase }, { on := 1, ground := Go.Ground.phase }, { on := 2, ground := Go.Ground.phase }, { on := 3, ground := Go.Ground.phase }, { on := 4, ground := Go.Ground.phase }, { on := 5, ground := Go.Ground.phase }, { on := 6, ground := Go.Ground.phase }, { on := 7, ground := Go.Ground.phase }, { on := 8, ground := Go.Ground.phase }, { on := 9, ground := Go.Ground.phase }, { on := 10, ground := Go.Ground.phase }, { on := 11, ground := Go.Ground.phase }, { on := 12, ground := Go.Ground.phase }, { on := 13, ground := Go.Ground.phase }], guard := none }) (v := .pointer (some ⟨P, 2, none⟩)) rfl rfl (by kernel_rfl) (by kernel_rfl) (by kernel_rfl) (by kernel_rfl) (fun _ _ _ h => h) (Or.inl ⟨by kernel_rfl, ?_⟩) (.inl rfl) ?_
  · (intro X hX; rcases hX with rfl | rfl <;> (go_simp; try (with_reducible rfl)))
  (try simp only [Act.put, List.setIfInBounds_toArray, List.set_cons_zero, List.set_cons_succ])
  refine wpAnyN_take (i := 3) (oi := { dst := some 15, op := Go.Op.load 3 (Go.Operand.tmp 14), type := 3, pos := "picture.go:24", after := #[{ on := 2, ground := Go.Ground.data }], guard := none }) (oL := { dst := none, op := Go.Op.store 47 (Go.Operand.tmp 3) (Go.Operand.tmp 24), type := 0, pos := "picture.go:24", after := #[{ on := 13, ground := Go.Ground.data }, { on := 12, ground := Go.Ground.data }, { on := 0, ground := Go.Ground.phase }, { on := 1, ground := Go.Ground.phase }, { on := 2, ground := Go.Ground.phase }, { on := 3, ground := Go.Ground.phase }, { on := 4, ground := Go.Ground.phase }, { on := 5, ground := Go.Ground.phase }, { on := 6, ground := Go.Ground.phase }, { on := 7, ground := Go.Ground.phase }, { on := 8, ground := Go.Ground.phase }, { on := 9, ground := Go.Ground.phase }, { on := 10, ground := Go.Ground.phase }, { on := 11, ground := Go.Ground.phase }, { on := 12, ground := Go.Ground.phase }, { on := 13, ground := Go.Ground.phase }], guard := none }) (v := .int .i64 v) rfl rfl (by kernel_rfl) (by kernel_rfl) (by kernel_rfl) (by kernel_rfl) (fun _ _ _ h => h) (Or.inl ⟨by kernel_rfl, ?_⟩) (.inl rfl) ?_
  · (intro X hX; rcases hX with rfl | rfl <;> (go_simp; try (with_reducible rfl)))
  (try simp only [Act.put, List.setIfInBounds_toArray, List.set_cons_zero, List.set_cons_succ])
  refine wpAnyN_take (i := 4) (oi := { dst := some 16, op := Go.Op.move (Go.Operand.tmp 0), type := 96, pos := "picture.go:24", after := #[], guard := none }) (oL := { dst := none, op := Go.Op.store 47 (Go.Operand.tmp 3) (Go.Operand.tmp 24), type := 0, pos := "picture.go:24", after := #[{ on := 13, ground := Go.Ground.data }, { on := 12, ground := Go.Ground.data }, { on := 0, ground := Go.Ground.phase }, { on := 1, ground := Go.Ground.phase }, { on := 2, ground := Go.Ground.phase }, { on := 3, ground := Go.Ground.phase }, { on := 4, ground := Go.Ground.phase }, { on := 5, ground := Go.Ground.phase }, { on := 6, ground := Go.Ground.phase }, { on := 7, ground := Go.Ground.phase }, { on := 8, ground := Go.Ground.phase }, { on := 9, ground := Go.Ground.phase }, { on := 10, ground := Go.Ground.phase }, { on := 11, ground := Go.Ground.phase }, { on := 12, ground := Go.Ground.phase }, { on := 13, ground := Go.Ground.phase }], guard := none }) (v := .pointer (some ⟨P, 1, none⟩)) rfl rfl (by kernel_rfl) (by kernel_rfl) (by kernel_rfl) (by kernel_rfl) (fun _ _ _ h => h) (Or.inl ⟨by kernel_rfl, ?_⟩) (.inl rfl) ?_
  · (intro X hX; rcases hX with rfl | rfl <;> (go_simp; try (with_reducible rfl)))
  (try simp only [Act.put, List.setIfInBounds_toArray, List.set_cons_zero, List.set_cons_succ])
  refine wpAnyN_take (i := 5) (oi := { dst := some 17, op := Go.Op.nilCheck (Go.Operand.tmp 16), type := 0, pos := "picture.go:24", after := #[{ on := 4, ground := Go.Ground.data }], guard := none }) (oL := { dst := none, op := Go.Op.store 47 (Go.Operand.tmp 3) (Go.Operand.tmp 24), type := 0, pos := "picture.go:24", after := #[{ on := 13, ground := Go.Ground.data }, { on := 12, ground := Go.Ground.data }, { on := 0, ground := Go.Ground.phase }, { on := 1, ground := Go.Ground.phase }, { on := 2, ground := Go.Ground.phase }, { on := 3, ground := Go.Ground.phase }, { on := 4, ground := Go.Ground.phase }, { on := 5, ground := Go.Ground.phase }, { on := 6, ground := Go.Ground.phase }, { on := 7, ground := Go.Ground.phase }, { on := 8, ground := Go.Ground.phase }, { on := 9, ground := Go.Ground.phase }, { on := 10, ground := Go.Ground.phase }, { on := 11, ground := Go.Ground.phase }, { on := 12, ground := Go.Ground.phase }, { on := 13, ground := Go.Ground.phase }], guard := none }) (v := .pointer (some ⟨P, 1, none⟩)) rfl rfl (by kernel_rfl) (by kernel_rfl) (by kernel_rfl) (by kernel_rfl) (fun _ _ _ h => h) (Or.inl ⟨by kernel_rfl, ?_⟩) (.inl rfl) ?_
  · (intro X hX; rcases hX with rfl | rfl <;> (go_simp; try (with_reducible rfl)))
  (try simp only [Act.put, List.setIfInBounds_toArray, List.set_cons_zero, List.set_cons_succ])
  refine wpAnyN_take (i := 6) (oi := { dst := some 18, op := Go.Op.fieldAddr 73 (Go.Operand.tmp 17) 2, type := 0, pos := "picture.go:24", after := #[{ on := 5, ground := Go.Ground.data }], guard := none }) (oL := { dst := none, op := Go.Op.store 47 (Go.Operand.tmp 3) (Go.Operand.tmp 24), type := 0, pos := "picture.go:24", after := #[{ on := 13, ground := Go.Ground.data }, { on := 12, ground := Go.Ground.data }, { on := 0, ground := Go.Ground.phase }, { on := 1, ground := Go.Ground.phase }, { on := 2, ground := Go.Ground.phase }, { on := 3, ground := Go.Ground.phase }, { on := 4, ground := Go.Ground.phase }, { on := 5, ground := Go.Ground.phase }, { on := 6, ground := Go.Ground.phase }, { on := 7, ground := Go.Ground.phase }, { on := 8, ground := Go.Ground.phase }, { on := 9, ground := Go.Ground.phase }, { on := 10, ground := Go.Ground.phase }, { on := 11, ground := Go.Ground.phase }, { on := 12, ground := Go.Ground.phase }, { on := 13, ground := Go.Ground.phase }], guard := none }) (v := .pointer (some ⟨P, 3, none⟩)) rfl rfl (by kernel_rfl) (by kernel_rfl) (by kernel_rfl) (by kernel_rfl) (fun _ _ _ h => h) (Or.inl ⟨by kernel_rfl, ?_⟩) (.inl rfl) ?_
  · (intro X hX; rcases hX with rfl | rfl <;> (go_simp; try (with_reducible rfl)))
  (try simp only [Act.put, List.setIfInBounds_toArray, List.set_cons_zero, List.set_cons_succ])
  refine wpAnyN_take (i := 7) (oi := { dst := some 19, op := Go.Op.load 3 (Go.Operand.tmp 18), type := 3, pos := "picture.go:24", after := #[{ on := 6, ground := Go.Ground.data }], guard := none }) (oL := { dst := none, op := Go.Op.store 47 (Go.Operand.tmp 3) (Go.Operand.tmp 24), type := 0, pos := "picture.go:24", after := #[{ on := 13, ground := Go.Ground.data }, { on := 12, ground := Go.Ground.data }, { on := 0, ground := Go.Ground.phase }, { on := 1, ground := Go.Ground.phase }, { on := 2, ground := Go.Ground.phase }, { on := 3, ground := Go.Ground.phase }, { on := 4, ground := Go.Ground.phase }, { on := 5, ground := Go.Ground.phase }, { on := 6, ground := Go.Ground.phase }, { on := 7, ground := Go.Ground.phase }, { on := 8, ground := Go.Ground.phase }, { on := 9, ground := Go.Ground.phase }, { on := 10, ground := Go.Ground.phase }, { on := 11, ground := Go.Ground.phase }, { on := 12, ground := Go.Ground.phase }, { on := 13, ground := Go.Ground.phase }], guard := none }) (v := .int .i64 n) rfl rfl (by kernel_rfl) (by kernel_rfl) (by kernel_rfl) (by kernel_rfl) (fun _ _ _ h => h) (Or.inl ⟨by kernel_rfl, ?_⟩) (.inl rfl) ?_
  · (intro X hX; rcases hX with rfl | rfl <;> (go_simp; try (with_reducible rfl)))
  (try simp only [Act.put, List.setIfInBounds_toArray, List.set_cons_zero, List.set_cons_succ])
  refine wpAnyN_take (i := 8) (oi := { dst := some 20, op := Go.Op.move (Go.Operand.tmp 0), type := 96, pos := "picture.go:24", after := #[], guard := none }) (oL := { dst := none, op := Go.Op.store 47 (Go.Operand.tmp 3) (Go.Operand.tmp 24), type := 0, pos := "picture.go:24", after := #[{ on := 13, ground := Go.Ground.data }, { on := 12, ground := Go.Ground.data }, { on := 0, ground := Go.Ground.phase }, { on := 1, ground := Go.Ground.phase }, { on := 2, ground := Go.Ground.phase }, { on := 3, ground := Go.Ground.phase }, { on := 4, ground := Go.Ground.phase }, { on := 5, ground := Go.Ground.phase }, { on := 6, ground := Go.Ground.phase }, { on := 7, ground := Go.Ground.phase }, { on := 8, ground := Go.Ground.phase }, { on := 9, ground := Go.Ground.phase }, { on := 10, ground := Go.Ground.phase }, { on := 11, ground := Go.Ground.phase }, { on := 12, ground := Go.Ground.phase }, { on := 13, ground := Go.Ground.phase }], guard := none }) (v := .pointer (some ⟨P, 1, none⟩)) rfl rfl (by kernel_rfl) (by kernel_rfl) (by kernel_rfl) (by kernel_rfl) (fun _ _ _ h => h) (Or.inl ⟨by kernel_rfl, ?_⟩) (.inl rfl) ?_
  · (intro X hX; rcases hX with rfl | rfl <;> (go_simp; try (with_reducible rfl)))
  (try simp only [Act.put, List.setIfInBounds_toArray, List.set_cons_zero, List.set_cons_succ])
  refine wpAnyN_take (i := 9) (oi := { dst := some 21, op := Go.Op.nilCheck (Go.Operand.tmp 20), type := 0, pos := "picture.go:24", after := #[{ on := 8, ground := Go.Ground.data }], guard := none }) (oL := { dst := none, op := Go.Op.store 47 (Go.Operand.tmp 3) (Go.Operand.tmp 24), type := 0, pos := "picture.go:24", after := #[{ on := 13, ground := Go.Ground.data }, { on := 12, ground := Go.Ground.data }, { on := 0, ground := Go.Ground.phase }, { on := 1, ground := Go.Ground.phase }, { on := 2, ground := Go.Ground.phase }, { on := 3, ground := Go.Ground.phase }, { on := 4, ground := Go.Ground.phase }, { on := 5, ground := Go.Ground.phase }, { on := 6, ground := Go.Ground.phase }, { on := 7, ground := Go.Ground.phase }, { on := 8, ground := Go.Ground.phase }, { on := 9, ground := Go.Ground.phase }, { on := 10, ground := Go.Ground.phase }, { on := 11, ground := Go.Ground.phase }, { on := 12, ground := Go.Ground.phase }, { on := 13, ground := Go.Ground.phase }], guard := none }) (v := .pointer (some ⟨P, 1, none⟩)) rfl rfl (by kernel_rfl) (by kernel_rfl) (by kernel_rfl) (by kernel_rfl) (fun _ _ _ h => h) (Or.inl ⟨by kernel_rfl, ?_⟩) (.inl rfl) ?_
  · (intro X hX; rcases hX with rfl | rfl <;> (go_simp; try (with_reducible rfl)))
  (try simp only [Act.put, List.setIfInBounds_toArray, List.set_cons_zero, List.set_cons_succ])
  refine wpAnyN_take (i := 10) (oi := { dst := some 22, op := Go.Op.fieldAddr 73 (Go.Operand.tmp 21) 3, type := 0, pos := "picture.go:24", after := #[{ on := 9, ground := Go.Ground.data }], guard := none }) (oL := { dst := none, op := Go.Op.store 47 (Go.Operand.tmp 3) (Go.Operand.tmp 24), type := 0, pos := "picture.go:24", after := #[{ on := 13, ground := Go.Ground.data }, { on := 12, ground := Go.Ground.data }, { on := 0, ground := Go.Ground.phase }, { on := 1, ground := Go.Ground.phase }, { on := 2, ground := Go.Ground.phase }, { on := 3, ground := Go.Ground.phase }, { on := 4, ground := Go.Ground.phase }, { on := 5, ground := Go.Ground.phase }, { on := 6, ground := Go.Ground.phase }, { on := 7, ground := Go.Ground.phase }, { on := 8, ground := Go.Ground.phase }, { on := 9, ground := Go.Ground.phase }, { on := 10, ground := Go.Ground.phase }, { on := 11, ground := Go.Ground.phase }, { on := 12, ground := Go.Ground.phase }, { on := 13, ground := Go.Ground.phase }], guard := none }) (v := .pointer (some ⟨P, 4, none⟩)) rfl rfl (by kernel_rfl) (by kernel_rfl) (by kernel_rfl) (by kernel_rfl) (fun _ _ _ h => h) (Or.inl ⟨by kernel_rfl, ?_⟩) (.inl rfl) ?_
  · (intro X hX; rcases hX with rfl | rfl <;> (go_simp; try (with_reducible rfl)))
  (try simp only [Act.put, List.setIfInBounds_toArray, List.set_cons_zero, List.set_cons_succ])
  refine wpAnyN_take (i := 11) (oi := { dst := some 23, op := Go.Op.load 3 (Go.Operand.tmp 22), type := 3, pos := "picture.go:24", after := #[{ on := 10, ground := Go.Ground.data }], guard := none }) (oL := { dst := none, op := Go.Op.store 47 (Go.Operand.tmp 3) (Go.Operand.tmp 24), type := 0, pos := "picture.go:24", after := #[{ on := 13, ground := Go.Ground.data }, { on := 12, ground := Go.Ground.data }, { on := 0, ground := Go.Ground.phase }, { on := 1, ground := Go.Ground.phase }, { on := 2, ground := Go.Ground.phase }, { on := 3, ground := Go.Ground.phase }, { on := 4, ground := Go.Ground.phase }, { on := 5, ground := Go.Ground.phase }, { on := 6, ground := Go.Ground.phase }, { on := 7, ground := Go.Ground.phase }, { on := 8, ground := Go.Ground.phase }, { on := 9, ground := Go.Ground.phase }, { on := 10, ground := Go.Ground.phase }, { on := 11, ground := Go.Ground.phase }, { on := 12, ground := Go.Ground.phase }, { on := 13, ground := Go.Ground.phase }], guard := none }) (v := .int .i64 h) rfl rfl (by kernel_rfl) (by kernel_rfl) (by kernel_rfl) (by kernel_rfl) (fun _ _ _ h => h) (Or.inl ⟨by kernel_rfl, ?_⟩) (.inl rfl) ?_
  · (intro X hX; rcases hX with rfl | rfl <;> (go_simp; try (with_reducible rfl)))
  (try simp only [Act.put, List.setIfInBounds_toArray, List.set_cons_zero, List.set_cons_succ])
  refine wpAnyN_take (i := 12) (oi := { dst := some 24, op := Go.Op.build 47 #[(0, Go.Operand.const (Go.Value.bool true)), (1, Go.Operand.tmp 15), (2, Go.Operand.tmp 19), (3, Go.Operand.tmp 23)], type := 47, pos := "picture.go:24", after := #[{ on := 3, ground := Go.Ground.data }, { on := 7, ground := Go.Ground.data }, { on := 11, ground := Go.Ground.data }], guard := none }) (oL := { dst := none, op := Go.Op.store 47 (Go.Operand.tmp 3) (Go.Operand.tmp 24), type := 0, pos := "picture.go:24", after := #[{ on := 13, ground := Go.Ground.data }, { on := 12, ground := Go.Ground.data }, { on := 0, ground := Go.Ground.phase }, { on := 1, ground := Go.Ground.phase }, { on := 2, ground := Go.Ground.phase }, { on := 3, ground := Go.Ground.phase }, { on := 4, ground := Go.Ground.phase }, { on := 5, ground := Go.Ground.phase }, { on := 6, ground := Go.Ground.phase }, { on := 7, ground := Go.Ground.phase }, { on := 8, ground := Go.Ground.phase }, { on := 9, ground := Go.Ground.phase }, { on := 10, ground := Go.Ground.phase }, { on := 11, ground := Go.Ground.phase }, { on := 12, ground := Go.Ground.phase }, { on := 13, ground := Go.Ground.phase }], guard := none }) (v := .agg #[.bool true, .int .i64 v, .int .i64 n, .int .i64 h, .slice none 0 0, .slice none 0 0, .slice none 0 0]) rfl rfl (by kernel_rfl) (by kernel_rfl) (by kernel_rfl) (by kernel_rfl) (fun _ _ _ h => h) (Or.inl ⟨by kernel_rfl, ?_⟩) (.inl rfl) ?_
  · (intro X hX; rcases hX with rfl | rfl <;> (go_simp; try (with_reducible rfl)))
  (try simp only [Act.put, List.setIfInBounds_toArray, List.set_cons_zero, List.set_cons_succ])
  refine wpAnyN_one (i := 13) (o := { dst := some 3, op := Go.Op.alloc 47, type := 0, pos := "picture.go:24", after := #[], guard := none }) (by kernel_rfl) rfl (fun K hK => ?_)
  go_simp
  refine hK.out _ _ (fun _ => (.inr rfl)) ?_
  clear hK K
  (try simp only [Act.put, List.setIfInBounds_toArray, List.set_cons_zero, List.set_cons_succ])
  refine wpAnyN_one (i := 14) (o := { dst := none, op := Go.Op.store 47 (Go.Operand.tmp 3) (Go.Operand.tmp 24), type := 0, pos := "picture.go:24", after := #[{ on := 13, ground := Go.Ground.data }, { on := 12, ground := Go.Ground.data }, { on := 0, ground := Go.Ground.phase }, { on := 1, ground := Go.Ground.phase }, { on := 2, ground := Go.Ground.phase }, { on := 3, ground := Go.Ground.phase }, { on := 4, ground := Go.Ground.phase }, { on := 5, ground := Go.Ground.phase }, { on := 6, ground := Go.Ground.phase }, { on := 7, ground := Go.Ground.phase }, { on := 8, ground := Go.Ground.phase }, { on := 9, ground := Go.Ground.phase }, { on := 10, ground := Go.Ground.phase }, { on := 11, ground := Go.Ground.phase }, { on := 12, ground := Go.Ground.phase }, { on := 13, ground := Go.Ground.phase }], guard := none }) (by kernel_rfl) rfl (fun K hK => ?_)
  refine wp_store_row 47 _ _ rfl Y0.heap.size #[.bool true, .int .i64 v, .int .i64 n, .int .i64 h, .slice none 0 0, .slice none 0 0, .slice none 0 0] rfl rfl 47 _ HNew.out Tryd.sizeSi rfl H1.out ?_
  refine hK.out _ _ (fun e => absurd (e.symm.trans (by kernel_rfl) : false = true) Bool.false_ne_true) ?_
  clear hK K
  (try simp only [Act.put])
  refine wpAnyN_of_H (S' := fun _ => True) _ _ _ _ (by kernel_rfl) ?_
  refine wpAnyH_done (by kernel_rfl) ?_ _
  rw [HY1.out]
  clear HY1 HNew m1 m2 m3 m4 a2 a3 a4 H1
  go_wp2_with fail
  go_loopw [30] (fun i wr => ∃ (k : Nat) (us fl kn : Value) (X : World), X = wr ∧ i = .int .i64 k ∧ k ≤ 2 ∧ SGI Y0.heap.size v n h k us fl kn Y1 X) (fun i _ => 2 - (intOf i).toNat)
  case atStart => exact ⟨0, _, _, _, Y1, rfl, rfl, by omega, HST.out⟩
  case round =>
    obtain ⟨k, us, fl, kn, X, rfl, rfl, hk, hG⟩ := hrel
    have HG := Lib.hid hG
    clear hG
    by_cases hlt : k < 2
    · have hlti : (k : Int) < 2 := by omega
      obtain ⟨d0, d1, d2⟩ := rw2_cells (HR1.out _ HG.out.bel).1 k hlt
      obtain ⟨X1, hX1⟩ : ∃ X1, X.alloc (.cells #[.int .i64 0, .bool false, .slice none 0 0] 98) = X1 := ⟨_, rfl⟩
      have hb1 : Below X.heap.size X X1 := by rw [← hX1]; exact (Below.refl _ _).alloc (Nat.le_refl _) _
      have r1 : X1.heap[X.heap.size]? = some (.cells #[.int .i64 0, .bool false, .slice none 0 0] 98 (0, 0)) := by rw [← hX1]; exact heap_new _ _
      have g1 : SG Y0.heap.size v n h us fl kn (List.replicate k (.int .i64 0)) (List.replicate k (.slice none 0 0)) (List.replicate k (.bool false)) Y1 X1 := SG.hold HG.out hb1
      have hxb : X.heap.size ≠ Y0.heap.size := by have := lt_of_heap HG.out.obj; omega
      have hl1 : ∀ y : Value, (List.replicate k y).length = k := fun y => by simp
      obtain ⟨ua, uc, W2, hru, hou, g2, hku⟩ := g1.addU 0 (by rw [hl1]; omega)
      rw [hl1] at hru g2 hku
      obtain ⟨X2, hX2⟩ : ∃ X2, W2.setCell ⟨Y0.heap.size, 4, none⟩ (.slice ua (k + 1) uc) = X2 := ⟨_, rfl⟩
      rw [hX2] at g2 hku
      have r2 := ((hku _ _ _ _ r1 (by decide) hxb).2).trans r1
      have g2d : SG Y0.heap.size v n h (.slice ua (k + 1) uc) fl kn (List.replicate k (.int .i64 0) ++ [.int .i64 0]) (List.replicate k (.slice none 0 0)) (List.replicate k (.bool false)) Y1 X2.drew := SG.hold g2 (Below.refl _ _).drew
      obtain ⟨fa2, fc2, W3, hrf, hof, g3, hkf⟩ := g2d.addF (by rw [hl1]; omega)
      rw [hl1] at hrf g3 hkf
      obtain ⟨X3, hX3⟩ : ∃ X3, W3.setCell ⟨Y0.heap.size, 5, none⟩ (.slice fa2 (k + 1) fc2) = X3 := ⟨_, rfl⟩
      rw [hX3] at g3 hkf
      have r2d : X2.drew.heap[X.heap.size]? = some (.cells #[.int .i64 0, .bool false, .slice none 0 0] 98 (0, 0)) := r2
      have r3w := ((hkf _ _ _ _ r2d (by decide) hxb).1).trans r2d
      have r3 := ((hkf _ _ _ _ r2d (by decide) hxb).2).trans r2d
      obtain ⟨ka, kc, W4, hrk, hok, g4, hkk⟩ := g3.addK false (by rw [hl1]; omega)
      rw [hl1] at hrk g4 hkk
      obtain ⟨X4, hX4⟩ : ∃ X4, W4.setCell ⟨Y0.heap.size, 6, none⟩ (.slice ka (k + 1) kc) = X4 := ⟨_, rfl⟩
      rw [hX4] at g4
      have HG4 : Hid (SGI Y0.heap.size v n h (k + 1) (.slice ua (k + 1) uc) (.slice fa2 (k + 1) fc2) (.slice ka (k + 1) kc) Y1 X4) := Lib.hid (by
        unfold SGI
        simp only [List.replicate_succ']
        exact g4)
      obtain ⟨uA, uN, uC, hus⟩ : ∃ a m c, us = .slice a m c := by obtain ⟨a, c, e⟩ := ownsRow_shape g1.ru; exact ⟨_, _, _, e⟩
      obtain ⟨fa, fn, fc, hfl⟩ : ∃ a m c, fl = .slice a m c := by obtain ⟨a, c, e⟩ := ownsRow_shape g1.rf; exact ⟨_, _, _, e⟩
      obtain ⟨kA, kN, kC, hkn⟩ : ∃ a m c, kn = .slice a m c := by obtain ⟨a, c, e⟩ := ownsRow_shape g1.rk; exact ⟨_, _, _, e⟩
      subst hus hfl hkn
      have cu := g1.cells.1
      have e0 : X1.cell? ⟨X.heap.size, 0, none⟩ = some (.int .i64 0) := cell_of r1 0
      have cuW : W2.cell? ⟨Y0.heap.size, 4, none⟩ = some (.slice uA uN uC) := by unfold siC at hou; exact cell_of hou 4
      have fuW : W2.frozen? ⟨Y0.heap.size, 4, none⟩ = false := frozen_of hou 4
      have cf := g2.cells.2.1
      have e2 : X2.cell? ⟨X.heap.size, 2, none⟩ = some (.slice none 0 0) := cell_of r2 2
      have gal := g2.hold ((Below.refl _ _).alloc (Nat.le_refl _) (.cells #[.slice none 0 0] 27))
      have cfa := gal.cells.2.1
      have e2a : (X2.alloc (.cells #[.slice none 0 0] 27)).cell? ⟨X.heap.size, 2, none⟩ = some (.slice none 0 0) := by rw [((Below.refl X2.heap.size X2).alloc (Nat.le_refl _) _).cell (p := ⟨X.heap.size, 2, none⟩) (lt_of_heap r2)]; exact e2
      have cfW : W3.cell? ⟨Y0.heap.size, 5, none⟩ = some (.slice fa fn fc) := by unfold siC at hof; exact cell_of hof 5
      have ffW : W3.frozen? ⟨Y0.heap.size, 5, none⟩ = false := frozen_of hof 5
      have e2W : W3.cell? ⟨X.heap.size, 2, none⟩ = some (.slice none 0 0) := cell_of r3w 2
      have ck := g3.cells.2.2
      have e1 : X3.cell? ⟨X.heap.size, 1, none⟩ = some (.bool false) := cell_of r3 1
      have ckW : W4.cell? ⟨Y0.heap.size, 6, none⟩ = some (.slice kA kN kC) := by unfold siC at hok; exact cell_of hok 6
      have fkW : W4.frozen? ⟨Y0.heap.size, 6, none⟩ = false := frozen_of hok 6
      have HX1 := Lib.hid hX1
      have HX2 := Lib.hid hX2
      have HX3 := Lib.hid hX3
      have HX4 := Lib.hid hX4
      have HRu := Lib.hid hru
      have HRf := Lib.hid hrf
      have HRk := Lib.hid hrk
      have HB7 := Lib.hid (And.intro cf (And.intro e2 (And.intro cfa (And.intro e2a (And.intro cfW (And.intro ffW e2W))))))
      have HB9 := Lib.hid (And.intro ck (And.intro e1 (And.intro ckW fkW)))
      clear hX1 hX2 hX3 hX4 hru hrf hrk hb1 r1 g1 hxb hl1 hou g2 hku r2 g2d hof g3 hkf r2d r3w r3 hok g4 hkk gal HG cf e2 cfa e2a cfW ffW e2W ck e1 ckW fkW
      go_upto_region 7 with fail
      (try rw [HX1.out])
      clear HX1 d0 d1 d2
      go_upto_region 8 with (first | (refine append_by_run rfl _ _ _ rfl _ rfl _ _ rfl rfl _ _ HRu.out ?_))
      (try rw [HX2.out])
      clear HX2 HRu cu e0 cuW fuW
      obtain ⟨cf, e2, cfa, e2a, cfW, ffW, e2W⟩ := HB7.out
      clear HB7
      refine wp_region_N 8 (fun X => X = X2.drew ∨ X = X2.drew.alloc (.cells #[.slice none 0 0] 27) ∨ X = W3) (by kernel_rfl) ?_
      refine wpAnyN_take (i := 0) (oi := { dst := some 41, op := Go.Op.fieldAddr 47 (Go.Operand.tmp 3) 5, type := 0, pos := "picture.go:27", after := #[], guard := none }) (oL := { dst := none, op := Go.Op.store 44 (Go.Operand.tmp 48) (Go.Operand.tmp 47), type := 0, pos := "picture.go:27", after := #[{ on := 7, ground := Go.Ground.data }, { on := 6, ground := Go.Ground.data }, { on := 6, ground := Go.Ground.chain }, { on := 0, ground := Go.Ground.phase }, { on := 1, ground := Go.Ground.phase }, { on := 2, ground := Go.Ground.phase }, { on := 3, ground := Go.Ground.phase }, { on := 4, ground := Go.Ground.phase }, { on := 5, ground := Go.Ground.phase }, { on := 6, ground := Go.Ground.phase }], guard := none }) (v := .pointer (some ⟨Y0.heap.size, 5, none⟩)) rfl rfl (by kernel_rfl) (by kernel_rfl) (by kernel_rfl) (by kernel_rfl) (fun _ _ _ h => h) (Or.inl ⟨by kernel_rfl, ?_⟩) (.inl rfl) ?_
      · (intro X hX; rcases hX with rfl | rfl | rfl <;> (go_simp; try (with_reducible rfl)))
      (try simp only [Act.put, List.setIfInBounds_toArray, List.set_cons_zero, List.set_cons_succ])
      refine wpAnyN_take (i := 1) (oi := { dst := some 42, op := Go.Op.load 44 (Go.Operand.tmp 41), type := 44, pos := "picture.go:27", after := #[{ on := 0, ground := Go.Ground.data }], guard := none }) (oL := { dst := none, op := Go.Op.store 44 (Go.Operand.tmp 48) (Go.Operand.tmp 47), type := 0, pos := "picture.go:27", after := #[{ on := 7, ground := Go.Ground.data }, { on := 6, ground := Go.Ground.data }, { on := 6, ground := Go.Ground.chain }, { on := 0, ground := Go.Ground.phase }, { on := 1, ground := Go.Ground.phase }, { on := 2, ground := Go.Ground.phase }, { on := 3, ground := Go.Ground.phase }, { on := 4, ground := Go.Ground.phase }, { on := 5, ground := Go.Ground.phase }, { on := 6, ground := Go.Ground.phase }], guard := none }) (v := .slice fa fn fc) rfl rfl (by kernel_rfl) (by kernel_rfl) (by kernel_rfl) (by kernel_rfl) (fun _ _ _ h => h) (Or.inl ⟨by kernel_rfl, ?_⟩) (.inl rfl) ?_
      · (intro X hX; rcases hX with rfl | rfl | rfl <;> (go_simp; try (with_reducible rfl)))
      (try simp only [Act.put, List.setIfInBounds_toArray, List.set_cons_zero, List.set_cons_succ])
      refine wpAnyN_take (i := 2) (oi := { dst := some 43, op := Go.Op.fieldAddr 98 (Go.Operand.tmp 5) 2, type := 0, pos := "picture.go:27", after := #[], guard := none }) (oL := { dst := none, op := Go.Op.store 44 (Go.Operand.tmp 48) (Go.Operand.tmp 47), type := 0, pos := "picture.go:27", after := #[{ on := 7, ground := Go.Ground.data }, { on := 6, ground := Go.Ground.data }, { on := 6, ground := Go.Ground.chain }, { on := 0, ground := Go.Ground.phase }, { on := 1, ground := Go.Ground.phase }, { on := 2, ground := Go.Ground.phase }, { on := 3, ground := Go.Ground.phase }, { on := 4, ground := Go.Ground.phase }, { on := 5, ground := Go.Ground.phase }, { on := 6, ground := Go.Ground.phase }], guard := none }) (v := .pointer (some ⟨X.heap.size, 2, none⟩)) rfl rfl (by kernel_rfl) (by kernel_rfl) (by kernel_rfl) (by kernel_rfl) (fun _ _ _ h => h) (Or.inl ⟨by kernel_rfl, ?_⟩) (.inl rfl) ?_
      · (intro X hX; rcases hX with rfl | rfl | rfl <;> (go_simp; try (with_reducible rfl)))
      (try simp only [Act.put, List.setIfInBounds_toArray, List.set_cons_zero, List.set_cons_succ])
      refine wpAnyN_take (i := 3) (oi := { dst := some 44, op := Go.Op.load 27 (Go.Operand.tmp 43), type := 27, pos := "picture.go:27", after := #[{ on := 2, ground := Go.Ground.data }], guard := none }) (oL := { dst := none, op := Go.Op.store 44 (Go.Operand.tmp 48) (Go.Operand.tmp 47), type := 0, pos := "picture.go:27", after := #[{ on := 7, ground := Go.Ground.data }, { on := 6, ground := Go.Ground.data }, { on := 6, ground := Go.Ground.chain }, { on := 0, ground := Go.Ground.phase }, { on := 1, ground := Go.Ground.phase }, { on := 2, ground := Go.Ground.phase }, { on := 3, ground := Go.Ground.phase }, { on := 4, ground := Go.Ground.phase }, { on := 5, ground := Go.Ground.phase }, { on := 6, ground := Go.Ground.phase }], guard := none }) (v := .slice none 0 0) rfl rfl (by kernel_rfl) (by kernel_rfl) (by kernel_rfl) (by kernel_rfl) (fun _ _ _ h => h) (Or.inl ⟨by kernel_rfl, ?_⟩) (.inl rfl) ?_
      · (intro X hX; rcases hX with rfl | rfl | rfl <;> (go_simp; try (with_reducible rfl)))
      (try simp only [Act.put, List.setIfInBounds_toArray, List.set_cons_zero, List.set_cons_succ])
      refine wpAnyN_one (i := 4) (o := { dst := some 45, op := Go.Op.call { callee := Go.Callee.builtin Go.Builtin.append, args := #[Go.Operand.const (Go.Value.slice none 0 0), Go.Operand.tmp 44], argTypes := #[27, 27] }, type := 27, pos := "picture.go:27", after := #[{ on := 3, ground := Go.Ground.data }], guard := none }) (by kernel_rfl) rfl (fun K hK => ?_)
      refine step_append_run rfl _ _ _ rfl _ rfl _ _ rfl rfl _ _ (Tryd.nilApp _) ?_
      refine hK.out _ _ (fun _ => (.inl rfl)) ?_
      clear hK K
      (try simp only [Act.put, List.setIfInBounds_toArray, List.set_cons_zero, List.set_cons_succ])
      refine wpAnyN_one (i := 5) (o := { dst := some 46, op := Go.Op.buildSlice 44 1 #[(0, Go.Operand.tmp 45)], type := 44, pos := "picture.go:27", after := #[{ on := 4, ground := Go.Ground.data }], guard := none }) (by kernel_rfl) rfl (fun K hK => ?_)
      go_simp
      refine hK.out _ _ (fun _ => (.inr (.inl rfl))) ?_
      clear hK K
      (try simp only [Act.put, List.setIfInBounds_toArray, List.set_cons_zero, List.set_cons_succ])
      refine wpAnyN_one (i := 6) (o := { dst := some 47, op := Go.Op.call { callee := Go.Callee.builtin Go.Builtin.append, args := #[Go.Operand.tmp 42, Go.Operand.tmp 46], argTypes := #[44, 44] }, type := 44, pos := "picture.go:27", after := #[{ on := 1, ground := Go.Ground.data }, { on := 5, ground := Go.Ground.data }, { on := 4, ground := Go.Ground.chain }], guard := none }) (by kernel_rfl) rfl (fun K hK => ?_)
      refine step_append_run rfl _ _ _ rfl _ rfl _ _ rfl rfl _ _ HRf.out ?_
      refine hK.out _ _ (fun _ => (.inr (.inr rfl))) ?_
      clear hK K
      (try simp only [Act.put, List.setIfInBounds_toArray, List.set_cons_zero, List.set_cons_succ])
      refine wpAnyN_take (i := 7) (oi := { dst := some 48, op := Go.Op.fieldAddr 47 (Go.Operand.tmp 3) 5, type := 0, pos := "picture.go:27", after := #[{ on := 0, ground := Go.Ground.phase }, { on := 1, ground := Go.Ground.phase }, { on := 2, ground := Go.Ground.phase }, { on := 3, ground := Go.Ground.phase }, { on := 4, ground := Go.Ground.phase }, { on := 5, ground := Go.Ground.phase }, { on := 6, ground := Go.Ground.phase }], guard := none }) (oL := { dst := none, op := Go.Op.store 44 (Go.Operand.tmp 48) (Go.Operand.tmp 47), type := 0, pos := "picture.go:27", after := #[{ on := 7, ground := Go.Ground.data }, { on := 6, ground := Go.Ground.data }, { on := 6, ground := Go.Ground.chain }, { on := 0, ground := Go.Ground.phase }, { on := 1, ground := Go.Ground.phase }, { on := 2, ground := Go.Ground.phase }, { on := 3, ground := Go.Ground.phase }, { on := 4, ground := Go.Ground.phase }, { on := 5, ground := Go.Ground.phase }, { on := 6, ground := Go.Ground.phase }], guard := none }) (v := .pointer (some ⟨Y0.heap.size, 5, none⟩)) rfl rfl (by kernel_rfl) (by kernel_rfl) (by kernel_rfl) (by kernel_rfl) (fun _ _ _ h => h) (Or.inl ⟨by kernel_rfl, ?_⟩) (.inr (.inr rfl)) ?_
      · (intro X hX; rcases hX with rfl | rfl | rfl <;> (go_simp; try (with_reducible rfl)))
      (try simp only [Act.put, List.setIfInBounds_toArray, List.set_cons_zero, List.set_cons_succ])
      refine wpAnyN_one (i := 8) (o := { dst := none, op := Go.Op.store 44 (Go.Operand.tmp 48) (Go.Operand.tmp 47), type := 0, pos := "picture.go:27", after := #[{ on := 7, ground := Go.Ground.data }, { on := 6, ground := Go.Ground.data }, { on := 6, ground := Go.Ground.chain }, { on := 0, ground := Go.Ground.phase }, { on := 1, ground := Go.Ground.phase }, { on := 2, ground := Go.Ground.phase }, { on := 3, ground := Go.Ground.phase }, { on := 4, ground := Go.Ground.phase }, { on := 5, ground := Go.Ground.phase }, { on := 6, ground := Go.Ground.phase }], guard := none }) (by kernel_rfl) rfl (fun K hK => ?_)
      go_simp
      refine hK.out _ _ (fun e => absurd (e.symm.trans (by kernel_rfl) : false = true) Bool.false_ne_true) ?_
      clear hK K
      (try simp only [Act.put, List.setIfInBounds_toArray, List.set_cons_zero, List.set_cons_succ])
      refine wpAnyN_of_H (S' := fun _ => True) _ _ _ _ (by kernel_rfl) ?_
      refine wpAnyH_done (by kernel_rfl) ?_ _
      (try rw [HX3.out])
      clear HX3 HRf cf e2 cfa e2a cfW ffW e2W
      obtain ⟨ck, e1, ckW, fkW⟩ := HB9.out
      clear HB9
      go_wp2_with (first | (refine append_by_run rfl _ _ _ rfl _ rfl _ _ rfl rfl _ _ HRk.out ?_))
      (try rw [HX4.out])
      go_roundw
      case rel => exact ⟨k + 1, _, _, _, _, rfl, by go_num, by omega, HG4.out⟩
      case measure => simp [intOf]; omega
    · obtain rfl : k = 2 := by omega
      obtain ⟨uA, uN, uC, hus⟩ : ∃ a m c, us = .slice a m c := by obtain ⟨a, c, e⟩ := ownsRow_shape HG.out.ru; exact ⟨_, _, _, e⟩
      obtain ⟨fa, fn, fc, hfl⟩ : ∃ a m c, fl = .slice a m c := by obtain ⟨a, c, e⟩ := ownsRow_shape HG.out.rf; exact ⟨_, _, _, e⟩
      obtain ⟨kA, kN, kC, hkn⟩ : ∃ a m c, kn = .slice a m c := by obtain ⟨a, c, e⟩ := ownsRow_shape HG.out.rk; exact ⟨_, _, _, e⟩
      subst hus hfl hkn
      have ob := HG.out.obj
      unfold siC at ob
      have c0 : X.cell? ⟨Y0.heap.size, 0, none⟩ = some (.bool true) := cell_of ob 0
      have c1 : X.cell? ⟨Y0.heap.size, 1, none⟩ = some (.int .i64 v) := cell_of ob 1
      have c2 : X.cell? ⟨Y0.heap.size, 2, none⟩ = some (.int .i64 n) := cell_of ob 2
      have c3 : X.cell? ⟨Y0.heap.size, 3, none⟩ = some (.int .i64 h) := cell_of ob 3
      have c4 : X.cell? ⟨Y0.heap.size, 4, none⟩ = some (.slice uA uN uC) := cell_of ob 4
      have c5 : X.cell? ⟨Y0.heap.size, 5, none⟩ = some (.slice fa fn fc) := cell_of ob 5
      have c6 : X.cell? ⟨Y0.heap.size, 6, none⟩ = some (.slice kA kN kC) := cell_of ob 6
      obtain ⟨_, rS, bw⟩ := HR1.out _ HG.out.bel
      have RS := Lib.hid rS
      have BW := Lib.hid bw
      have H1 : Hid ((#[.bool true, .int .i64 v, .int .i64 n, .int .i64 h, .slice uA uN uC, .slice fa fn fc, .slice kA kN kC] : Array Value).all (·.oneCell') = true) := Lib.hid (by simp [Value.oneCell'])
      clear ob rS bw HR1 HST
      go_wp2_with (first | (refine wpList_store_row rfl 47 _ _ rfl w.heap.size #[.bool true, .int .i64 v, .int .i64 n, .int .i64 h, .slice uA uN uC, .slice fa fn fc, .slice kA kN kC] rfl rfl 47 _ RS.out Tryd.sizeSi rfl H1.out ?_))
      refine bodyPost_ret (v := .agg (siC true v n h (.slice uA uN uC) (.slice fa fn fc) (.slice kA kN kC))) (results_cell_row Tryd.results26 _ _ w.heap.size 47 (siC true v n h (.slice uA uN uC) (.slice fa fn fc) (.slice kA kN kC)) (0, 0) _ rfl (setRow_heap _ _ _ _ _ _ RS.out) Tryd.underlying47 rfl Tryd.sizeSi) rfl ?_
      have g := HG.out
      have so : ∀ c, c ≠ w.heap.size → (X.setRow w.heap.size #[.bool true, .int .i64 v, .int .i64 n, .int .i64 h, .slice uA uN uC, .slice fa fn fc, .slice kA kN kC]).heap[c]? = X.heap[c]? := fun c hc => setRow_other _ _ _ _ hc
      have hlt2 : w.heap.size ≤ Y0.heap.size := HZ0.out
      refine ⟨_, _, _, rfl, ⟨BW.out.os, BW.out.tape, BW.out.output, by simpa [World.setRow] using BW.out.size, fun b hb => by rw [so b (by omega)]; exact BW.out.block b hb⟩, ownsRow_same g.ru (fun c e => so c (by have := g.lu c e; omega)), ownsRow_same g.rf (fun c e => so c (by have := g.lf c e; omega)), ownsRow_same g.rk (fun c e => so c (by have := g.lk c e; omega))⟩
end Go.Proofs.YtlmlbcnjohjnlaaDoor

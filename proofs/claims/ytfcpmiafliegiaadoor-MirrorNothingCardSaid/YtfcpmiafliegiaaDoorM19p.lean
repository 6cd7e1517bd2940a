/- mirror: a sight is made, list by list. -/
import Derived.Test.YtfcpmiafliegiaaDoorM19h
namespace Go.Proofs.YtfcpmiafliegiaaDoor
open Go.RowKit

theorem Tryd.infoI : (Tryd.prog.info? 3).map (fun i => (i.zero, i.size, i.bytes)) = some (some (.int .i64 0), 1, 8) := by kernel_rfl
theorem Tryd.infoF : (Tryd.prog.info? 27).map (fun i => (i.zero, i.size, i.bytes)) = some (some (.slice none 0 0), 1, 24) := by kernel_rfl
theorem Tryd.infoB : (Tryd.prog.info? 4).map (fun i => (i.zero, i.size, i.bytes)) = some (some (.bool false), 1, 1) := by kernel_rfl
structure SG (b : Nat) (v n h : Int) (us fl kn : Value) (U F K : List Value) (Y X : World) : Prop where
  obj : X.heap[b]? = some (.cells (siC true v n h us fl kn) 47 (0, 0))
  ru : X.ownsRow 0 3 1 us U.length U
  rf : X.ownsRow 0 27 1 fl F.length F
  rk : X.ownsRow 0 4 1 kn K.length K
  lu : ∀ g, us.ownBlock = some g → b < g
  lf : ∀ g, fl.ownBlock = some g → b < g
  lk : ∀ g, kn.ownBlock = some g → b < g
  bel : Below b Y X
section
variable {b : Nat} {v n h : Int} {us fl kn : Value} {U F K : List Value} {Y X : World}
theorem SG.hold {X' : World} (g : SG b v n h us fl kn U F K Y X) (hb : Below X.heap.size X X') : SG b v n h us fl kn U F K Y X' :=
  ⟨bel_at hb (lt_of_heap g.obj) g.obj, ownsRow_same g.ru (fun c e => hb.block c (g.ru.lt c e).2), ownsRow_same g.rf (fun c e => hb.block c (g.rf.lt c e).2), ownsRow_same g.rk (fun c e => hb.block c (g.rk.lt c e).2), g.lu, g.lf, g.lk, g.bel.trans (hb.mono (Nat.le_of_lt (lt_of_heap g.obj)))⟩
theorem SG.cells (g : SG b v n h us fl kn U F K Y X) : X.cell? ⟨b, 4, none⟩ = some us ∧ X.cell? ⟨b, 5, none⟩ = some fl ∧ X.cell? ⟨b, 6, none⟩ = some kn := by
  have k := g.obj
  unfold siC at k
  exact ⟨cell_of k 4, cell_of k 5, cell_of k 6⟩
theorem SG.fz (g : SG b v n h us fl kn U F K Y X) (o : Nat) : X.frozen? ⟨b, o, none⟩ = false := frozen_of g.obj o
theorem sg_ne {e : TypeId} {vv : Value} {m : Nat} {xs : List Value} (hr : X.ownsRow 0 e 1 vv m xs) {c : Nat} (hc : vv.ownBlock = some c) {g' : Nat} {cs : Array Value} {t : TypeId} {f : Nat × Nat} (hg : X.heap[g']? = some (.cells cs t f)) (ht : e ≠ t) : c ≠ g' := by
  obtain ⟨cs', h'⟩ := row_kind hr hc
  exact kind_ne h' hg ht
theorem SG.addU (g : SG b v n h us fl kn U F K Y X) (x : Int) (hl : U.length + 1 ≤ 4294967296) :
    ∃ a c W1, (Builtin.append_ #[36, 36] 36 #[us, .slice (some ⟨X.heap.size, 0, none⟩) 1 1]).run Tryd.prog (X.alloc (.cells #[(Value.int .i64 x)] 3)) = .ok (.slice a (U.length + 1) c) W1 ∧ W1.heap[b]? = some (.cells (siC true v n h us fl kn) 47 (0, 0)) ∧
      SG b v n h (.slice a (U.length + 1) c) fl kn (U ++ [(Value.int .i64 x)]) F K Y (W1.setCell ⟨b, 4, none⟩ (.slice a (U.length + 1) c)) ∧ (∀ (g' : Nat) (cs : Array Value) (t : TypeId) (f : Nat × Nat), X.heap[g']? = some (Obj.cells cs t f) → t ≠ 3 → g' ≠ b → W1.heap[g']? = X.heap[g']? ∧ (W1.setCell ⟨b, 4, none⟩ (.slice a (U.length + 1) c)).heap[g']? = X.heap[g']?) := by
  obtain ⟨a, c, W1, hrun, hrow, hg, hown⟩ := row_app (P := Tryd.prog) 36 3 (.int .i64 0) 1 8 Tryd.underlying36 Tryd.infoI rfl (by decide) g.ru #[(Value.int .i64 x)] rfl (by intro y hy; simp at hy; subst hy; rfl) hl (by omega)
  have hbl := lt_of_heap g.obj
  have keep : ∀ (g' : Nat) (cs : Array Value) (t : TypeId) (f : Nat × Nat), X.heap[g']? = some (Obj.cells cs t f) → t ≠ 3 → W1.heap[g']? = X.heap[g']? := fun g' cs t f e ht => hg.block g' (lt_of_heap e) (fun e' => sg_ne g.ru e'.symm e (fun q => ht q.symm) rfl)
  have hs1 : W1.heap[b]? = some (.cells (siC true v n h us fl kn) 47 (0, 0)) := by rw [keep b _ _ _ g.obj (by decide)]; exact g.obj
  have hset : ∀ g', g' ≠ b → (W1.setCell ⟨b, 4, none⟩ (.slice a (U.length + 1) c)).heap[g']? = W1.heap[g']? := fun g' hb => Below.heap_setCell _ _ _ _ hb
  have key : ∀ {e : TypeId} {vv : Value} {m : Nat} {xs : List Value}, X.ownsRow 0 e 1 vv m xs → e ≠ 3 → (∀ q, vv.ownBlock = some q → b < q) → (W1.setCell ⟨b, 4, none⟩ (.slice a (U.length + 1) c)).ownsRow 0 e 1 vv m xs := fun hr hne hlo => ownsRow_same hr (fun q e => by
    obtain ⟨cs', h'⟩ := row_kind hr e
    rw [hset q (by have := hlo q e; omega), keep q _ _ _ h' hne])
  refine ⟨a, c, W1, hrun, hs1, ⟨?_, ?_, key g.rf (by decide) g.lf, key g.rk (by decide) g.lk, ?_, g.lf, g.lk, ?_⟩, fun g' cs t f e ht hb => ⟨keep g' cs t f e ht, by rw [hset g' hb]; exact keep g' cs t f e ht⟩⟩
  · unfold siC at hs1
    rw [heap_setCell_at _ hs1]
    rfl
  · exact ownsRow_same (show W1.ownsRow 0 3 1 (.slice a (U.length + 1) c) (U ++ [(Value.int .i64 x)]).length (U ++ [(Value.int .i64 x)]) from by rw [List.length_append]; exact hrow) (fun q e => hset q (by
      rcases hown q e with e' | e'
      · have := g.lu q e'; omega
      · omega))
  · exact fun q e => by
      rcases hown q e with e' | e'
      · exact g.lu q e'
      · omega
  · have b1 : Below b X (W1.setCell ⟨b, 4, none⟩ (.slice a (U.length + 1) c)) := ⟨hg.os, hg.tape, hg.output, by have := hg.size; simpa [World.setCell] using this, fun q hq => by
      rw [hset q (by omega)]
      exact hg.block q (by omega) (fun e' => by have := g.lu q e'.symm; omega)⟩
    exact g.bel.trans b1
theorem SG.addF (g : SG b v n h us fl kn U F K Y X)  (hl : F.length + 1 ≤ 4294967296) :
    ∃ a c W1, (Builtin.append_ #[44, 44] 44 #[fl, .slice (some ⟨X.heap.size, 0, none⟩) 1 1]).run Tryd.prog (X.alloc (.cells #[(Value.slice none 0 0)] 27)) = .ok (.slice a (F.length + 1) c) W1 ∧ W1.heap[b]? = some (.cells (siC true v n h us fl kn) 47 (0, 0)) ∧
      SG b v n h us (.slice a (F.length + 1) c) kn U (F ++ [(Value.slice none 0 0)]) K Y (W1.setCell ⟨b, 5, none⟩ (.slice a (F.length + 1) c)) ∧ (∀ (g' : Nat) (cs : Array Value) (t : TypeId) (f : Nat × Nat), X.heap[g']? = some (Obj.cells cs t f) → t ≠ 27 → g' ≠ b → W1.heap[g']? = X.heap[g']? ∧ (W1.setCell ⟨b, 5, none⟩ (.slice a (F.length + 1) c)).heap[g']? = X.heap[g']?) := by
  obtain ⟨a, c, W1, hrun, hrow, hg, hown⟩ := row_app (P := Tryd.prog) 44 27 (.slice none 0 0) 1 24 Tryd.underlying44 Tryd.infoF rfl (by decide) g.rf #[(Value.slice none 0 0)] rfl (by intro y hy; simp at hy; subst hy; rfl) hl (by omega)
  have hbl := lt_of_heap g.obj
  have keep : ∀ (g' : Nat) (cs : Array Value) (t : TypeId) (f : Nat × Nat), X.heap[g']? = some (Obj.cells cs t f) → t ≠ 27 → W1.heap[g']? = X.heap[g']? := fun g' cs t f e ht => hg.block g' (lt_of_heap e) (fun e' => sg_ne g.rf e'.symm e (fun q => ht q.symm) rfl)
  have hs1 : W1.heap[b]? = some (.cells (siC true v n h us fl kn) 47 (0, 0)) := by rw [keep b _ _ _ g.obj (by decide)]; exact g.obj
  have hset : ∀ g', g' ≠ b → (W1.setCell ⟨b, 5, none⟩ (.slice a (F.length + 1) c)).heap[g']? = W1.heap[g']? := fun g' hb => Below.heap_setCell _ _ _ _ hb
  have key : ∀ {e : TypeId} {vv : Value} {m : Nat} {xs : List Value}, X.ownsRow 0 e 1 vv m xs → e ≠ 27 → (∀ q, vv.ownBlock = some q → b < q) → (W1.setCell ⟨b, 5, none⟩ (.slice a (F.length + 1) c)).ownsRow 0 e 1 vv m xs := fun hr hne hlo => ownsRow_same hr (fun q e => by
    obtain ⟨cs', h'⟩ := row_kind hr e
    rw [hset q (by have := hlo q e; omega), keep q _ _ _ h' hne])
  refine ⟨a, c, W1, hrun, hs1, ⟨?_, key g.ru (by decide) g.lu, ?_, key g.rk (by decide) g.lk, g.lu, ?_, g.lk, ?_⟩, fun g' cs t f e ht hb => ⟨keep g' cs t f e ht, by rw [hset g' hb]; exact keep g' cs t f e ht⟩⟩
  · unfold siC at hs1
    rw [heap_setCell_at _ hs1]
    rfl
  · exact ownsRow_same (show W1.ownsRow 0 27 1 (.slice a (F.length + 1) c) (F ++ [(Value.slice none 0 0)]).length (F ++ [(Value.slice none 0 0)]) from by rw [List.length_append]; exact hrow) (fun q e => hset q (by
      rcases hown q e with e' | e'
      · have := g.lf q e'; omega
      · omega))
  · exact fun q e => by
      rcases hown q e with e' | e'
      · exact g.lf q e'
      · omega
  · have b1 : Below b X (W1.setCell ⟨b, 5, none⟩ (.slice a (F.length + 1) c)) := ⟨hg.os, hg.tape, hg.output, by have := hg.size; simpa [World.setCell] using this, fun q hq => by
      rw [hset q (by omega)]
      exact hg.block q (by omega) (fun e' => by have := g.lf q e'.symm; omega)⟩
    exact g.bel.trans b1
theorem SG.addK (g : SG b v n h us fl kn U F K Y X) (x : Bool) (hl : K.length + 1 ≤ 4294967296) :
    ∃ a c W1, (Builtin.append_ #[45, 45] 45 #[kn, .slice (some ⟨X.heap.size, 0, none⟩) 1 1]).run Tryd.prog (X.alloc (.cells #[(Value.bool x)] 4)) = .ok (.slice a (K.length + 1) c) W1 ∧ W1.heap[b]? = some (.cells (siC true v n h us fl kn) 47 (0, 0)) ∧
      SG b v n h us fl (.slice a (K.length + 1) c) U F (K ++ [(Value.bool x)]) Y (W1.setCell ⟨b, 6, none⟩ (.slice a (K.length + 1) c)) ∧ (∀ (g' : Nat) (cs : Array Value) (t : TypeId) (f : Nat × Nat), X.heap[g']? = some (Obj.cells cs t f) → t ≠ 4 → g' ≠ b → W1.heap[g']? = X.heap[g']? ∧ (W1.setCell ⟨b, 6, none⟩ (.slice a (K.length + 1) c)).heap[g']? = X.heap[g']?) := by
  obtain ⟨a, c, W1, hrun, hrow, hg, hown⟩ := row_app (P := Tryd.prog) 45 4 (.bool false) 1 1 Tryd.underlying45 Tryd.infoB rfl (by decide) g.rk #[(Value.bool x)] rfl (by intro y hy; simp at hy; subst hy; rfl) hl (by omega)
  have hbl := lt_of_heap g.obj
  have keep : ∀ (g' : Nat) (cs : Array Value) (t : TypeId) (f : Nat × Nat), X.heap[g']? = some (Obj.cells cs t f) → t ≠ 4 → W1.heap[g']? = X.heap[g']? := fun g' cs t f e ht => hg.block g' (lt_of_heap e) (fun e' => sg_ne g.rk e'.symm e (fun q => ht q.symm) rfl)
  have hs1 : W1.heap[b]? = some (.cells (siC true v n h us fl kn) 47 (0, 0)) := by rw [keep b _ _ _ g.obj (by decide)]; exact g.obj
  have hset : ∀ g', g' ≠ b → (W1.setCell ⟨b, 6, none⟩ (.slice a (K.length + 1) c)).heap[g']? = W1.heap[g']? := fun g' hb => Below.heap_setCell _ _ _ _ hb
  have key : ∀ {e : TypeId} {vv : Value} {m : Nat} {xs : List Value}, X.ownsRow 0 e 1 vv m xs → e ≠ 4 → (∀ q, vv.ownBlock = some q → b < q) → (W1.setCell ⟨b, 6, none⟩ (.slice a (K.length + 1) c)).ownsRow 0 e 1 vv m xs := fun hr hne hlo => ownsRow_same hr (fun q e => by
    obtain ⟨cs', h'⟩ := row_kind hr e
    rw [hset q (by have := hlo q e; omega), keep q _ _ _ h' hne])
  refine ⟨a, c, W1, hrun, hs1, ⟨?_, key g.ru (by decide) g.lu, key g.rf (by decide) g.lf, ?_, g.lu, g.lf, ?_, ?_⟩, fun g' cs t f e ht hb => ⟨keep g' cs t f e ht, by rw [hset g' hb]; exact keep g' cs t f e ht⟩⟩
  · unfold siC at hs1
    rw [heap_setCell_at _ hs1]
    rfl
  · exact ownsRow_same (show W1.ownsRow 0 4 1 (.slice a (K.length + 1) c) (K ++ [(Value.bool x)]).length (K ++ [(Value.bool x)]) from by rw [List.length_append]; exact hrow) (fun q e => hset q (by
      rcases hown q e with e' | e'
      · have := g.lk q e'; omega
      · omega))
  · exact fun q e => by
      rcases hown q e with e' | e'
      · exact g.lk q e'
      · omega
  · have b1 : Below b X (W1.setCell ⟨b, 6, none⟩ (.slice a (K.length + 1) c)) := ⟨hg.os, hg.tape, hg.output, by have := hg.size; simpa [World.setCell] using this, fun q hq => by
      rw [hset q (by omega)]
      exact hg.block q (by omega) (fun e' => by have := g.lk q e'.symm; omega)⟩
    exact g.bel.trans b1
end
end Go.Proofs.YtfcpmiafliegiaaDoor

/- disk: Names. -/
import Derived.Test.YtfihgofgidmmiaaDoorD9zc
import Derived.Test.YtfihgofgidmmiaaDoorSx
import Derived.Sort.OwnSorted
namespace Go.Proofs.YtfihgofgidmmiaaDoor
open Go.RowKit Go.Lib Go.Sort
open Go.ChangeMaps (setBlock)

theorem Tryd.infoStr : (Tryd.prog.info? 9).map (fun i => (i.zero, i.size, i.bytes)) = some (some (.string ⟨#[]⟩), 1, 16) := by kernel_rfl
def nmC (vis : List FE) : List (List UInt8) := vis.map fun f => L f.name
theorem enc_nm (n : ByteArray) : encStr (L n) = .string n := congrArg Value.string (S_L n)
/-- Names, in the middle of its loop. -/
structure Naming (w : World) (m clk r : Nat) (F vis : List FE) (v : Value) (X : World) : Prop where
  iter : X.heap[r]? = some (.mapIter (some m) clk (vis.map FE.born).toArray clk)
  row : X.ownsRow w.heap.size 9 1 v vis.length ((nmC vis).map encStr)
  vr : v.ownBlock ≠ some r
  sub : ∀ f, f ∈ vis → f ∈ F
  nd : (vis.map FE.born).Nodup
  below : Below w.heap.size w X
  rlo : w.heap.size ≤ r
theorem born_inj {F : List FE} (hn : (F.map FE.born).Nodup) {f g : FE} (hf : f ∈ F) (hg : g ∈ F) (e : f.born = g.born) : f = g := by
  induction F with
  | nil => cases hf
  | cons x F ih =>
    rw [List.map_cons, List.nodup_cons] at hn
    rcases List.mem_cons.1 hf with e1 | hf1
    · rcases List.mem_cons.1 hg with e2 | hg1
      · rw [e1, e2]
      · exact absurd (List.mem_map.2 ⟨g, hg1, by rw [← e, e1]⟩) hn.1
    · rcases List.mem_cons.1 hg with e2 | hg1
      · exact absurd (List.mem_map.2 ⟨f, hf1, by rw [e, e2]⟩) hn.1
      · exact ih hn.2 hf1 hg1
theorem Naming.perm {w : World} {m clk r : Nat} {F vis : List FE} {v : Value} {X : World} (h : Naming w m clk r F vis v X) (hn : (F.map FE.born).Nodup) (h0 : (leftOf (F.map FE.entry).toArray (vis.map FE.born).toArray).size = 0) : vis.Perm F := by
  have hall := leftOf_none h0
  have n1 : vis.Nodup := List.Pairwise.of_map FE.born (fun a b hab e => hab (by rw [e])) h.nd
  have n2 : F.Nodup := List.Pairwise.of_map FE.born (fun a b hab e => hab (by rw [e])) hn
  refine (List.perm_ext_iff_of_nodup n1 n2).2 (fun f => ⟨h.sub f, fun hf => ?_⟩)
  have := hall f hf
  rw [Array.contains_iff_mem, List.mem_toArray] at this
  obtain ⟨g, hg, e⟩ := List.mem_map.1 this
  rw [← born_inj hn (h.sub g hg) hf e]
  exact hg
/-- One more name: what its append leaves. -/
theorem name_put {w : World} {m clk r : Nat} {F vis : List FE} {v : Value} {X w1 : World} {f : FE} (h : Naming w m clk r F vis v X) (hf : f ∈ F) (hun : (vis.map FE.born).toArray.contains f.born = false) (hw1 : w1 = X ∨ w1 = X.drew) (hlen : vis.length ≤ 1000000) {Y : World} (hY : Y = putObj w1 r (.mapIter (some m) clk ((vis.map FE.born).toArray.push f.born) clk)) :
    ∃ a n c W3, (Builtin.append_ #[45, 45] 45 #[v, .slice (some ⟨Y.heap.size, 0, none⟩) 1 1]).run Tryd.prog (Y.alloc (.cells #[.string f.name] 9)) = .ok (.slice a n c) W3 ∧ Naming w m clk r F (vis ++ [f]) (.slice a n c) W3 := by
  have hz : w1.heap.size = X.heap.size := by rcases hw1 with rfl | rfl <;> rfl
  have hh : ∀ b : Nat, w1.heap[b]? = X.heap[b]? := by rcases hw1 with rfl | rfl <;> exact fun _ => rfl
  have hrl : r < X.heap.size := lt_of_heap h.iter
  have hYz : Y.heap.size = X.heap.size := by rw [hY, putObj_size, hz]
  have hYb : ∀ b, b ≠ r → Y.heap[b]? = X.heap[b]? := fun b hb => by rw [hY, putObj_ne _ hb, hh]
  have hbX := h.below.size
  have hYB : Below w.heap.size w Y := by
    have hb := h.below
    refine ⟨?_, ?_, ?_, by rw [hYz]; exact hb.size, fun k hk => by rw [hYb k (by have := h.rlo; omega)]; exact hb.block k hk⟩
    · rw [hY]; rcases hw1 with rfl | rfl <;> exact hb.os
    · rw [hY]; rcases hw1 with rfl | rfl <;> exact hb.tape
    · rw [hY]; rcases hw1 with rfl | rfl <;> exact hb.output
  obtain ⟨i0, hi, hz0, hz1, hz2⟩ := info_parts' Tryd.infoStr
  have hrowY : (Y.alloc (.cells #[.string f.name] 9)).ownsRow w.heap.size 9 1 v vis.length ((nmC vis).map encStr) := (ownsRow_same h.row (fun b hb => hYb b (fun e => h.vr (by rw [hb, e])))).alloc _
  have hnew : (Y.alloc (.cells #[.string f.name] 9)).heap[Y.heap.size]? = some (.cells #[.string f.name] 9 (0, 0)) := heap_alloc_new Y _
  obtain ⟨v', W3, hrun, hrow3, hgr, _, hat⟩ := run_append_own_at (P := Tryd.prog) (Y.alloc (.cells #[.string f.name] 9)) w.heap.size 45 45 9 i0 _ 1 16 Tryd.underlying45 hi hz0 hz1 hz2 rfl (by decide) v vis.length ((nmC vis).map encStr) hrowY ⟨Y.heap.size, 0, none⟩ 1 1 [.string f.name] rfl (by
      intro j u hj
      match j, hj with
      | 0, hj => simp at hj; subst hj; exact cell_of hnew 0
      | (j + 1), hj => simp at hj) (by
      intro u hu
      simp at hu
      subst hu; rfl) (by unfold maxLen; omega) (by omega) (by simp; omega)
  obtain ⟨a, c, rfl⟩ := ownsRow_shape hrow3
  refine ⟨a, _, c, W3, hrun, ?_, ?_, ?_, ?_, ?_, ?_, h.rlo⟩
  · rw [hgr.block r (by simp; omega) (fun e => h.vr e.symm), Below.heap_alloc _ _ _ (by omega), hY, putObj_at _ (by omega)]
    simp
  · have e : (nmC (vis ++ [f])).map encStr = (nmC vis).map encStr ++ [.string f.name] := by
      simp [nmC, enc_nm]
    rw [e, List.length_append]
    exact hrow3
  · intro e
    rcases hat with hat | hat
    · exact h.vr (by rw [← hat]; exact e)
    · rw [hat] at e
      simp at e
      omega
  · intro g hg
    rcases List.mem_append.1 hg with hg | hg
    · exact h.sub g hg
    · simp at hg; subst hg; exact hf
  · rw [List.map_append, List.nodup_append]
    refine ⟨h.nd, by simp, ?_⟩
    intro x hx y hy e
    simp at hy
    subst hy
    subst e
    have : (vis.map FE.born).toArray.contains f.born = true := by
      rw [Array.contains_iff_mem, List.mem_toArray]; exact hx
    rw [this] at hun
    cases hun
  · refine (hYB.alloc (by omega) _).grown hgr (by simp; omega) (fun k hk => ?_)
    have := (h.row.lt k hk).1
    exact this
end Go.Proofs.YtfihgofgidmmiaaDoor

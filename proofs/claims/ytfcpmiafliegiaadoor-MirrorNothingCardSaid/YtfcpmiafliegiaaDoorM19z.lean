/- What came in: the steps themselves. -/
import Derived.Test.YtfcpmiafliegiaaDoorM19y
namespace Go.Proofs.YtfcpmiafliegiaaDoor
open Go.Shelf Go.ChangeShapes Go.WideShapes Go.ChangeAt Go.RowKit Go.Lib

section
variable {H : Type} {enc : TypeId × Value → H} {W : World}
theorem Tryd.lvSt : (leaves Tryd.prog 5 49 0).map (·.1) = List.range 74 := by kernel_rfl
theorem Tryd.lfSt : (leaves Tryd.prog 5 49 0).all (fun x => isLeaf Tryd.prog x.2) = true := by kernel_rfl
theorem Tryd.lv11 : (leaves Tryd.prog 5 49 0)[11]? = some (11, 25) := by kernel_rfl
theorem Tryd.lv55 : (leaves Tryd.prog 5 49 0)[55]? = some (55, 39) := by kernel_rfl
theorem Tryd.lv61 : (leaves Tryd.prog 5 49 0)[61]? = some (61, 40) := by kernel_rfl
theorem Tryd.lv71 : (leaves Tryd.prog 5 49 0)[71]? = some (71, 36) := by kernel_rfl
theorem Tryd.lv72 : (leaves Tryd.prog 5 49 0)[72]? = some (72, 44) := by kernel_rfl
theorem Tryd.lv73 : (leaves Tryd.prog 5 49 0)[73]? = some (73, 45) := by kernel_rfl
theorem Tryd.lv51 : (leaves Tryd.prog 5 49 0)[51]? = some (51, 3) := by kernel_rfl
theorem Tryd.lv57 : (leaves Tryd.prog 5 49 0)[57]? = some (57, 3) := by kernel_rfl
theorem sl_shape {t e : TypeId} {fuel : Nat} {u : Value} {x : DataW H × List MemPlace} (ht : Tryd.prog.underlying t = some (.slice e)) (h : DataW.trod enc Tryd.prog W 0 (fun _ => true) true fuel t [u] = some x) : ∃ a n c, u = .slice a n c := by
  rcases DataW.trod_slice ht h with ⟨hcs, _⟩ | ⟨a, len, cap, _, _, _, _, hcs, _⟩
  · simp at hcs; exact ⟨_, _, _, hcs⟩
  · simp at hcs; exact ⟨_, _, _, hcs⟩
theorem open_step19 {n : Nat} {cs : List Value} {x : DataW H × List MemPlace} (hl : cs.length = 74) (h : DataW.trod enc Tryd.prog W 0 (fun _ => true) true n 49 cs = some x) : StC W cs := by
  have hcs : (cs.drop 0).take 74 = cs := by simp [← hl]
  rw [← hcs] at h
  have lf : ∀ j lt, (leaves Tryd.prog 5 49 0)[j]? = some (j, lt) → isLeaf Tryd.prog lt = true := fun j lt e => List.all_eq_true.1 Tryd.lfSt (j, lt) (List.mem_of_getElem? e)
  have g : ∀ j lt, (leaves Tryd.prog 5 49 0)[j]? = some (j, lt) → ∃ u m y, cs[j]? = some u ∧ m ≤ n ∧ DataW.trod enc Tryd.prog W 0 (fun _ => true) true m lt [u] = some y := fun j lt e => trod_leaves (lf j lt e) 5 _ 0 74 n x h (List.mem_of_getElem? e)
  obtain ⟨u11, m11, y11, e11, _, t11⟩ := g 11 _ Tryd.lv11
  obtain ⟨u55, m55, y55, e55, _, t55⟩ := g 55 _ Tryd.lv55
  obtain ⟨u61, m61, y61, e61, _, t61⟩ := g 61 _ Tryd.lv61
  obtain ⟨u71, m71, y71, e71, _, t71⟩ := g 71 _ Tryd.lv71
  obtain ⟨u72, m72, y72, e72, _, t72⟩ := g 72 _ Tryd.lv72
  obtain ⟨u73, m73, y73, e73, _, t73⟩ := g 73 _ Tryd.lv73
  obtain ⟨u51, m51, y51, e51, _, t51⟩ := g 51 _ Tryd.lv51
  obtain ⟨u57, m57, y57, e57, _, t57⟩ := g 57 _ Tryd.lv57
  obtain ⟨k51, f51, _, _⟩ := DataW.trod_int Tryd.underlying3 t51
  obtain ⟨k57, f57, _, _⟩ := DataW.trod_int Tryd.underlying3 t57
  simp at f51 f57
  subst f51 f57
  have sh : ∀ {t e : TypeId} {j m : Nat} {u : Value} {y : DataW H × List MemPlace}, Tryd.prog.underlying t = some (.slice e) → cs[j]? = some u → DataW.trod enc Tryd.prog W 0 (fun _ => true) true m t [u] = some y → ∃ a n c, cs[j]? = some (.slice a n c) := fun {t e j m u y} h1 h2 h3 => by
    obtain ⟨a, n, c, rfl⟩ := sl_shape h1 h3
    exact ⟨a, n, c, h2⟩
  refine ⟨hl, fun v hv => ?_, sh Tryd.underlying25 e11 t11, sh Tryd.underlying39 e55 t55, ⟨u61, e61, ?_⟩, sh Tryd.underlying36 e71 t71, ⟨u72, e72, ?_⟩, sh Tryd.underlying45 e73 t73, ⟨_, e51⟩, ⟨_, e57⟩⟩
  · obtain ⟨j, hj, rfl⟩ := List.mem_iff_getElem.1 hv
    have h1 := congrArg (fun l => l[j]?) Tryd.lvSt
    simp only [List.getElem?_map, List.getElem?_range (show j < 74 by omega)] at h1
    obtain ⟨⟨q, lt⟩, h2, h3⟩ := Option.map_eq_some_iff.1 h1
    simp only at h3
    subst h3
    obtain ⟨u, m, y, h4, _, h5⟩ := g q lt h2
    rw [List.getElem?_eq_getElem hj] at h4
    obtain ⟨u', h6, h7⟩ := trod_leaf (lf q lt h2) h5
    simp at h6 h4
    rw [h4, h6]
    exact h7
  · exact open_row (d := y61.1) (p := y61.2) 40 66 5 Tryd.underlying40 Tryd.cDat (by omega) (DatC W) (fun n ds x hn hl h => by
      have hds : (ds.drop 0).take 5 = ds := by simp [← hl]
      rw [← hds] at h
      have g := fun (lt : TypeId) (q : Nat) (hl : isLeaf Tryd.prog lt = true) (hm : (q, lt) ∈ leaves Tryd.prog 3 66 0) => trod_leaves hl 3 _ 0 5 n x h hm
      rw [Tryd.lvDat] at g
      obtain ⟨u0, n0, y0, e0, _, t0⟩ := g 9 0 Tryd.lfS (by simp)
      obtain ⟨u1, n1, y1, e1, _, t1⟩ := g 3 1 Tryd.lfI (by simp)
      obtain ⟨u2, n2, y2, e2, _, t2⟩ := g 3 2 Tryd.lfI (by simp)
      obtain ⟨u3, n3, y3, e3, _, t3⟩ := g 9 3 Tryd.lfS (by simp)
      obtain ⟨u4, n4, y4, e4, _, t4⟩ := g 39 4 Tryd.lfV (by simp)
      obtain ⟨s0, f0, _, _⟩ := DataW.trod_string Tryd.underlying9 t0
      obtain ⟨k1, f1, _, _⟩ := DataW.trod_int Tryd.underlying3 t1
      obtain ⟨k2, f2, _, _⟩ := DataW.trod_int Tryd.underlying3 t2
      obtain ⟨s3, f3, _, _⟩ := DataW.trod_string Tryd.underlying9 t3
      simp at f0 f1 f2 f3
      subst f0 f1 f2 f3
      refine ⟨s0, k1, k2, s3, u4, ?_, open_values n4 (d := y4.1) (p := y4.2) t4⟩
      match ds, hl with
      | [c0, c1, c2, c3, c4], _ =>
        simp at e0 e1 e2 e3 e4
        rw [e0, e1, e2, e3, e4]) t61
  · exact open_row (d := y72.1) (p := y72.2) 44 27 1 Tryd.underlying44 Tryd.cStrs (by omega) SliC (fun n ds x hn hl h => by
      match ds, hl with
      | [c0], _ =>
        obtain ⟨a, n, c, rfl⟩ := sl_shape Tryd.underlying27 h
        exact ⟨a, n, c, rfl⟩) t72
set_option maxRecDepth 100000 in
theorem open_script_arg {v : Value} {d : DataW H} {p : List MemPlace} {base : Nat}
    (hok : Value.okWide Tryd.prog W .any base 22 v) (h0 : DataW.Trod enc Tryd.prog W 0 (fun _ => true) true 22 v d p) : RowOf W 74 (StC W) v := by
  obtain ⟨ao0, len0, cap0, rfl⟩ := okWide_slice Tryd.underlying22 hok
  obtain ⟨fuel, hf0⟩ := h0
  have hf : DataW.trod enc Tryd.prog W 0 (fun _ => true) true fuel 22 [.slice ao0 len0 cap0] = some (d, p) := by simpa [Value.cells] using hf0
  exact open_row 22 49 74 Tryd.underlying22 Tryd.cStp (by omega) (StC W) (fun n cs x _ hl h => open_step19 hl h) hf
end
end Go.Proofs.YtfcpmiafliegiaaDoor

/- What came in: a script of steps, opened. -/
import Derived.Test.YtlmlbcnjohjnlaaDoorM19r
import Derived.Test.YtlmlbcnjohjnlaaDoorLr
import Derived.Deep.Slices
namespace Go.Proofs.YtlmlbcnjohjnlaaDoor
open Go.Shelf Go.ChangeShapes Go.WideShapes Go.ChangeAt Go.RowKit Go.Lib

/-- The places of a thing's cells, with their types: structs are taken apart. -/
def leaves (P : Program) : Nat → TypeId → Nat → List (Nat × TypeId)
  | 0, t, o => [(o, t)]
  | k + 1, t, o => match P.underlying t with
    | some (.struct fs) => fs.toList.flatMap fun f => leaves P k f.type (o + f.offset)
    | _ => [(o, t)]
/-- A type of one cell. -/
def isLeaf (P : Program) (t : TypeId) : Bool := match P.underlying t with
  | some (.struct _) => false
  | some (.array _ _) => false
  | none => false
  | _ => true
section
variable {H : Type} {enc : TypeId × Value → H} {W : World}
theorem trod_leaf {P : Program} {fuel : Nat} {t : TypeId} {cs : List Value} {x : DataW H × List MemPlace} (hl : isLeaf P t = true) (h : DataW.trod enc P W 0 (fun _ => true) true fuel t cs = some x) : ∃ u, cs = [u] ∧ u.oneCell' = true := by
  cases fuel with
  | zero => simp [DataW.trod] at h
  | succ n =>
    unfold DataW.trod at h
    unfold isLeaf at hl
    split at h <;> first | exact ⟨_, rfl, rfl⟩ | (simp_all; done) | cases h
theorem take_head {CS : List Value} {o m : Nat} {u : Value} (h : (CS.drop o).take m = [u]) : CS[o]? = some u := by
  have := congrArg (fun l => l[0]?) h
  simp only [List.getElem?_take, List.getElem?_drop] at this
  split at this
  · simpa using this
  · simp at this
theorem trod_leaves {P : Program} {CS : List Value} {lt : TypeId} {q : Nat} (hlt : isLeaf P lt = true) : ∀ (k : Nat) (t : TypeId) (o m fuel : Nat) (x : DataW H × List MemPlace),
    DataW.trod enc P W 0 (fun _ => true) true fuel t ((CS.drop o).take m) = some x → (q, lt) ∈ leaves P k t o → ∃ u n y, CS[q]? = some u ∧ n ≤ fuel ∧ DataW.trod enc P W 0 (fun _ => true) true n lt [u] = some y := by
  intro k
  induction k with
  | zero =>
    intro t o m fuel x hf hm
    simp [leaves] at hm
    obtain ⟨rfl, rfl⟩ := hm
    obtain ⟨u, hu, _⟩ := trod_leaf hlt hf
    rw [hu] at hf
    exact ⟨u, fuel, x, take_head hu, Nat.le_refl _, hf⟩
  | succ k ih =>
    intro t o m fuel x hf hm
    unfold leaves at hm
    split at hm
    · rename_i fs hfs
      obtain ⟨f, hff, hm⟩ := List.mem_flatMap.1 hm
      obtain ⟨i, hi, rfl⟩ := List.mem_iff_getElem.1 hff
      obtain ⟨xs, n, rfl, _, _, hxl, hg⟩ := DataW.trod_struct hfs hf
      have hi' : i < fs.size := by simpa using hi
      have h1 := hg i fs[i] (by simp [hi'])
      rw [List.getElem?_eq_getElem (by omega)] at h1
      rw [List.drop_take, List.drop_drop, List.take_take] at h1
      have hm' : (q, lt) ∈ leaves P k fs[i].type (o + fs[i].offset) := by simpa using hm
      obtain ⟨u, n', y, h2, h3, h4⟩ := ih _ _ _ _ _ h1 hm'
      exact ⟨u, n', y, h2, by omega, h4⟩
    · simp at hm
      obtain ⟨rfl, rfl⟩ := hm
      obtain ⟨u, hu, _⟩ := trod_leaf hlt hf
      rw [hu] at hf
      exact ⟨u, fuel, x, take_head hu, Nat.le_refl _, hf⟩
/-- A list that came in, thing by thing; the things have less fuel. -/
theorem open_row {v : Value} {d : DataW H} {p : List MemPlace} {fuel : Nat} (t e : TypeId) (z : Nat) (ht : Tryd.prog.underlying t = some (.slice e)) (hc : Tryd.prog.cellsOf e = z) (hz : 0 < z) (Pr : List Value → Prop)
    (hop : ∀ (n : Nat) (cs : List Value) (x : DataW H × List MemPlace), n < fuel → cs.length = z → DataW.trod enc Tryd.prog W 0 (fun _ => true) true n e cs = some x → Pr cs)
    (hf : DataW.trod enc Tryd.prog W 0 (fun _ => true) true fuel t [v] = some (d, p)) : RowOf W z Pr v := by
  rcases DataW.trod_slice ht hf with ⟨hcs, hx⟩ | ⟨a, len, cap, elems, rest, n, rfl, hcs, hx, hb, hl, hm, hlen, hall, _, _⟩
  · simp at hcs
    exact ⟨none, 0, 0, hcs, by omega, fun h => by omega⟩
  · simp at hcs
    subst hcs
    refine ⟨_, _, _, rfl, by unfold maxLen at hm; omega, fun h0 => ?_⟩
    obtain ⟨b, off, spot⟩ := a
    have hcell : ∀ i, i < len → ∃ cs' : List Value, cs'.length = z ∧ Pr cs' ∧ ∀ j u, cs'[j]? = some u → W.cell? ((⟨b, off, spot⟩ : Addr).add (i * z + j)) = some u := by
      intro i hi
      have h1 := hall i hi
      rw [hc, List.getElem?_eq_getElem (by omega)] at h1
      obtain ⟨cs', h2, h3⟩ := Option.bind_eq_some_iff.1 h1
      obtain ⟨_, hlen', hcc⟩ := World.cells?_some h2
      refine ⟨cs', hlen', hop n cs' _ (by omega) hlen' h3, fun j u hj => ?_⟩
      have hjl := (List.getElem?_eq_some_iff.1 hj).1
      have := hcc j (by omega)
      rw [Deep.add_add] at this
      rw [this]; exact hj
    have hspot : spot = none ∧ b < W.heap.size := by
      obtain ⟨cs, hl', _, h⟩ := hcell 0 (by omega)
      have hq := h 0 (cs[0]'(by omega)) (List.getElem?_eq_getElem (by omega))
      have hs : spot = none := by simpa [Addr.add] using World.cell?_spot hq
      subst hs
      have := World.block_lt_of_cell? W _ hq
      rw [Addr.add_lit] at this
      exact ⟨rfl, this⟩
    obtain ⟨rfl, hbl⟩ := hspot
    refine ⟨b, off, rfl, hbl, fun i hi => ?_⟩
    obtain ⟨cs', h1, h2, h3⟩ := hcell i hi
    refine ⟨cs', h1, h2, fun j u hj => ?_⟩
    have := h3 j u hj
    rw [Addr.add_lit] at this
    rw [Nat.add_assoc]; exact this
theorem Tryd.cVal : Tryd.prog.cellsOf 64 = 4 := by kernel_rfl
theorem Tryd.cDat : Tryd.prog.cellsOf 66 = 5 := by kernel_rfl
theorem Tryd.cStrs : Tryd.prog.cellsOf 27 = 1 := by kernel_rfl
theorem Tryd.cStp : Tryd.prog.cellsOf 49 = 74 := by kernel_rfl
theorem Tryd.lvVal : leaves Tryd.prog 3 64 0 = [(0, 3), (1, 3), (2, 9), (3, 39)] := by kernel_rfl
theorem Tryd.lvDat : leaves Tryd.prog 3 66 0 = [(0, 9), (1, 3), (2, 3), (3, 9), (4, 39)] := by kernel_rfl
theorem Tryd.lfI : isLeaf Tryd.prog 3 = true := by kernel_rfl
theorem Tryd.lfS : isLeaf Tryd.prog 9 = true := by kernel_rfl
theorem Tryd.lfV : isLeaf Tryd.prog 39 = true := by kernel_rfl
/-- Values, however deep. -/
theorem open_values : ∀ (fuel : Nat) {v : Value} {d : DataW H} {p : List MemPlace}, DataW.trod enc Tryd.prog W 0 (fun _ => true) true fuel 39 [v] = some (d, p) → LiesV W v := by
  intro fuel
  induction fuel using Nat.strongRecOn with
  | ind fuel ih =>
  intro v d p hf
  obtain ⟨a, n, c, rfl, hn, hrow⟩ := open_row 39 64 4 Tryd.underlying39 Tryd.cVal (by omega) (fun cs => ∃ k m t kv, cs = [.int .i64 k, .int .i64 m, .string t, kv] ∧ LiesV W kv) (fun n cs x hn hl h => by
    have hcs : (cs.drop 0).take 4 = cs := by simp [← hl]
    rw [← hcs] at h
    have g := fun (lt : TypeId) (q : Nat) (hl : isLeaf Tryd.prog lt = true) (hm : (q, lt) ∈ leaves Tryd.prog 3 64 0) => trod_leaves hl 3 _ 0 4 n x h hm
    rw [Tryd.lvVal] at g
    obtain ⟨u0, n0, y0, e0, _, t0⟩ := g 3 0 Tryd.lfI (by simp)
    obtain ⟨u1, n1, y1, e1, _, t1⟩ := g 3 1 Tryd.lfI (by simp)
    obtain ⟨u2, n2, y2, e2, _, t2⟩ := g 9 2 Tryd.lfS (by simp)
    obtain ⟨u3, n3, y3, e3, hn3, t3⟩ := g 39 3 Tryd.lfV (by simp)
    obtain ⟨k0, f0, _, _⟩ := DataW.trod_int Tryd.underlying3 t0
    obtain ⟨k1, f1, _, _⟩ := DataW.trod_int Tryd.underlying3 t1
    obtain ⟨s2, f2, _, _⟩ := DataW.trod_string Tryd.underlying9 t2
    simp at f0 f1 f2
    subst f0 f1 f2
    refine ⟨k0, k1, s2, u3, ?_, ih n3 (by omega) (d := y3.1) (p := y3.2) t3⟩
    match cs, hl with
    | [c0, c1, c2, c3], _ =>
      simp at e0 e1 e2 e3
      rw [e0, e1, e2, e3]) hf
  by_cases h0 : n = 0
  · subst h0; exact .nil _ _
  · obtain ⟨g, o, rfl, hg, hall⟩ := hrow (by omega)
    have key : ∀ i, i < n → ∃ q : (Int × Int) × ByteArray × Value, (W.cell? ⟨g, o + i * 4, none⟩ = some (.int .i64 q.1.1) ∧ W.cell? ⟨g, o + i * 4 + 1, none⟩ = some (.int .i64 q.1.2) ∧ W.cell? ⟨g, o + i * 4 + 2, none⟩ = some (.string q.2.1) ∧ W.cell? ⟨g, o + i * 4 + 3, none⟩ = some q.2.2) ∧ LiesV W q.2.2 := by
      intro i hi
      obtain ⟨cs, _, ⟨k, m, t, kv, rfl, hkv⟩, hr⟩ := hall i hi
      exact ⟨((k, m), t, kv), ⟨hr 0 _ rfl, hr 1 _ rfl, hr 2 _ rfl, hr 3 _ rfl⟩, hkv⟩
    haveI : Inhabited ((Int × Int) × ByteArray × Value) := ⟨((0, 0), ⟨#[]⟩, undef)⟩
    obtain ⟨q, hq⟩ := Deep.choose_lt key
    exact .row g o n c hg hn (fun i => (q i).1.1) (fun i => (q i).1.2) (fun i => (q i).2.1) (fun i => (q i).2.2) (fun i hi => (hq i hi).1) (fun i hi => (hq i hi).2)
end
end Go.Proofs.YtlmlbcnjohjnlaaDoor

/- What came in: the steps themselves. -/
namespace Go.Proofs.YtlmlbcnjohjnlaaDoor
open Go.Shelf Go.ChangeShapes Go.WideShapes Go.ChangeAt Go.RowKit Go.Lib

section
variable {H : Type} {enc : TypeId × Value → H} {W : World}
theorem Tryd.lvSt : (leaves Tryd.prog 5 49 0).map (·.1) = List.range 74 := by kernel_rfl
theorem Tryd.lfSt : (leaves Tryd.prog 5 49 0).all (fun x => isLeaf Tryd.prog x.2) = true := by kernel_rfl
theorem Tryd.lv11 : (leaves Tryd.prog 5 49 0)[11]? = some (11, 25) := by kernel_rfl
theorem Tryd.lv55 : (leaves Tryd.prog 5 49 0)[55]? = some (55, 39) := by kernel_rfl
theorem Tryd.lv61 : (leaves Tryd.prog 5 49 0)[61]? = some (61, 40) := by kernel_rfl
theorem Tryd.lv71 : (leaves Tryd.prog 5 49 0)[71]? = some (71, 36) := by kernel_rfl
theorem Tryd.lv72 : (leaves Tryd.prog 5 49 0)[72]? = some (72, 44) := by kernel_rfl
theorem Tryd.lv73 : (leaves Tryd.prog 5 49 0)[73]? = some (73, 45) := by kernel_rfl
theorem Tryd.lv51 : (leaves Tryd.prog 5 49 0)[51]? = some (51, 3) := by kernel_rfl
theorem Tryd.lv57 : (leaves Tryd.prog 5 49 0)[57]? = some (57, 3) := by kernel_rfl
theorem sl_shape {t e : TypeId} {fuel : Nat} {u : Value} {x : DataW H × List MemPlace} (ht : Tryd.prog.underlying t = some (.slice e)) (h : DataW.trod enc Tryd.prog W 0 (fun _ => true) true fuel t [u] = some x) : ∃ a n c, u = .slice a n c := by
  rcases DataW.trod_slice ht h with ⟨hcs, _⟩ | ⟨a, len, cap, _, _, _, _, hcs, _⟩
  · simp at hcs; exact ⟨_, _, _, hcs⟩
  · simp at hcs; exact ⟨_, _, _, hcs⟩
theorem open_step19 {n : Nat} {cs : List Value} {x : DataW H × List MemPlace} (hl : cs.length = 74) (h : DataW.trod enc Tryd.prog W 0 (fun _ => true) true n 49 cs = some x) : StC W cs := by
  have hcs : (cs.drop 0).take 74 = cs := by simp [← hl]
  rw [← hcs] at h
  have lf : ∀ j lt, (leaves Tryd.prog 5 49 0)[j]? = some (j, lt) → isLeaf Tryd.prog lt = true := fun j lt e => List.all_eq_true.1 Tryd.lfSt (j, lt) (List.mem_of_getElem? e)
  have g : ∀ j lt, (leaves Tryd.prog 5 49 0)[j]? = some (j, lt) → ∃ u m y, cs[j]? = some u ∧ m ≤ n ∧ DataW.trod enc Tryd.prog W 0 (fun _ => true) true m lt [u] = some y := fun j lt e => trod_leaves (lf j lt e) 5 _ 0 74 n x h (List.mem_of_getElem? e)
  obtain ⟨u11, m11, y11, e11, _, t11⟩ := g 11 _ Tryd.lv11
  obtain ⟨u55, m55, y55, e55, _, t55⟩ := g 55 _ Tryd.lv55
  obtain ⟨u61, m61, y61, e61, _, t61⟩ := g 61 _ Tryd.lv61
  obtain ⟨u71, m71, y71, e71, _, t71⟩ := g 71 _ Tryd.lv71
  obtain ⟨u72, m72, y72, e72, _, t72⟩ := g 72 _ Tryd.lv72
  obtain ⟨u73, m73, y73, e73, _, t73⟩ := g 73 _ Tryd.lv73
  obtain ⟨u51, m51, y51, e51, _, t51⟩ := g 51 _ Tryd.lv51
  obtain ⟨u57, m57, y57, e57, _, t57⟩ := g 57 _ Tryd.lv57
  obtain ⟨k51, f51, _, _⟩ := DataW.trod_int Tryd.underlying3 t51
  obtain ⟨k57, f57, _, _⟩ := DataW.trod_int Tryd.underlying3 t57
  simp at f51 f57
  subst f51 f57
  have sh : ∀ {t e : TypeId} {j m : Nat} {u : Value} {y : DataW H × List MemPlace}, Tryd.prog.underlying t = some (.slice e) → cs[j]? = some u → DataW.trod enc Tryd.prog W 0 (fun _ => true) true m t [u] = some y → ∃ a n c, cs[j]? = some (.slice a n c) := fun {t e j m u y} h1 h2 h3 => by
    obtain ⟨a, n, c, rfl⟩ := sl_shape h1 h3
    exact ⟨a, n, c, h2⟩
  refine ⟨hl, fun v hv => ?_, sh Tryd.underlying25 e11 t11, sh Tryd.underlying39 e55 t55, ⟨u61, e61, ?_⟩, sh Tryd.underlying36 e71 t71, ⟨u72, e72, ?_⟩, sh Tryd.underlying45 e73 t73, ⟨_, e51⟩, ⟨_, e57⟩⟩
  · obtain ⟨j, hj, rfl⟩ := List.mem_iff_getElem.1 hv
    have h1 := congrArg (fun l => l[j]?) Tryd.lvSt
    simp only [List.getElem?_map, List.getElem?_range (show j < 74 by omega)] at h1
    obtain ⟨⟨q, lt⟩, h2, h3⟩ := Option.map_eq_some_iff.1 h1
    simp only at h3
    subst h3
    obtain ⟨u, m, y, h4, _, h5⟩ := g q lt h2
    rw [List.getElem?_eq_getElem hj] at h4
    obtain ⟨u', h6, h7⟩ := trod_leaf (lf q lt h2) h5
    simp at h6 h4
    rw [h4, h6]
    exact h7
  · exact open_row (d := y61.1) (p := y61.2) 40 66 5 Tryd.underlying40 Tryd.cDat (by omega) (DatC W) (fun n ds x hn hl h => by
      have hds : (ds.drop 0).take 5 = ds := by simp [← hl]
      rw [← hds] at h
      have g := fun (lt : TypeId) (q : Nat) (hl : isLeaf Tryd.prog lt = true) (hm : (q, lt) ∈ leaves Tryd.prog 3 66 0) => trod_leaves hl 3 _ 0 5 n x h hm
      rw [Tryd.lvDat] at g
      obtain ⟨u0, n0, y0, e0, _, t0⟩ := g 9 0 Tryd.lfS (by simp)
      obtain ⟨u1, n1, y1, e1, _, t1⟩ := g 3 1 Tryd.lfI (by simp)
      obtain ⟨u2, n2, y2, e2, _, t2⟩ := g 3 2 Tryd.lfI (by simp)
      obtain ⟨u3, n3, y3, e3, _, t3⟩ := g 9 3 Tryd.lfS (by simp)
      obtain ⟨u4, n4, y4, e4, _, t4⟩ := g 39 4 Tryd.lfV (by simp)
      obtain ⟨s0, f0, _, _⟩ := DataW.trod_string Tryd.underlying9 t0
      obtain ⟨k1, f1, _, _⟩ := DataW.trod_int Tryd.underlying3 t1
      obtain ⟨k2, f2, _, _⟩ := DataW.trod_int Tryd.underlying3 t2
      obtain ⟨s3, f3, _, _⟩ := DataW.trod_string Tryd.underlying9 t3
      simp at f0 f1 f2 f3
      subst f0 f1 f2 f3
      refine ⟨s0, k1, k2, s3, u4, ?_, open_values n4 (d := y4.1) (p := y4.2) t4⟩
      match ds, hl with
      | [c0, c1, c2, c3, c4], _ =>
        simp at e0 e1 e2 e3 e4
        rw [e0, e1, e2, e3, e4]) t61
  · exact open_row (d := y72.1) (p := y72.2) 44 27 1 Tryd.underlying44 Tryd.cStrs (by omega) SliC (fun n ds x hn hl h => by
      match ds, hl with
      | [c0], _ =>
        obtain ⟨a, n, c, rfl⟩ := sl_shape Tryd.underlying27 h
        exact ⟨a, n, c, rfl⟩) t72
end
end Go.Proofs.YtlmlbcnjohjnlaaDoor

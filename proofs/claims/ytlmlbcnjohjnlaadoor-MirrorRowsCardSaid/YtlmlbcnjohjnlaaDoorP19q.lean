/- What came in: lists with their weights. -/
import Derived.Test.YtlmlbcnjohjnlaaDoorM19r
import Derived.Test.YtlmlbcnjohjnlaaDoorM19y
import Derived.SizedLaws
import Derived.Test.YtlmlbcnjohjnlaaDoorP19j
namespace Go.Proofs.YtlmlbcnjohjnlaaDoor
open Go.Shelf Go.ChangeShapes Go.WideShapes Go.ChangeAt Go.RowKit Go.Lib

section
variable {H : Type} {enc : TypeId × Value → H} {W : World}
/-- What it weighs is no more than a process reaches. -/
def WtOk (P : Program) (t : TypeId) (d : DataW H) : Prop := ∀ x ∈ d.weights P t, x ≤ reachBytes
theorem weightsAll_memP {P : Program} {t : TypeId} : ∀ {l : List (DataW H)} {d : DataW H} {x : Nat}, d ∈ l → x ∈ d.weights P t → x ∈ DataW.weightsAll P t l
  | e :: l, d, x, hd, hx => by
    simp only [DataW.weightsAll, List.mem_append]
    rcases List.mem_cons.1 hd with rfl | hd
    · exact .inl hx
    · exact .inr (weightsAll_memP hd hx)
theorem WtOk.part {P : Program} {t : TypeId} {fs : Array Field} {ds : List (DataW H)} (ht : P.underlying t = some (.struct fs)) (h : WtOk P t (.agg ds)) {i : Nat} {f : Field} {d : DataW H} (hf : fs[i]? = some f) (hd : ds[i]? = some d) : WtOk P f.type d := fun x hx => by
  refine h x ?_
  simp only [DataW.weights, ht]
  exact DataW.weights_mem_each (j := i) (by rw [List.getElem?_map, Array.getElem?_toList, hf]; rfl) hd x hx
theorem WtOk.elem {P : Program} {t e : TypeId} {ds sp : List (DataW H)} (ht : P.underlying t = some (.slice e)) (h : WtOk P t (.slice ds sp)) {d : DataW H} (hd : d ∈ ds) : WtOk P e d := fun x hx => by
  refine h x ?_
  simp only [DataW.weights, ht]
  exact List.mem_cons_of_mem _ (List.mem_append_left _ (weightsAll_memP hd hx))
theorem WtOk.len {P : Program} {t e : TypeId} {ds sp : List (DataW H)} (ht : P.underlying t = some (.slice e)) (h : WtOk P t (.slice ds sp)) (hb : 0 < P.bytesOf e) : ds.length ≤ 140737488355328 := by
  have := h _ (by simp only [DataW.weights, ht]; exact List.mem_cons_self)
  have h2 := Nat.le_mul_of_pos_right (ds.length + sp.length) hb
  unfold reachBytes at this
  omega
theorem trod_leavesW {P : Program} {CS : List Value} {lt : TypeId} {q : Nat} (hlt : isLeaf P lt = true) : ∀ (k : Nat) (t : TypeId) (o m fuel : Nat) (x : DataW H × List MemPlace),
    DataW.trod enc P W 0 (fun _ => true) true fuel t ((CS.drop o).take m) = some x → WtOk P t x.1 → (q, lt) ∈ leaves P k t o → ∃ u n y, CS[q]? = some u ∧ n ≤ fuel ∧ DataW.trod enc P W 0 (fun _ => true) true n lt [u] = some y ∧ WtOk P lt y.1 := by
  intro k
  induction k with
  | zero =>
    intro t o m fuel x hf hw hm
    simp [leaves] at hm
    obtain ⟨rfl, rfl⟩ := hm
    obtain ⟨u, hu, _⟩ := trod_leaf hlt hf
    rw [hu] at hf
    exact ⟨u, fuel, x, take_head hu, Nat.le_refl _, hf, hw⟩
  | succ k ih =>
    intro t o m fuel x hf hw hm
    unfold leaves at hm
    split at hm
    · rename_i fs hfs
      obtain ⟨f, hff, hm⟩ := List.mem_flatMap.1 hm
      obtain ⟨i, hi, rfl⟩ := List.mem_iff_getElem.1 hff
      obtain ⟨xs, n, rfl, hx, _, hxl, hg⟩ := DataW.trod_struct hfs hf
      have hi' : i < fs.size := by simpa using hi
      have h1 := hg i fs[i] (by simp [hi'])
      rw [List.getElem?_eq_getElem (by omega)] at h1
      rw [List.drop_take, List.drop_drop, List.take_take] at h1
      have hm' : (q, lt) ∈ leaves P k fs[i].type (o + fs[i].offset) := by simpa using hm
      rw [hx] at hw
      have hw1 : WtOk P fs[i].type (xs[i]'(by omega)).1 := hw.part (i := i) (f := fs[i]) (d := (xs[i]'(by omega)).1) hfs (by simp [hi']) (by rw [List.getElem?_map, List.getElem?_eq_getElem (by omega)]; rfl)
      obtain ⟨u, n', y, h2, h3, h4, h5⟩ := ih _ _ _ _ _ h1 hw1 hm'
      exact ⟨u, n', y, h2, by omega, h4, h5⟩
    · simp at hm
      obtain ⟨rfl, rfl⟩ := hm
      obtain ⟨u, hu, _⟩ := trod_leaf hlt hf
      rw [hu] at hf
      exact ⟨u, fuel, x, take_head hu, Nat.le_refl _, hf, hw⟩
/-- A list of things, no longer than memory; of no place, it has no room. -/
def RowN (W : World) (z : Nat) (Pr : List Value → Prop) (v : Value) : Prop := ∃ a n c, v = .slice a n c ∧ (a = none → c = 0) ∧ n ≤ 140737488355328 ∧ (0 < n → ∃ g o, a = some ⟨g, o, none⟩ ∧ g < W.heap.size ∧ ∀ i, i < n → ∃ cs : List Value, cs.length = z ∧ Pr cs ∧ W.rangeAt g (o + i * z) cs)
theorem RowN.b {z : Nat} {Pr Pr' : List Value → Prop} {v : Value} (h : RowN W z Pr v) (hp : ∀ cs, Pr cs → Pr' cs) : RowB W z Pr' v := by
  obtain ⟨a, n, c, rfl, _, hn, h⟩ := h
  refine ⟨a, n, c, rfl, hn, fun h0 => ?_⟩
  obtain ⟨g, o, e, hg, h⟩ := h h0
  exact ⟨g, o, e, hg, fun i hi => by obtain ⟨cs, h1, h2, h3⟩ := h i hi; exact ⟨cs, h1, hp _ h2, h3⟩⟩
/-- A list that came in, with its weights. -/
theorem open_rowN {v : Value} {d : DataW H} {p : List MemPlace} {fuel : Nat} (t e : TypeId) (z : Nat) (ht : Tryd.prog.underlying t = some (.slice e)) (hc : Tryd.prog.cellsOf e = z) (hz : 0 < z) (hby : 0 < Tryd.prog.bytesOf e) (Pr : List Value → Prop)
    (hop : ∀ (n : Nat) (cs : List Value) (x : DataW H × List MemPlace), n < fuel → cs.length = z → DataW.trod enc Tryd.prog W 0 (fun _ => true) true n e cs = some x → WtOk Tryd.prog e x.1 → Pr cs)
    (hf : DataW.trod enc Tryd.prog W 0 (fun _ => true) true fuel t [v] = some (d, p)) (hw : WtOk Tryd.prog t d) : RowN W z Pr v := by
  rcases DataW.trod_slice ht hf with ⟨hcs, hx⟩ | ⟨a, len, cap, elems, rest, n, rfl, hcs, hx, hb, hl, hm, hlen, hall, _, _⟩
  · simp at hcs
    exact ⟨none, 0, 0, hcs, fun _ => rfl, by omega, fun h => by omega⟩
  · simp at hcs
    subst hcs
    have hd : d = .slice (elems.map (·.1)) (rest.map (·.1)) := congrArg Prod.fst hx
    subst hd
    have hlB := hw.len ht hby
    rw [List.length_map] at hlB
    refine ⟨_, _, _, rfl, (fun e => by cases e), by omega, fun h0 => ?_⟩
    obtain ⟨b, off, spot⟩ := a
    have hcell : ∀ i, i < len → ∃ cs' : List Value, cs'.length = z ∧ Pr cs' ∧ ∀ j u, cs'[j]? = some u → W.cell? ((⟨b, off, spot⟩ : Addr).add (i * z + j)) = some u := by
      intro i hi
      have h1 := hall i hi
      rw [hc, List.getElem?_eq_getElem (by omega)] at h1
      obtain ⟨cs', h2, h3⟩ := Option.bind_eq_some_iff.1 h1
      obtain ⟨_, hlen', hcc⟩ := World.cells?_some h2
      refine ⟨cs', hlen', hop n cs' _ (by omega) hlen' h3 (hw.elem ht (List.mem_map.2 ⟨_, List.getElem_mem _, rfl⟩)), fun j u hj => ?_⟩
      have hjl := (List.getElem?_eq_some_iff.1 hj).1
      have := hcc j (by omega)
      rw [Deep.add_add] at this
      rw [this]; exact hj
    have hspot : spot = none ∧ b < W.heap.size := by
      obtain ⟨cs, hl', _, h⟩ := hcell 0 (by omega)
      have hq := h 0 (cs[0]'(by omega)) (List.getElem?_eq_getElem (by omega))
      have hs : spot = none := by simpa [Addr.add] using World.cell?_spot hq
      subst hs
      have := World.block_lt_of_cell? W _ hq
      rw [Addr.add_lit] at this
      exact ⟨rfl, this⟩
    obtain ⟨rfl, hbl⟩ := hspot
    refine ⟨b, off, rfl, hbl, fun i hi => ?_⟩
    obtain ⟨cs', h1, h2, h3⟩ := hcell i hi
    refine ⟨cs', h1, h2, fun j u hj => ?_⟩
    have := h3 j u hj
    rw [Addr.add_lit] at this
    rw [Nat.add_assoc]; exact this
/-- A list of one-cell things. -/
theorem open_ones {v : Value} {d : DataW H} {p : List MemPlace} {fuel : Nat} (t e : TypeId) (ht : Tryd.prog.underlying t = some (.slice e)) (hc : Tryd.prog.cellsOf e = 1) (hby : 0 < Tryd.prog.bytesOf e) (Pr : Value → Prop)
    (hop : ∀ (n : Nat) (u : Value) (x : DataW H × List MemPlace), DataW.trod enc Tryd.prog W 0 (fun _ => true) true n e [u] = some x → WtOk Tryd.prog e x.1 → Pr u)
    (hf : DataW.trod enc Tryd.prog W 0 (fun _ => true) true fuel t [v] = some (d, p)) (hw : WtOk Tryd.prog t d) : RowN W 1 (fun cs => ∃ u, cs = [u] ∧ Pr u) v :=
  open_rowN t e 1 ht hc (by omega) hby _ (fun n cs x _ hl h hw => by
    match cs, hl with
    | [u], _ => exact ⟨u, rfl, hop n u x h hw⟩) hf hw
end
end Go.Proofs.YtlmlbcnjohjnlaaDoor

/- What came in: a step's contents. -/
namespace Go.Proofs.YtlmlbcnjohjnlaaDoor
open Go.Shelf Go.ChangeShapes Go.WideShapes Go.ChangeAt Go.RowKit Go.Lib

section
variable {H : Type} {enc : TypeId × Value → H} {W : World}
theorem Tryd.cRge : Tryd.prog.cellsOf 91 = 2 := by kernel_rfl
theorem Tryd.cIntP : Tryd.prog.cellsOf 3 = 1 := by kernel_rfl
theorem Tryd.cStrP : Tryd.prog.cellsOf 9 = 1 := by kernel_rfl
theorem Tryd.cBooP : Tryd.prog.cellsOf 4 = 1 := by kernel_rfl
theorem Tryd.bVal : 0 < Tryd.prog.bytesOf 64 := of_decide_eq_true (by kernel_rfl)
theorem Tryd.bDat : 0 < Tryd.prog.bytesOf 66 := of_decide_eq_true (by kernel_rfl)
theorem Tryd.bRge : 0 < Tryd.prog.bytesOf 91 := of_decide_eq_true (by kernel_rfl)
theorem Tryd.bInt : 0 < Tryd.prog.bytesOf 3 := of_decide_eq_true (by kernel_rfl)
theorem Tryd.bStr : 0 < Tryd.prog.bytesOf 9 := of_decide_eq_true (by kernel_rfl)
theorem Tryd.bBoo : 0 < Tryd.prog.bytesOf 4 := of_decide_eq_true (by kernel_rfl)
theorem Tryd.bStrs : 0 < Tryd.prog.bytesOf 27 := of_decide_eq_true (by kernel_rfl)
theorem Tryd.bStp : 0 < Tryd.prog.bytesOf 49 := of_decide_eq_true (by kernel_rfl)
theorem Tryd.lvRge : leaves Tryd.prog 3 91 0 = [(0, 3), (1, 3)] := by kernel_rfl
theorem Tryd.lv0 : (leaves Tryd.prog 5 49 0)[0]? = some (0, 3) := by kernel_rfl
theorem Tryd.lv2 : (leaves Tryd.prog 5 49 0)[2]? = some (2, 9) := by kernel_rfl
theorem Tryd.lv3 : (leaves Tryd.prog 5 49 0)[3]? = some (3, 3) := by kernel_rfl
theorem Tryd.lv4 : (leaves Tryd.prog 5 49 0)[4]? = some (4, 4) := by kernel_rfl
theorem Tryd.lv14 : (leaves Tryd.prog 5 49 0)[14]? = some (14, 4) := by kernel_rfl
theorem Tryd.lv52 : (leaves Tryd.prog 5 49 0)[52]? = some (52, 9) := by kernel_rfl
theorem Tryd.lv53 : (leaves Tryd.prog 5 49 0)[53]? = some (53, 3) := by kernel_rfl
theorem Tryd.lv54 : (leaves Tryd.prog 5 49 0)[54]? = some (54, 3) := by kernel_rfl
theorem Tryd.lv56 : (leaves Tryd.prog 5 49 0)[56]? = some (56, 9) := by kernel_rfl
theorem Tryd.lv58 : (leaves Tryd.prog 5 49 0)[58]? = some (58, 9) := by kernel_rfl
theorem Tryd.lv65 : (leaves Tryd.prog 5 49 0)[65]? = some (65, 4) := by kernel_rfl
theorem Tryd.lv66 : (leaves Tryd.prog 5 49 0)[66]? = some (66, 3) := by kernel_rfl
theorem Tryd.lv67 : (leaves Tryd.prog 5 49 0)[67]? = some (67, 4) := by kernel_rfl
theorem Tryd.lv68 : (leaves Tryd.prog 5 49 0)[68]? = some (68, 3) := by kernel_rfl
theorem Tryd.lv69 : (leaves Tryd.prog 5 49 0)[69]? = some (69, 3) := by kernel_rfl
theorem Tryd.lv70 : (leaves Tryd.prog 5 49 0)[70]? = some (70, 3) := by kernel_rfl
/-- The cells of a value, of a datum, of a range. -/
def ValC (cs : List Value) : Prop := ∃ k m t ka kn kc, cs = [.int .i64 k, .int .i64 m, .string t, .slice ka kn kc] ∧ t.size ≤ maxLen
def DatF (W : World) (cs : List Value) : Prop := ∃ s k m t kv, cs = [.string s, .int .i64 k, .int .i64 m, .string t, kv] ∧ LiesV W kv ∧ RowN W 4 ValC kv
def RgC (cs : List Value) : Prop := ∃ a b, cs = [.int .i64 a, .int .i64 b]
def IntC (cs : List Value) : Prop := ∃ u, cs = [u] ∧ ∃ n, u = .int .i64 n
def StrC (cs : List Value) : Prop := ∃ u, cs = [u] ∧ ∃ t, u = .string t
def BooC (cs : List Value) : Prop := ∃ u, cs = [u] ∧ ∃ b, u = .bool b
def TxtC (W : World) (cs : List Value) : Prop := ∃ u, cs = [u] ∧ RowN W 1 StrC u
theorem open_vals {v : Value} {x : DataW H × List MemPlace} {fuel : Nat} (hf : DataW.trod enc Tryd.prog W 0 (fun _ => true) true fuel 39 [v] = some x) (hw : WtOk Tryd.prog 39 x.1) : RowN W 4 ValC v :=
  open_rowN (d := x.1) (p := x.2) 39 64 4 Tryd.underlying39 Tryd.cVal (by omega) Tryd.bVal ValC (fun n cs x hn hl h hw => by
    have hcs : (cs.drop 0).take 4 = cs := by simp [← hl]
    rw [← hcs] at h
    have g := fun (lt : TypeId) (q : Nat) (hl : isLeaf Tryd.prog lt = true) (hm : (q, lt) ∈ leaves Tryd.prog 3 64 0) => trod_leavesW hl 3 _ 0 4 n x h hw hm
    rw [Tryd.lvVal] at g
    obtain ⟨u0, n0, y0, e0, _, t0, _⟩ := g 3 0 Tryd.lfI (by simp)
    obtain ⟨u1, n1, y1, e1, _, t1, _⟩ := g 3 1 Tryd.lfI (by simp)
    obtain ⟨u2, n2, y2, e2, _, t2, _⟩ := g 9 2 Tryd.lfS (by simp)
    obtain ⟨u3, n3, y3, e3, hn3, t3, _⟩ := g 39 3 Tryd.lfV (by simp)
    obtain ⟨k0, f0, _, _⟩ := DataW.trod_int Tryd.underlying3 t0
    obtain ⟨k1, f1, _, _⟩ := DataW.trod_int Tryd.underlying3 t1
    obtain ⟨s2, f2, _, hs2⟩ := DataW.trod_string Tryd.underlying9 t2
    obtain ⟨ka, kn, kc, rfl⟩ := sl_shape Tryd.underlying39 t3
    simp at f0 f1 f2
    subst f0 f1 f2
    refine ⟨k0, k1, s2, ka, kn, kc, ?_, hs2⟩
    match cs, hl with
    | [c0, c1, c2, c3], _ =>
      simp at e0 e1 e2 e3
      rw [e0, e1, e2, e3]) hf hw
theorem open_data {v : Value} {x : DataW H × List MemPlace} {fuel : Nat} (hf : DataW.trod enc Tryd.prog W 0 (fun _ => true) true fuel 40 [v] = some x) (hw : WtOk Tryd.prog 40 x.1) : RowN W 5 (DatF W) v :=
  open_rowN (d := x.1) (p := x.2) 40 66 5 Tryd.underlying40 Tryd.cDat (by omega) Tryd.bDat (DatF W) (fun n ds x hn hl h hw => by
    have hds : (ds.drop 0).take 5 = ds := by simp [← hl]
    rw [← hds] at h
    have g := fun (lt : TypeId) (q : Nat) (hl : isLeaf Tryd.prog lt = true) (hm : (q, lt) ∈ leaves Tryd.prog 3 66 0) => trod_leavesW hl 3 _ 0 5 n x h hw hm
    rw [Tryd.lvDat] at g
    obtain ⟨u0, n0, y0, e0, _, t0, _⟩ := g 9 0 Tryd.lfS (by simp)
    obtain ⟨u1, n1, y1, e1, _, t1, _⟩ := g 3 1 Tryd.lfI (by simp)
    obtain ⟨u2, n2, y2, e2, _, t2, _⟩ := g 3 2 Tryd.lfI (by simp)
    obtain ⟨u3, n3, y3, e3, _, t3, _⟩ := g 9 3 Tryd.lfS (by simp)
    obtain ⟨u4, n4, y4, e4, _, t4, w4⟩ := g 39 4 Tryd.lfV (by simp)
    obtain ⟨s0, f0, _, _⟩ := DataW.trod_string Tryd.underlying9 t0
    obtain ⟨k1, f1, _, _⟩ := DataW.trod_int Tryd.underlying3 t1
    obtain ⟨k2, f2, _, _⟩ := DataW.trod_int Tryd.underlying3 t2
    obtain ⟨s3, f3, _, _⟩ := DataW.trod_string Tryd.underlying9 t3
    simp at f0 f1 f2 f3
    subst f0 f1 f2 f3
    refine ⟨s0, k1, k2, s3, u4, ?_, open_values n4 (d := y4.1) (p := y4.2) t4, open_vals t4 w4⟩
    match ds, hl with
    | [c0, c1, c2, c3, c4], _ =>
      simp at e0 e1 e2 e3 e4
      rw [e0, e1, e2, e3, e4]) hf hw
theorem open_rgs {v : Value} {x : DataW H × List MemPlace} {fuel : Nat} (hf : DataW.trod enc Tryd.prog W 0 (fun _ => true) true fuel 25 [v] = some x) (hw : WtOk Tryd.prog 25 x.1) : RowN W 2 RgC v :=
  open_rowN (d := x.1) (p := x.2) 25 91 2 Tryd.underlying25 Tryd.cRge (by omega) Tryd.bRge RgC (fun n ds x hn hl h hw => by
    have hds : (ds.drop 0).take 2 = ds := by simp [← hl]
    rw [← hds] at h
    have g := fun (lt : TypeId) (q : Nat) (hl : isLeaf Tryd.prog lt = true) (hm : (q, lt) ∈ leaves Tryd.prog 3 91 0) => trod_leavesW hl 3 _ 0 2 n x h hw hm
    rw [Tryd.lvRge] at g
    obtain ⟨u0, n0, y0, e0, _, t0, _⟩ := g 3 0 Tryd.lfI (by simp)
    obtain ⟨u1, n1, y1, e1, _, t1, _⟩ := g 3 1 Tryd.lfI (by simp)
    obtain ⟨k0, f0, _, _⟩ := DataW.trod_int Tryd.underlying3 t0
    obtain ⟨k1, f1, _, _⟩ := DataW.trod_int Tryd.underlying3 t1
    simp at f0 f1
    subst f0 f1
    refine ⟨k0, k1, ?_⟩
    match ds, hl with
    | [c0, c1], _ =>
      simp at e0 e1
      rw [e0, e1]) hf hw
theorem open_ints {v : Value} {x : DataW H × List MemPlace} {fuel : Nat} (hf : DataW.trod enc Tryd.prog W 0 (fun _ => true) true fuel 36 [v] = some x) (hw : WtOk Tryd.prog 36 x.1) : RowN W 1 IntC v :=
  open_ones (d := x.1) (p := x.2) 36 3 Tryd.underlying36 Tryd.cIntP Tryd.bInt _ (fun n u x h _ => by
    obtain ⟨k, f, _, _⟩ := DataW.trod_int Tryd.underlying3 h
    exact ⟨k, by simpa using f⟩) hf hw
theorem open_bools {v : Value} {x : DataW H × List MemPlace} {fuel : Nat} (hf : DataW.trod enc Tryd.prog W 0 (fun _ => true) true fuel 45 [v] = some x) (hw : WtOk Tryd.prog 45 x.1) : RowN W 1 BooC v :=
  open_ones (d := x.1) (p := x.2) 45 4 Tryd.underlying45 Tryd.cBooP Tryd.bBoo _ (fun n u x h _ => by
    obtain ⟨k, f, _⟩ := DataW.trod_bool Tryd.underlying4 h
    exact ⟨k, by simpa using f⟩) hf hw
theorem open_strsN {v : Value} {x : DataW H × List MemPlace} {fuel : Nat} (hf : DataW.trod enc Tryd.prog W 0 (fun _ => true) true fuel 27 [v] = some x) (hw : WtOk Tryd.prog 27 x.1) : RowN W 1 StrC v :=
  open_ones (d := x.1) (p := x.2) 27 9 Tryd.underlying27 Tryd.cStrP Tryd.bStr _ (fun n u x h _ => by
    obtain ⟨k, f, _, _⟩ := DataW.trod_string Tryd.underlying9 h
    exact ⟨k, by simpa using f⟩) hf hw
theorem open_txts {v : Value} {x : DataW H × List MemPlace} {fuel : Nat} (hf : DataW.trod enc Tryd.prog W 0 (fun _ => true) true fuel 44 [v] = some x) (hw : WtOk Tryd.prog 44 x.1) : RowN W 1 (TxtC W) v :=
  open_ones (d := x.1) (p := x.2) 44 27 Tryd.underlying44 Tryd.cStrs Tryd.bStrs _ (fun _ _ _ h hw => open_strsN h hw) hf hw
/-- A step's cells, with what lies behind them. -/
structure StO (W : World) (cs : List Value) : Prop where
  b : StB W cs
  c0 : ∃ k, cs[0]? = some (.int .i64 k)
  c2 : ∃ k, cs[2]? = some (.string k)
  c3 : ∃ k, cs[3]? = some (.int .i64 k)
  c4 : ∃ k, cs[4]? = some (.bool k)
  c14 : ∃ k, cs[14]? = some (.bool k)
  c11 : ∃ v, cs[11]? = some v ∧ RowN W 2 RgC v
  ans : ∃ a : AN, (cs.drop 51).take 16 = (anC a).toList ∧ RowN W 4 ValC a.args ∧ RowN W 5 (DatF W) a.data
  was : ∃ b v n h us fl kn, (cs.drop 67).take 7 = [.bool b, .int .i64 v, .int .i64 n, .int .i64 h, us, fl, kn] ∧ h ≤ 9223372036854775807 ∧ RowN W 1 IntC us ∧ RowN W 1 (TxtC W) fl ∧ RowN W 1 BooC kn
theorem RowN.shape {z : Nat} {Pr : List Value → Prop} {v : Value} (h : RowN W z Pr v) : ∃ a n c, v = .slice a n c ∧ n ≤ 140737488355328 := by
  obtain ⟨a, n, c, e, _, hn, _⟩ := h
  exact ⟨a, n, c, e, hn⟩
set_option maxRecDepth 20000 in
theorem open_stepN {n : Nat} {cs : List Value} {x : DataW H × List MemPlace} (hl : cs.length = 74) (h : DataW.trod enc Tryd.prog W 0 (fun _ => true) true n 49 cs = some x) (hw : WtOk Tryd.prog 49 x.1) : StO W cs := by
  have hst := open_step19 hl h
  have hcs : (cs.drop 0).take 74 = cs := by simp [← hl]
  rw [← hcs] at h
  have lf : ∀ j lt, (leaves Tryd.prog 5 49 0)[j]? = some (j, lt) → isLeaf Tryd.prog lt = true := fun j lt e => List.all_eq_true.1 Tryd.lfSt (j, lt) (List.mem_of_getElem? e)
  have g : ∀ j lt, (leaves Tryd.prog 5 49 0)[j]? = some (j, lt) → ∃ u m y, cs[j]? = some u ∧ m ≤ n ∧ DataW.trod enc Tryd.prog W 0 (fun _ => true) true m lt [u] = some y ∧ WtOk Tryd.prog lt y.1 := fun j lt e => trod_leavesW (lf j lt e) 5 _ 0 74 n x h hw (List.mem_of_getElem? e)
  obtain ⟨u0, m0, y0, e0, _, t0, _⟩ := g 0 _ Tryd.lv0
  obtain ⟨k0, f0, _, r0⟩ := DataW.trod_int Tryd.underlying3 t0
  simp at f0
  subst f0
  obtain ⟨u2, m2, y2, e2, _, t2, _⟩ := g 2 _ Tryd.lv2
  obtain ⟨k2, f2, _, r2⟩ := DataW.trod_string Tryd.underlying9 t2
  simp at f2
  subst f2
  obtain ⟨u3, m3, y3, e3, _, t3, _⟩ := g 3 _ Tryd.lv3
  obtain ⟨k3, f3, _, r3⟩ := DataW.trod_int Tryd.underlying3 t3
  simp at f3
  subst f3
  obtain ⟨u4, m4, y4, e4, _, t4, _⟩ := g 4 _ Tryd.lv4
  obtain ⟨k4, f4, _⟩ := DataW.trod_bool Tryd.underlying4 t4
  simp at f4
  subst f4
  obtain ⟨u14, m14, y14, e14, _, t14, _⟩ := g 14 _ Tryd.lv14
  obtain ⟨k14, f14, _⟩ := DataW.trod_bool Tryd.underlying4 t14
  simp at f14
  subst f14
  obtain ⟨u52, m52, y52, e52, _, t52, _⟩ := g 52 _ Tryd.lv52
  obtain ⟨k52, f52, _, r52⟩ := DataW.trod_string Tryd.underlying9 t52
  simp at f52
  subst f52
  obtain ⟨u53, m53, y53, e53, _, t53, _⟩ := g 53 _ Tryd.lv53
  obtain ⟨k53, f53, _, r53⟩ := DataW.trod_int Tryd.underlying3 t53
  simp at f53
  subst f53
  obtain ⟨u54, m54, y54, e54, _, t54, _⟩ := g 54 _ Tryd.lv54
  obtain ⟨k54, f54, _, r54⟩ := DataW.trod_int Tryd.underlying3 t54
  simp at f54
  subst f54
  obtain ⟨u56, m56, y56, e56, _, t56, _⟩ := g 56 _ Tryd.lv56
  obtain ⟨k56, f56, _, r56⟩ := DataW.trod_string Tryd.underlying9 t56
  simp at f56
  subst f56
  obtain ⟨u58, m58, y58, e58, _, t58, _⟩ := g 58 _ Tryd.lv58
  obtain ⟨k58, f58, _, r58⟩ := DataW.trod_string Tryd.underlying9 t58
  simp at f58
  subst f58
  obtain ⟨u65, m65, y65, e65, _, t65, _⟩ := g 65 _ Tryd.lv65
  obtain ⟨k65, f65, _⟩ := DataW.trod_bool Tryd.underlying4 t65
  simp at f65
  subst f65
  obtain ⟨u66, m66, y66, e66, _, t66, _⟩ := g 66 _ Tryd.lv66
  obtain ⟨k66, f66, _, r66⟩ := DataW.trod_int Tryd.underlying3 t66
  simp at f66
  subst f66
  obtain ⟨u67, m67, y67, e67, _, t67, _⟩ := g 67 _ Tryd.lv67
  obtain ⟨k67, f67, _⟩ := DataW.trod_bool Tryd.underlying4 t67
  simp at f67
  subst f67
  obtain ⟨u68, m68, y68, e68, _, t68, _⟩ := g 68 _ Tryd.lv68
  obtain ⟨k68, f68, _, r68⟩ := DataW.trod_int Tryd.underlying3 t68
  simp at f68
  subst f68
  obtain ⟨u69, m69, y69, e69, _, t69, _⟩ := g 69 _ Tryd.lv69
  obtain ⟨k69, f69, _, r69⟩ := DataW.trod_int Tryd.underlying3 t69
  simp at f69
  subst f69
  obtain ⟨u70, m70, y70, e70, _, t70, _⟩ := g 70 _ Tryd.lv70
  obtain ⟨k70, f70, _, r70⟩ := DataW.trod_int Tryd.underlying3 t70
  simp at f70
  subst f70
  obtain ⟨u51, m51, y51, e51, _, t51, _⟩ := g 51 _ Tryd.lv51
  obtain ⟨k51, f51, _, r51⟩ := DataW.trod_int Tryd.underlying3 t51
  simp at f51
  subst f51
  obtain ⟨u57, m57, y57, e57, _, t57, _⟩ := g 57 _ Tryd.lv57
  obtain ⟨k57, f57, _, r57⟩ := DataW.trod_int Tryd.underlying3 t57
  simp at f57
  subst f57
  obtain ⟨u11, m11, y11, e11, _, t11, w11⟩ := g 11 _ Tryd.lv11
  obtain ⟨u55, m55, y55, e55, _, t55, w55⟩ := g 55 _ Tryd.lv55
  obtain ⟨u61, m61, y61, e61, _, t61, w61⟩ := g 61 _ Tryd.lv61
  obtain ⟨u71, m71, y71, e71, _, t71, w71⟩ := g 71 _ Tryd.lv71
  obtain ⟨u72, m72, y72, e72, _, t72, w72⟩ := g 72 _ Tryd.lv72
  obtain ⟨u73, m73, y73, e73, _, t73, w73⟩ := g 73 _ Tryd.lv73
  have at' : ∀ j, j < 74 → ∃ u, cs[j]? = some u := fun j hj => ⟨_, List.getElem?_eq_getElem (by omega)⟩
  obtain ⟨u59, e59⟩ := at' 59 (by omega)
  obtain ⟨u60, e60⟩ := at' 60 (by omega)
  obtain ⟨u62, e62⟩ := at' 62 (by omega)
  obtain ⟨u63, e63⟩ := at' 63 (by omega)
  obtain ⟨u64, e64⟩ := at' 64 (by omega)
  have s11 := open_rgs t11 w11
  have s55 := open_vals t55 w55
  have s61 := open_data t61 w61
  have s71 := open_ints t71 w71
  have s72 := open_txts t72 w72
  have s73 := open_bools t73 w73
  have sh : ∀ {z j : Nat} {Pr : List Value → Prop} {u : Value}, cs[j]? = some u → RowN W z Pr u → ∃ a n c, cs[j]? = some (.slice a n c) ∧ n ≤ 140737488355328 := fun {z j Pr u} h1 h2 => by
    obtain ⟨a, n, c, rfl, hn⟩ := h2.shape
    exact ⟨a, n, c, h1, hn⟩
  refine ⟨⟨hl, hst.one, sh e11 s11, sh e55 s55, ⟨_, e61, s61.b (fun cs h => by obtain ⟨s, k, m, t, kv, e, h1, _⟩ := h; exact ⟨s, k, m, t, kv, e, h1⟩)⟩, sh e71 s71, ⟨_, e72, s72.b (fun cs h => by obtain ⟨u, e, h1⟩ := h; obtain ⟨a, n, c, rfl, hn⟩ := h1.shape; exact ⟨a, n, c, e, hn⟩)⟩, sh e73 s73, hst.kind, hst.num⟩, ⟨_, e0⟩, ⟨_, e2⟩, ⟨_, e3⟩, ⟨_, e4⟩, ⟨_, e14⟩, ⟨_, e11, s11⟩, ?_, ?_⟩
  · refine ⟨⟨k51, k52, k53, k54, u55, k56, k57, k58, u59, u60, u61, u62, u63, u64, k65, k66⟩, ?_, s55, s61⟩
    apply List.ext_getElem?
    intro i
    rw [List.getElem?_take, List.getElem?_drop]
    match i with
    | 0 => exact e51
    | 1 => exact e52
    | 2 => exact e53
    | 3 => exact e54
    | 4 => exact e55
    | 5 => exact e56
    | 6 => exact e57
    | 7 => exact e58
    | 8 => exact e59
    | 9 => exact e60
    | 10 => exact e61
    | 11 => exact e62
    | 12 => exact e63
    | 13 => exact e64
    | 14 => exact e65
    | 15 => exact e66
    | i + 16 => rw [if_neg (by omega)]; simp [anC]
  · refine ⟨k67, k68, k69, k70, u71, u72, u73, ?_, ?_, s71, s72, s73⟩
    · apply List.ext_getElem?
      intro i
      rw [List.getElem?_take, List.getElem?_drop]
      match i with
      | 0 => exact e67
      | 1 => exact e68
      | 2 => exact e69
      | 3 => exact e70
      | 4 => exact e71
      | 5 => exact e72
      | 6 => exact e73
      | i + 7 => rw [if_neg (by omega)]; simp
    · exact (wf_i64 r70).2
set_option maxRecDepth 100000 in
theorem open_scriptN {v : Value} {d : DataW H} {p : List MemPlace} {base : Nat}
    (hok : Value.okWide Tryd.prog W .any base 22 v) (h0 : DataW.Trod enc Tryd.prog W 0 (fun _ => true) true 22 v d p) (hw : WtOk Tryd.prog 22 d) : RowN W 74 (StO W) v := by
  obtain ⟨ao0, len0, cap0, rfl⟩ := okWide_slice Tryd.underlying22 hok
  obtain ⟨fuel, hf0⟩ := h0
  have hf : DataW.trod enc Tryd.prog W 0 (fun _ => true) true fuel 22 [.slice ao0 len0 cap0] = some (d, p) := by simpa [Value.cells] using hf0
  exact open_rowN 22 49 74 Tryd.underlying22 Tryd.cStp (by omega) Tryd.bStp (StO W) (fun n cs x _ hl h hw => open_stepN hl h hw) hf hw
end
end Go.Proofs.YtlmlbcnjohjnlaaDoor

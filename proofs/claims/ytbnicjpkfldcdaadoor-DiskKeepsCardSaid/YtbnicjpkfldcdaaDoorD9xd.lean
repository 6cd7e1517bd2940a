/- A script that came in. -/
import Derived.Test.YtbnicjpkfldcdaaDoorD9zd
import Derived.Test.YtbnicjpkfldcdaaDoorD9zf
import Derived.Deep.Slices
import Derived.Test.YtbnicjpkfldcdaaDoorD9xi
namespace Go.Proofs.YtbnicjpkfldcdaaDoor
open Go.Shelf Go.ChangeShapes Go.WideShapes Go.ChangeAt Go.RowKit Go.Lib

theorem Tryd.cellsAct : Tryd.prog.cellsOf 35 = 7 := by kernel_rfl
theorem Tryd.bytesAct : Tryd.prog.bytesOf 35 = 96 := by kernel_rfl
theorem Tryd.cellsInt : Tryd.prog.cellsOf 3 = 1 := by kernel_rfl
theorem Tryd.cellsStops : Tryd.prog.cellsOf 33 = 1 := by kernel_rfl
theorem add_none (b off i : Nat) : (⟨b, off, none⟩ : Addr).add i = ⟨b, off + i, none⟩ := by rw [Addr.add_lit]
theorem size_of_weight {H : Type} {s : ByteArray} {d : DataW H} (hd : d = .lit (.string s.data.toList)) (hw : ∀ x ∈ d.weights Tryd.prog 9, x ≤ reachBytes) : s.size ≤ 140737488355328 := by
  have := hw s.data.toList.length (by rw [hd]; simp [DataW.weights])
  unfold reachBytes at this
  have e : s.data.toList.length = s.size := rfl
  omega
set_option maxRecDepth 100000 in
set_option maxHeartbeats 1000000 in
theorem open_act_cells {H : Type} {enc : TypeId × Value → H} {W : World} {b o : Nat} {cs : List Value} {d : DataW H} {p : List MemPlace} {fuel : Nat}
    (hc : ∀ j, j < 7 → ∃ v, cs[j]? = some v ∧ W.cell? ⟨b, o + j, none⟩ = some v) (hlen : cs.length = 7)
    (hf : DataW.trod enc Tryd.prog W 0 (fun _ => true) true fuel 35 cs = some (d, p)) (hw : ∀ x ∈ d.weights Tryd.prog 35, x ≤ reachBytes) : ∃ q, ActAt W b o q := by
  obtain ⟨xs, k, hk, hxy, _, hxl, hg⟩ := DataW.trod_struct Tryd.underlying35 hf
  match xs, hxl, cs, hlen with
  | [y0, y1, y2, y3, y4, y5, y6], _, [c0, c1, c2, c3, c4, c5, c6], _ =>
    have g0 := hg 0 _ rfl
    have g1 := hg 1 _ rfl
    have g2 := hg 2 _ rfl
    have g3 := hg 3 _ rfl
    have g4 := hg 4 _ rfl
    have g5 := hg 5 _ rfl
    have g6 := hg 6 _ rfl
    simp [st_cells, Tryd.cellsStops, Tryd.cellsInt] at g0 g1 g2 g3 g4 g5 g6
    have hd0 : d = .agg [y0.1, y1.1, y2.1, y3.1, y4.1, y5.1, y6.1] := congrArg Prod.fst hxy
    subst hd0
    simp only [DataW.weights, Tryd.underlying35] at hw
    obtain ⟨n0, e0, _, _⟩ := DataW.trod_int Tryd.underlying3 g0
    obtain ⟨n1, e1, _, _⟩ := DataW.trod_int Tryd.underlying3 g1
    obtain ⟨s2, e2, d2, _⟩ := DataW.trod_string Tryd.underlying9 g2
    obtain ⟨s3, e3, d3, _⟩ := DataW.trod_string Tryd.underlying9 g3
    obtain ⟨s4, e4, _, _⟩ := DataW.trod_string Tryd.underlying9 g4
    obtain ⟨n5, e5, _, _⟩ := DataW.trod_int Tryd.underlying3 g5
    have hs : ∃ sa sn sc, c6 = .slice sa sn sc := by
      rcases DataW.trod_slice Tryd.underlying33 g6 with ⟨hcs, _⟩ | ⟨a, len, cap, _, _, _, _, hcs, _⟩
      · simp at hcs
        exact ⟨_, _, _, hcs⟩
      · simp at hcs
        exact ⟨_, _, _, hcs⟩
    obtain ⟨sa, sn, sc, rfl⟩ := hs
    have z2 := size_of_weight (H := H) (s := s2) (d := y2.1) (by rw [d2]) (fun x hx => hw x (DataW.weights_mem_each (j := 2) rfl rfl _ hx))
    have z3 := size_of_weight (H := H) (s := s3) (d := y3.1) (by rw [d3]) (fun x hx => hw x (DataW.weights_mem_each (j := 3) rfl rfl _ hx))
    simp at e0 e1 e2 e3 e4 e5
    subst e0
    subst e1
    subst e2
    subst e3
    subst e4
    subst e5
    have k0 := hc 0 (by omega)
    have k1 := hc 1 (by omega)
    have k2 := hc 2 (by omega)
    have k3 := hc 3 (by omega)
    have k4 := hc 4 (by omega)
    have k5 := hc 5 (by omega)
    have k6 := hc 6 (by omega)
    simp at k0 k1 k2 k3 k4 k5 k6
    exact ⟨⟨n0, n1, s2, s3, s4, n5, sa, sn, sc⟩, k0, k1, k2, k3, k4, k5, k6, z2, z3⟩
theorem weightsAll_mem {H : Type} {P : Program} {t : TypeId} : ∀ {l : List (DataW H)} {d : DataW H} {x : Nat}, d ∈ l → x ∈ d.weights P t → x ∈ DataW.weightsAll P t l
  | e :: l, d, x, hd, hx => by
    simp only [DataW.weightsAll, List.mem_append]
    rcases List.mem_cons.1 hd with rfl | hd
    · exact .inl hx
    · exact .inr (weightsAll_mem hd hx)
set_option maxRecDepth 100000 in
theorem open_acts_arg {H : Type} {enc : TypeId × Value → H} {W : World} {v : Value} {d : DataW H} {p : List MemPlace} {base : Nat} {ts : List TypeId} {ds : List (DataW H)} {j : Nat}
    (hok : Value.okWide Tryd.prog W .any base 22 v) (h0 : DataW.Trod enc Tryd.prog W 0 (fun _ => true) true 22 v d p)
    (hsz : (DataW.weightsEach Tryd.prog ts ds).all (· ≤ reachBytes) = true) (ht : ts[j]? = some 22) (hd : ds[j]? = some d) :
    ∃ _ : Unit, (∃ a len c, v = .slice a len c ∧ ActsAt W a len) ∧ True ∧ True := by
  refine ⟨(), ?_, trivial, trivial⟩
  obtain ⟨ao, len, cap, rfl⟩ := okWide_slice Tryd.underlying22 hok
  obtain ⟨fuel, hf0⟩ := h0
  have hf : DataW.trod enc Tryd.prog W 0 (fun _ => true) true fuel 22 [.slice ao len cap] = some (d, p) := by simpa [Value.cells] using hf0
  have hw : ∀ x ∈ d.weights Tryd.prog 22, x ≤ reachBytes := fun x hx => by
    have := List.all_eq_true.1 hsz _ (DataW.weights_mem_each ht hd _ hx)
    simpa using this
  refine ⟨ao, len, cap, rfl, ?_⟩
  rcases Deep.open_slice Tryd.underlying22 hf with ⟨hcs, hx⟩ | ⟨a, len', cap', m, n, D, Pl, hcs, _, hl, hm, hmm, hx, hall⟩
  · simp at hcs
    obtain ⟨rfl, rfl, rfl⟩ := hcs
    exact ⟨by omega, fun h => by omega⟩
  · simp at hcs
    obtain ⟨rfl, rfl, rfl⟩ := hcs
    simp only [if_true] at hmm
    subst hmm
    have hd0 : d = .slice ((List.range len).map D) ((List.range (m - len)).map fun j => D (len + j)) := congrArg Prod.fst hx
    subst hd0
    have hw1 : m * 96 ≤ reachBytes := by
      have := hw (m * 96) (by simp only [DataW.weights, Tryd.underlying22, Tryd.bytesAct, List.length_map, List.length_range]; rw [show len + (m - len) = m by omega]; exact List.mem_cons_self)
      exact this
    unfold reachBytes at hw1
    refine ⟨by omega, fun hpos => ?_⟩
    obtain ⟨b, off, spot⟩ := a
    have hcell : ∀ i, i < len → ∃ cs', cs'.length = 7 ∧ (∀ j, j < 7 → ∃ v, cs'[j]? = some v ∧ W.cell? ((⟨b, off, spot⟩ : Addr).add (i * 7 + j)) = some v) ∧ DataW.trod enc Tryd.prog W 0 (fun _ => true) true n 35 cs' = some (D i, Pl i) := by
      intro i hi
      obtain ⟨cs', h1, h2⟩ := hall i (by omega)
      rw [Tryd.cellsAct] at h1
      obtain ⟨_, hlen, hcc⟩ := World.cells?_some h1
      refine ⟨cs', hlen, fun j hj => ?_, h2⟩
      have := hcc j (by omega)
      rw [Deep.add_add] at this
      exact ⟨cs'[j]'(by omega), List.getElem?_eq_getElem _, by rw [this]; exact List.getElem?_eq_getElem _⟩
    have hspot : spot = none := by
      obtain ⟨_, _, h, _⟩ := hcell 0 (by omega)
      obtain ⟨v, _, h⟩ := h 0 (by omega)
      simpa [Addr.add] using World.cell?_spot h
    subst hspot
    have key : ∀ i, i < len → ∃ q, ActAt W b (off + i * 7) q := by
      intro i hi
      obtain ⟨cs', h1, h2, h3⟩ := hcell i hi
      refine open_act_cells (fun j hj => ?_) h1 h3 (fun x hx => hw x ?_)
      · obtain ⟨v, e1, e2⟩ := h2 j hj
        refine ⟨v, e1, ?_⟩
        rw [add_none] at e2
        rw [← e2, Nat.add_assoc]
      · simp only [DataW.weights, Tryd.underlying22]
        exact List.mem_cons_of_mem _ (List.mem_append_left _ (weightsAll_mem (d := D i) (List.mem_map.2 ⟨i, List.mem_range.2 hi, rfl⟩) hx))
    obtain ⟨q, hq⟩ := key 0 (by omega)
    exact ⟨b, off, rfl, block_lt_of_cell hq.c0, key⟩
end Go.Proofs.YtbnicjpkfldcdaaDoor

/- A script that came in, with its stops. -/
namespace Go.Proofs.YtbnicjpkfldcdaaDoor
open Go.Shelf Go.ChangeShapes Go.WideShapes Go.ChangeAt Go.RowKit Go.Lib

theorem Tryd.cellsStop : Tryd.prog.cellsOf 56 = 3 := by kernel_rfl
theorem Tryd.bytesStop : Tryd.prog.bytesOf 56 = 24 := by kernel_rfl
theorem stopCells_at (l : List (Int × Int × Int)) (j : Nat) (u : Value) (h : (stopCells l)[j]? = some u) : ∃ i s, l[i]? = some s ∧ ((j = i * 3 ∧ u = .int .i64 s.1) ∨ (j = i * 3 + 1 ∧ u = .int .i64 s.2.1) ∨ (j = i * 3 + 2 ∧ u = .int .i64 s.2.2)) := by
  have hj := (List.getElem?_eq_some_iff.1 h).1
  rw [stopCells_length] at hj
  have hi : j / 3 < l.length := by omega
  obtain ⟨h0, h1, h2⟩ := stops_at l (j / 3) l[j / 3] (List.getElem?_eq_getElem hi)
  refine ⟨j / 3, l[j / 3], List.getElem?_eq_getElem hi, ?_⟩
  have hr : j % 3 = 0 ∨ j % 3 = 1 ∨ j % 3 = 2 := by omega
  rcases hr with hr | hr | hr
  · rw [show 3 * (j / 3) = j by omega, h] at h0
    exact .inl ⟨by omega, by simpa using h0⟩
  · rw [show 3 * (j / 3) + 1 = j by omega, h] at h1
    exact .inr (.inl ⟨by omega, by simpa using h1⟩)
  · rw [show 3 * (j / 3) + 2 = j by omega, h] at h2
    exact .inr (.inr ⟨by omega, by simpa using h2⟩)
theorem wfI {n : Int} (h : (Lit.int .i64 n).wf = true) : inI n := by
  unfold inI
  simp [Lit.wf, IntKind.min, IntKind.max, IntKind.signed, IntKind.bits] at h
  omega
set_option maxRecDepth 100000 in
theorem open_stop {H : Type} {enc : TypeId × Value → H} {W : World} {cs : List Value} {d : DataW H} {p : List MemPlace} {fuel : Nat}
    (hlen : cs.length = 3) (hf : DataW.trod enc Tryd.prog W 0 (fun _ => true) true fuel 56 cs = some (d, p)) :
    ∃ s : Int × Int × Int, cs = [.int .i64 s.1, .int .i64 s.2.1, .int .i64 s.2.2] ∧ inI s.1 ∧ inI s.2.1 ∧ inI s.2.2 := by
  obtain ⟨xs, k, hk, hxy, _, hxl, hg⟩ := DataW.trod_struct Tryd.underlying56 hf
  match xs, hxl, cs, hlen with
  | [y0, y1, y2], _, [c0, c1, c2], _ =>
    have g0 := hg 0 _ rfl
    have g1 := hg 1 _ rfl
    have g2 := hg 2 _ rfl
    simp [Tryd.cellsInt] at g0 g1 g2
    obtain ⟨n0, e0, _, w0⟩ := DataW.trod_int Tryd.underlying3 g0
    obtain ⟨n1, e1, _, w1⟩ := DataW.trod_int Tryd.underlying3 g1
    obtain ⟨n2, e2, _, w2⟩ := DataW.trod_int Tryd.underlying3 g2
    simp at e0 e1 e2
    subst e0 e1 e2
    exact ⟨(n0, n1, n2), rfl, wfI w0, wfI w1, wfI w2⟩
set_option maxRecDepth 100000 in
theorem open_stops {H : Type} {enc : TypeId × Value → H} {W : World} {v : Value} {d : DataW H} {p : List MemPlace} {fuel : Nat}
    (hf : DataW.trod enc Tryd.prog W 0 (fun _ => true) true fuel 33 [v] = some (d, p)) (hw : ∀ x ∈ d.weights Tryd.prog 33, x ≤ reachBytes) :
    ∃ sa sn sc l, v = .slice sa sn sc ∧ StopsCame W sa sn sc l ∧ (∀ s, s ∈ l → inI s.1 ∧ inI s.2.1 ∧ inI s.2.2) ∧ sn ≤ 5864062014634 := by
  rcases Deep.open_slice Tryd.underlying33 hf with ⟨hcs, hx⟩ | ⟨a, len, cap, m, n, D, Pl, hcs, _, hl, hm, hmm, hx, hall⟩
  · simp at hcs
    subst hcs
    exact ⟨none, 0, 0, [], rfl, ⟨rfl, .inl ⟨rfl, rfl, rfl⟩⟩, (fun s hs => by cases hs), by omega⟩
  · simp at hcs
    subst hcs
    simp only [if_true] at hmm
    subst hmm
    have hd0 : d = .slice ((List.range len).map D) ((List.range (m - len)).map fun j => D (len + j)) := congrArg Prod.fst hx
    subst hd0
    have hw1 : m * 24 ≤ reachBytes := by
      have := hw (m * 24) (by simp only [DataW.weights, Tryd.underlying33, Tryd.bytesStop, List.length_map, List.length_range]; rw [show len + (m - len) = m by omega]; exact List.mem_cons_self)
      exact this
    unfold reachBytes at hw1
    have key : ∀ i, i < len → ∃ s : Int × Int × Int, (W.cell? (a.add (i * 3)) = some (.int .i64 s.1) ∧ W.cell? (a.add (i * 3 + 1)) = some (.int .i64 s.2.1) ∧ W.cell? (a.add (i * 3 + 2)) = some (.int .i64 s.2.2)) ∧ inI s.1 ∧ inI s.2.1 ∧ inI s.2.2 := by
      intro i hi
      obtain ⟨cs', h1, h2⟩ := hall i (by omega)
      rw [Tryd.cellsStop] at h1
      obtain ⟨_, hlen, hcc⟩ := World.cells?_some h1
      obtain ⟨s, hs, hin⟩ := open_stop hlen h2
      subst hs
      have q0 := hcc 0 (by omega)
      have q1 := hcc 1 (by omega)
      have q2 := hcc 2 (by omega)
      rw [Deep.add_add] at q0 q1 q2
      exact ⟨s, ⟨by simpa using q0, by simpa using q1, by simpa using q2⟩, hin⟩
    obtain ⟨f, hf'⟩ := Deep.choose_lt key
    refine ⟨some a, len, _, (List.range len).map f, rfl, ⟨by simp, .inr ⟨a, rfl, fun j u hj => ?_⟩⟩, fun s hs => ?_, by omega⟩
    · obtain ⟨i, s, hi, hh⟩ := stopCells_at _ j u hj
      have hil : i < len := by have := (List.getElem?_eq_some_iff.1 hi).1; simpa using this
      have es : s = f i := by simp [hil] at hi; exact hi.symm
      subst es
      obtain ⟨⟨c0, c1, c2⟩, _⟩ := hf' i hil
      rcases hh with ⟨rfl, rfl⟩ | ⟨rfl, rfl⟩ | ⟨rfl, rfl⟩
      · exact c0
      · exact c1
      · exact c2
    · simp at hs
      obtain ⟨i, hi, rfl⟩ := hs
      exact (hf' i hi).2
set_option maxRecDepth 100000 in
set_option maxHeartbeats 1000000 in
theorem open_actst_cells {H : Type} {enc : TypeId × Value → H} {W : World} {b o : Nat} {cs : List Value} {d : DataW H} {p : List MemPlace} {fuel : Nat}
    (hc : ∀ j, j < 7 → ∃ v, cs[j]? = some v ∧ W.cell? ⟨b, o + j, none⟩ = some v) (hlen : cs.length = 7)
    (hf : DataW.trod enc Tryd.prog W 0 (fun _ => true) true fuel 35 cs = some (d, p)) (hw : ∀ x ∈ d.weights Tryd.prog 35, x ≤ reachBytes) : ∃ q l, ActSt W b o q l := by
  obtain ⟨xs, k, hk, hxy, _, hxl, hg⟩ := DataW.trod_struct Tryd.underlying35 hf
  match xs, hxl, cs, hlen with
  | [y0, y1, y2, y3, y4, y5, y6], _, [c0, c1, c2, c3, c4, c5, c6], _ =>
    have g0 := hg 0 _ rfl
    have g1 := hg 1 _ rfl
    have g2 := hg 2 _ rfl
    have g3 := hg 3 _ rfl
    have g4 := hg 4 _ rfl
    have g5 := hg 5 _ rfl
    have g6 := hg 6 _ rfl
    simp [st_cells, Tryd.cellsStops, Tryd.cellsInt] at g0 g1 g2 g3 g4 g5 g6
    have hd0 : d = .agg [y0.1, y1.1, y2.1, y3.1, y4.1, y5.1, y6.1] := congrArg Prod.fst hxy
    subst hd0
    simp only [DataW.weights, Tryd.underlying35] at hw
    obtain ⟨n0, e0, _, _⟩ := DataW.trod_int Tryd.underlying3 g0
    obtain ⟨n1, e1, _, _⟩ := DataW.trod_int Tryd.underlying3 g1
    obtain ⟨s2, e2, d2, _⟩ := DataW.trod_string Tryd.underlying9 g2
    obtain ⟨s3, e3, d3, _⟩ := DataW.trod_string Tryd.underlying9 g3
    obtain ⟨s4, e4, d4, _⟩ := DataW.trod_string Tryd.underlying9 g4
    obtain ⟨n5, e5, _, _⟩ := DataW.trod_int Tryd.underlying3 g5
    obtain ⟨sa, sn, sc, l, hc6, hst, hin, hsn⟩ := open_stops (d := y6.1) (p := y6.2) g6 (fun x hx => hw x (DataW.weights_mem_each (j := 6) rfl rfl _ hx))
    subst hc6
    have z2 := size_of_weight (H := H) (s := s2) (d := y2.1) (by rw [d2]) (fun x hx => hw x (DataW.weights_mem_each (j := 2) rfl rfl _ hx))
    have z3 := size_of_weight (H := H) (s := s3) (d := y3.1) (by rw [d3]) (fun x hx => hw x (DataW.weights_mem_each (j := 3) rfl rfl _ hx))
    have z4 := size_of_weight (H := H) (s := s4) (d := y4.1) (by rw [d4]) (fun x hx => hw x (DataW.weights_mem_each (j := 4) rfl rfl _ hx))
    simp at e0 e1 e2 e3 e4 e5
    subst e0
    subst e1
    subst e2
    subst e3
    subst e4
    subst e5
    have k0 := hc 0 (by omega)
    have k1 := hc 1 (by omega)
    have k2 := hc 2 (by omega)
    have k3 := hc 3 (by omega)
    have k4 := hc 4 (by omega)
    have k5 := hc 5 (by omega)
    have k6 := hc 6 (by omega)
    simp at k0 k1 k2 k3 k4 k5 k6
    exact ⟨⟨n0, n1, s2, s3, s4, n5, sa, sn, sc⟩, l, ⟨k0, k1, k2, k3, k4, k5, k6, z2, z3⟩, hst, hin, hsn, z4⟩
set_option maxRecDepth 100000 in
theorem open_actsst_arg {H : Type} {enc : TypeId × Value → H} {W : World} {v : Value} {d : DataW H} {p : List MemPlace} {base : Nat} {ts : List TypeId} {ds : List (DataW H)} {j : Nat}
    (hok : Value.okWide Tryd.prog W .any base 22 v) (h0 : DataW.Trod enc Tryd.prog W 0 (fun _ => true) true 22 v d p)
    (hsz : (DataW.weightsEach Tryd.prog ts ds).all (· ≤ reachBytes) = true) (ht : ts[j]? = some 22) (hd : ds[j]? = some d) :
    ∃ _ : Unit, (∃ a len c, v = .slice a len c ∧ ActsSt W a len) ∧ True ∧ True := by
  refine ⟨(), ?_, trivial, trivial⟩
  obtain ⟨ao, len, cap, rfl⟩ := okWide_slice Tryd.underlying22 hok
  obtain ⟨fuel, hf0⟩ := h0
  have hf : DataW.trod enc Tryd.prog W 0 (fun _ => true) true fuel 22 [.slice ao len cap] = some (d, p) := by simpa [Value.cells] using hf0
  have hw : ∀ x ∈ d.weights Tryd.prog 22, x ≤ reachBytes := fun x hx => by
    have := List.all_eq_true.1 hsz _ (DataW.weights_mem_each ht hd _ hx)
    simpa using this
  refine ⟨ao, len, cap, rfl, ?_⟩
  rcases Deep.open_slice Tryd.underlying22 hf with ⟨hcs, hx⟩ | ⟨a, len', cap', m, n, D, Pl, hcs, _, hl, hm, hmm, hx, hall⟩
  · simp at hcs
    obtain ⟨rfl, rfl, rfl⟩ := hcs
    exact ⟨by omega, fun h => by omega⟩
  · simp at hcs
    obtain ⟨rfl, rfl, rfl⟩ := hcs
    simp only [if_true] at hmm
    subst hmm
    have hd0 : d = .slice ((List.range len).map D) ((List.range (m - len)).map fun j => D (len + j)) := congrArg Prod.fst hx
    subst hd0
    have hw1 : m * 96 ≤ reachBytes := by
      have := hw (m * 96) (by simp only [DataW.weights, Tryd.underlying22, Tryd.bytesAct, List.length_map, List.length_range]; rw [show len + (m - len) = m by omega]; exact List.mem_cons_self)
      exact this
    unfold reachBytes at hw1
    refine ⟨by omega, fun hpos => ?_⟩
    obtain ⟨b, off, spot⟩ := a
    have hcell : ∀ i, i < len → ∃ cs', cs'.length = 7 ∧ (∀ j, j < 7 → ∃ v, cs'[j]? = some v ∧ W.cell? ((⟨b, off, spot⟩ : Addr).add (i * 7 + j)) = some v) ∧ DataW.trod enc Tryd.prog W 0 (fun _ => true) true n 35 cs' = some (D i, Pl i) := by
      intro i hi
      obtain ⟨cs', h1, h2⟩ := hall i (by omega)
      rw [Tryd.cellsAct] at h1
      obtain ⟨_, hlen, hcc⟩ := World.cells?_some h1
      refine ⟨cs', hlen, fun j hj => ?_, h2⟩
      have := hcc j (by omega)
      rw [Deep.add_add] at this
      exact ⟨cs'[j]'(by omega), List.getElem?_eq_getElem _, by rw [this]; exact List.getElem?_eq_getElem _⟩
    have hspot : spot = none := by
      obtain ⟨_, _, h, _⟩ := hcell 0 (by omega)
      obtain ⟨v, _, h⟩ := h 0 (by omega)
      simpa [Addr.add] using World.cell?_spot h
    subst hspot
    have key : ∀ i, i < len → ∃ q l, ActSt W b (off + i * 7) q l := by
      intro i hi
      obtain ⟨cs', h1, h2, h3⟩ := hcell i hi
      refine open_actst_cells (fun j hj => ?_) h1 h3 (fun x hx => hw x ?_)
      · obtain ⟨v, e1, e2⟩ := h2 j hj
        refine ⟨v, e1, ?_⟩
        rw [add_none] at e2
        rw [← e2, Nat.add_assoc]
      · simp only [DataW.weights, Tryd.underlying22]
        exact List.mem_cons_of_mem _ (List.mem_append_left _ (weightsAll_mem (d := D i) (List.mem_map.2 ⟨i, List.mem_range.2 hi, rfl⟩) hx))
    obtain ⟨q, l, hq⟩ := key 0 (by omega)
    exact ⟨b, off, rfl, block_lt_of_cell hq.act.c0, key⟩
end Go.Proofs.YtbnicjpkfldcdaaDoor

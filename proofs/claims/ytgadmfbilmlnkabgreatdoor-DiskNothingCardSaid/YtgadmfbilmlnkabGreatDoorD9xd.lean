/- A script that came in. -/
import Derived.Test.YtgadmfbilmlnkabGreatDoorD9xb
import Derived.Test.YtgadmfbilmlnkabGreatDoorD9zf
import Derived.Deep.Slices
namespace Go.Proofs.YtgadmfbilmlnkabGreatDoor
open Go.Shelf Go.ChangeShapes Go.WideShapes Go.ChangeAt Go.RowKit Go.Lib

theorem Tryz.cellsAct : Tryz.prog.cellsOf 35 = 7 := by kernel_rfl
theorem Tryz.bytesAct : Tryz.prog.bytesOf 35 = 96 := by kernel_rfl
theorem Tryz.cellsInt : Tryz.prog.cellsOf 3 = 1 := by kernel_rfl
theorem Tryz.cellsStops : Tryz.prog.cellsOf 25 = 1 := by kernel_rfl
theorem add_none (b off i : Nat) : (⟨b, off, none⟩ : Addr).add i = ⟨b, off + i, none⟩ := by rw [Addr.add_lit]
theorem size_of_weight {H : Type} {s : ByteArray} {d : DataW H} (hd : d = .lit (.string s.data.toList)) (hw : ∀ x ∈ d.weights Tryz.prog 9, x ≤ reachBytes) : s.size ≤ 140737488355328 := by
  have := hw s.data.toList.length (by rw [hd]; simp [DataW.weights])
  unfold reachBytes at this
  have e : s.data.toList.length = s.size := rfl
  omega
set_option maxRecDepth 100000 in
set_option maxHeartbeats 1000000 in
theorem open_act_cells {H : Type} {enc : TypeId × Value → H} {W : World} {b o : Nat} {cs : List Value} {d : DataW H} {p : List MemPlace} {fuel : Nat}
    (hc : ∀ j, j < 7 → ∃ v, cs[j]? = some v ∧ W.cell? ⟨b, o + j, none⟩ = some v) (hlen : cs.length = 7)
    (hf : DataW.trod enc Tryz.prog W 0 (fun _ => true) true fuel 35 cs = some (d, p)) (hw : ∀ x ∈ d.weights Tryz.prog 35, x ≤ reachBytes) : ∃ q, ActAt W b o q := by
  obtain ⟨xs, k, hk, hxy, _, hxl, hg⟩ := DataW.trod_struct Tryz.underlying35 hf
  match xs, hxl, cs, hlen with
  | [y0, y1, y2, y3, y4, y5, y6], _, [c0, c1, c2, c3, c4, c5, c6], _ =>
    have g0 := hg 0 _ rfl
    have g1 := hg 1 _ rfl
    have g2 := hg 2 _ rfl
    have g3 := hg 3 _ rfl
    have g4 := hg 4 _ rfl
    have g5 := hg 5 _ rfl
    have g6 := hg 6 _ rfl
    simp [st_cells, Tryz.cellsStops, Tryz.cellsInt] at g0 g1 g2 g3 g4 g5 g6
    have hd0 : d = .agg [y0.1, y1.1, y2.1, y3.1, y4.1, y5.1, y6.1] := congrArg Prod.fst hxy
    subst hd0
    simp only [DataW.weights, Tryz.underlying35] at hw
    obtain ⟨n0, e0, _, _⟩ := DataW.trod_int Tryz.underlying3 g0
    obtain ⟨n1, e1, _, _⟩ := DataW.trod_int Tryz.underlying3 g1
    obtain ⟨s2, e2, d2, _⟩ := DataW.trod_string Tryz.underlying9 g2
    obtain ⟨s3, e3, d3, _⟩ := DataW.trod_string Tryz.underlying9 g3
    obtain ⟨s4, e4, _, _⟩ := DataW.trod_string Tryz.underlying9 g4
    obtain ⟨n5, e5, _, _⟩ := DataW.trod_int Tryz.underlying3 g5
    have hs : ∃ sa sn sc, c6 = .slice sa sn sc := by
      rcases DataW.trod_slice Tryz.underlying25 g6 with ⟨hcs, _⟩ | ⟨a, len, cap, _, _, _, _, hcs, _⟩
      · simp at hcs
        exact ⟨_, _, _, hcs⟩
      · simp at hcs
        exact ⟨_, _, _, hcs⟩
    obtain ⟨sa, sn, sc, rfl⟩ := hs
    have z2 := size_of_weight (H := H) (s := s2) (d := y2.1) (by rw [d2]) (fun x hx => hw x (DataW.weights_mem_each (j := 2) rfl rfl _ hx))
    have z3 := size_of_weight (H := H) (s := s3) (d := y3.1) (by rw [d3]) (fun x hx => hw x (DataW.weights_mem_each (j := 3) rfl rfl _ hx))
    simp at e0 e1 e2 e3 e4 e5
    subst e0
    subst e1
    subst e2
    subst e3
    subst e4
    subst e5
    have k0 := hc 0 (by omega)
    have k1 := hc 1 (by omega)
    have k2 := hc 2 (by omega)
    have k3 := hc 3 (by omega)
    have k4 := hc 4 (by omega)
    have k5 := hc 5 (by omega)
    have k6 := hc 6 (by omega)
    simp at k0 k1 k2 k3 k4 k5 k6
    exact ⟨⟨n0, n1, s2, s3, s4, n5, sa, sn, sc⟩, k0, k1, k2, k3, k4, k5, k6, z2, z3⟩
theorem weightsAll_mem {H : Type} {P : Program} {t : TypeId} : ∀ {l : List (DataW H)} {d : DataW H} {x : Nat}, d ∈ l → x ∈ d.weights P t → x ∈ DataW.weightsAll P t l
  | e :: l, d, x, hd, hx => by
    simp only [DataW.weightsAll, List.mem_append]
    rcases List.mem_cons.1 hd with rfl | hd
    · exact .inl hx
    · exact .inr (weightsAll_mem hd hx)
set_option maxRecDepth 100000 in
theorem open_acts_arg {H : Type} {enc : TypeId × Value → H} {W : World} {v : Value} {d : DataW H} {p : List MemPlace} {base : Nat} {ts : List TypeId} {ds : List (DataW H)} {j : Nat}
    (hok : Value.okWide Tryz.prog W .any base 22 v) (h0 : DataW.Trod enc Tryz.prog W 0 (fun _ => true) true 22 v d p)
    (hsz : (DataW.weightsEach Tryz.prog ts ds).all (· ≤ reachBytes) = true) (ht : ts[j]? = some 22) (hd : ds[j]? = some d) :
    ∃ _ : Unit, (∃ a len c, v = .slice a len c ∧ ActsAt W a len) ∧ True ∧ True := by
  refine ⟨(), ?_, trivial, trivial⟩
  obtain ⟨ao, len, cap, rfl⟩ := okWide_slice Tryz.underlying22 hok
  obtain ⟨fuel, hf0⟩ := h0
  have hf : DataW.trod enc Tryz.prog W 0 (fun _ => true) true fuel 22 [.slice ao len cap] = some (d, p) := by simpa [Value.cells] using hf0
  have hw : ∀ x ∈ d.weights Tryz.prog 22, x ≤ reachBytes := fun x hx => by
    have := List.all_eq_true.1 hsz _ (DataW.weights_mem_each ht hd _ hx)
    simpa using this
  refine ⟨ao, len, cap, rfl, ?_⟩
  rcases Deep.open_slice Tryz.underlying22 hf with ⟨hcs, hx⟩ | ⟨a, len', cap', m, n, D, Pl, hcs, _, hl, hm, hmm, hx, hall⟩
  · simp at hcs
    obtain ⟨rfl, rfl, rfl⟩ := hcs
    exact ⟨by omega, fun h => by omega⟩
  · simp at hcs
    obtain ⟨rfl, rfl, rfl⟩ := hcs
    simp only [if_true] at hmm
    subst hmm
    have hd0 : d = .slice ((List.range len).map D) ((List.range (m - len)).map fun j => D (len + j)) := congrArg Prod.fst hx
    subst hd0
    have hw1 : m * 96 ≤ reachBytes := by
      have := hw (m * 96) (by simp only [DataW.weights, Tryz.underlying22, Tryz.bytesAct, List.length_map, List.length_range]; rw [show len + (m - len) = m by omega]; exact List.mem_cons_self)
      exact this
    unfold reachBytes at hw1
    refine ⟨by omega, fun hpos => ?_⟩
    obtain ⟨b, off, spot⟩ := a
    have hcell : ∀ i, i < len → ∃ cs', cs'.length = 7 ∧ (∀ j, j < 7 → ∃ v, cs'[j]? = some v ∧ W.cell? ((⟨b, off, spot⟩ : Addr).add (i * 7 + j)) = some v) ∧ DataW.trod enc Tryz.prog W 0 (fun _ => true) true n 35 cs' = some (D i, Pl i) := by
      intro i hi
      obtain ⟨cs', h1, h2⟩ := hall i (by omega)
      rw [Tryz.cellsAct] at h1
      obtain ⟨_, hlen, hcc⟩ := World.cells?_some h1
      refine ⟨cs', hlen, fun j hj => ?_, h2⟩
      have := hcc j (by omega)
      rw [Deep.add_add] at this
      exact ⟨cs'[j]'(by omega), List.getElem?_eq_getElem _, by rw [this]; exact List.getElem?_eq_getElem _⟩
    have hspot : spot = none := by
      obtain ⟨_, _, h, _⟩ := hcell 0 (by omega)
      obtain ⟨v, _, h⟩ := h 0 (by omega)
      simpa [Addr.add] using World.cell?_spot h
    subst hspot
    have key : ∀ i, i < len → ∃ q, ActAt W b (off + i * 7) q := by
      intro i hi
      obtain ⟨cs', h1, h2, h3⟩ := hcell i hi
      refine open_act_cells (fun j hj => ?_) h1 h3 (fun x hx => hw x ?_)
      · obtain ⟨v, e1, e2⟩ := h2 j hj
        refine ⟨v, e1, ?_⟩
        rw [add_none] at e2
        rw [← e2, Nat.add_assoc]
      · simp only [DataW.weights, Tryz.underlying22]
        exact List.mem_cons_of_mem _ (List.mem_append_left _ (weightsAll_mem (d := D i) (List.mem_map.2 ⟨i, List.mem_range.2 hi, rfl⟩) hx))
    obtain ⟨q, hq⟩ := key 0 (by omega)
    exact ⟨b, off, rfl, block_lt_of_cell hq.c0, key⟩
end Go.Proofs.YtgadmfbilmlnkabGreatDoor

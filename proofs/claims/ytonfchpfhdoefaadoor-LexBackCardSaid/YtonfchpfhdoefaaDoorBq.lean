/- Lists of words that came in. -/
import Derived.Test.YtonfchpfhdoefaaDoorAb
import Derived.Test.YtonfchpfhdoefaaDoorXt
import Derived.Deep.Slices
namespace Go.Proofs.YtonfchpfhdoefaaDoor
open Go.Shelf Go.ChangeShapes Go.WideShapes Go.ChangeAt Go.RowKit Go.Lib

theorem Tryd.cellsWord : Tryd.prog.cellsOf 48 = 4 := by kernel_rfl
theorem Tryd.cellsWords : Tryd.prog.cellsOf 29 = 1 := by kernel_rfl
theorem Tryd.cellsIntW : Tryd.prog.cellsOf 3 = 1 := by kernel_rfl
theorem Tryd.cellsStrW : Tryd.prog.cellsOf 9 = 1 := by kernel_rfl
theorem Tryd.cellsBoolW : Tryd.prog.cellsOf 4 = 1 := by kernel_rfl
theorem add_noneW (b off i : Nat) : (⟨b, off, none⟩ : Addr).add i = ⟨b, off + i, none⟩ := by rw [Addr.add_lit]
set_option maxRecDepth 100000 in
set_option maxHeartbeats 1000000 in
/-- A slice of words, opened, however deep. -/
theorem open_words_cells {H : Type} {enc : TypeId × Value → H} {W : World} : ∀ (fuel : Nat) {v : Value} {d : DataW H} {p : List MemPlace},
    DataW.trod enc Tryd.prog W 0 (fun _ => true) true fuel 29 [v] = some (d, p) → ∃ a n c l, v = .slice a n c ∧ Lies W (fun g => g < W.heap.size) a n c l := by
  intro fuel
  induction fuel using Nat.strongRecOn with
  | ind fuel ih =>
  intro v d p hf
  rcases DataW.trod_slice Tryd.underlying29 hf with ⟨hcs, hx⟩ | ⟨a, len, cap, elems, rest, n, rfl, hcs, hx, hb, hl, hm, hlen, hall, _, _⟩
  · simp at hcs
    exact ⟨none, 0, 0, [], hcs, .nil⟩
  · simp at hcs
    subst hcs
    by_cases h0 : len = 0
    · subst h0
      exact ⟨_, _, _, [], rfl, .nil⟩
    obtain ⟨b, off, spot⟩ := a
    have hcell : ∀ i, i < len → ∃ cs' x, cs'.length = 4 ∧ (∀ j, j < 4 → ∃ v, cs'[j]? = some v ∧ W.cell? ((⟨b, off, spot⟩ : Addr).add (i * 4 + j)) = some v) ∧ DataW.trod enc Tryd.prog W 0 (fun _ => true) true n 48 cs' = some x := by
      intro i hi
      have h1 := hall i hi
      rw [Tryd.cellsWord, List.getElem?_eq_getElem (by omega)] at h1
      obtain ⟨cs', h2, h3⟩ := Option.bind_eq_some_iff.1 h1
      obtain ⟨_, hlen', hcc⟩ := World.cells?_some h2
      refine ⟨cs', _, hlen', fun j hj => ?_, h3⟩
      have := hcc j (by omega)
      rw [Deep.add_add] at this
      exact ⟨cs'[j]'(by omega), List.getElem?_eq_getElem _, by rw [this]; exact List.getElem?_eq_getElem _⟩
    have hspot : spot = none := by
      obtain ⟨_, _, _, h, _⟩ := hcell 0 (by omega)
      obtain ⟨v, _, h⟩ := h 0 (by omega)
      simpa [Addr.add] using World.cell?_spot h
    subst hspot
    have key : ∀ i, i < len → ∃ q : Wd × Option Addr × Nat × Nat, (W.cell? ⟨b, off + i * 4, none⟩ = some (.int .i64 q.1.kind) ∧ W.cell? ⟨b, off + i * 4 + 1, none⟩ = some (.string q.1.text) ∧ W.cell? ⟨b, off + i * 4 + 2, none⟩ = some (.slice q.2.1 q.2.2.1 q.2.2.2) ∧ W.cell? ⟨b, off + i * 4 + 3, none⟩ = some (.bool q.1.glued)) ∧ Lies W (fun g => g < W.heap.size) q.2.1 q.2.2.1 q.2.2.2 q.1.kids := by
      intro i hi
      obtain ⟨cs', x, h1, h2, h3⟩ := hcell i hi
      obtain ⟨xs, k, hk, hxy, _, hxl, hg⟩ := DataW.trod_struct Tryd.underlying48 h3
      match xs, hxl, cs', h1 with
      | [y0, y1, y2, y3], _, [c0, c1, c2, c3], _ =>
        have g0 := hg 0 _ rfl
        have g1 := hg 1 _ rfl
        have g2 := hg 2 _ rfl
        have g3 := hg 3 _ rfl
        simp [Tryd.cellsStrW, Tryd.cellsWords, Tryd.cellsIntW, Tryd.cellsBoolW] at g0 g1 g2 g3
        obtain ⟨n0, e0, _, _⟩ := DataW.trod_int Tryd.underlying3 g0
        obtain ⟨s, e1, _, _⟩ := DataW.trod_string Tryd.underlying9 g1
        obtain ⟨a2, n2, c2', l2, e2, hli⟩ := ih k (by omega) (d := y2.1) (p := y2.2) g2
        obtain ⟨b3, e3, _⟩ := DataW.trod_bool Tryd.underlying4 g3
        simp at e0 e1 e3
        subst e0
        subst e1
        subst e2
        subst e3
        have k0 := h2 0 (by omega)
        have k1 := h2 1 (by omega)
        have k2 := h2 2 (by omega)
        have k3 := h2 3 (by omega)
        simp [add_noneW] at k0 k1 k2 k3
        exact ⟨(.mk n0 s l2 b3, a2, n2, c2'), ⟨k0, by rw [Nat.add_assoc]; exact k1, by rw [Nat.add_assoc]; exact k2, by rw [Nat.add_assoc]; exact k3⟩, hli⟩
    haveI : Inhabited Wd := ⟨wd0⟩
    obtain ⟨q, hq⟩ := Deep.choose_lt key
    have hlt : b < W.heap.size := block_lt_of_cell (hq 0 (by omega)).1.1
    have hll : ((List.range len).map fun i => (q i).1).length = len := by simp
    have eg : ∀ i, i < len → ((List.range len).map fun i => (q i).1).getD i wd0 = (q i).1 := fun i hi => by simp [List.getD, hi]
    refine ⟨_, _, _, (List.range len).map fun i => (q i).1, rfl, ?_⟩
    have := Lies.row (w := W) (D := fun g => g < W.heap.size) b off cap ((List.range len).map fun i => (q i).1) (fun i => (q i).2.1) (fun i => (q i).2.2.1) (fun i => (q i).2.2.2) hlt hlt (by omega) (fun i hi => by
      rw [hll] at hi
      rw [eg i hi]
      exact (hq i hi).1) (fun i hi => by
      rw [hll] at hi
      rw [eg i hi]
      exact (hq i hi).2)
    rw [hll] at this
    exact this
set_option maxRecDepth 100000 in
/-- A list of words that came in. -/
theorem open_words_arg {H : Type} {enc : TypeId × Value → H} {W : World} {v : Value} {d : DataW H} {p : List MemPlace} {base : Nat}
    (hok : Value.okWide Tryd.prog W .any base 29 v) (h0 : DataW.Trod enc Tryd.prog W 0 (fun _ => true) true 29 v d p) :
    ∃ a n c l, v = .slice a n c ∧ Lies W (fun g => g < W.heap.size) a n c l := by
  obtain ⟨ao, len, cap, rfl⟩ := okWide_slice Tryd.underlying29 hok
  obtain ⟨fuel, hf0⟩ := h0
  have hf : DataW.trod enc Tryd.prog W 0 (fun _ => true) true fuel 29 [.slice ao len cap] = some (d, p) := by simpa [Value.cells] using hf0
  exact open_words_cells fuel hf
end Go.Proofs.YtonfchpfhdoefaaDoor

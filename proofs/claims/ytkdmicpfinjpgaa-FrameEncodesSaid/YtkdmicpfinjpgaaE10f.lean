/- Rows of questions as an argument (stage 10). -/
import Derived.Test.YtkdmicpfinjpgaaLr
import Derived.Test.YtkdmicpfinjpgaaE10e
import Derived.SliceStrings
import Derived.Deep.Slices
namespace Go.Proofs.Ytkdmicpfinjpgaa
open Go.Shelf Go.ChangeShapes Go.WideShapes Go.ChangeAt Go.RowKit Go.Lib
open Go.ChangeMaps (open_string shut_string)

instance : Inhabited AskQ := ⟨askQ0⟩
theorem ask_block_lt {w : World} {a : Addr} {v : Value} (h : w.cell? a = some v) : a.block < w.heap.size := by
  rcases Nat.lt_or_ge a.block w.heap.size with h1 | h1
  · exact h1
  · unfold World.cell? at h
    rw [Array.getElem?_eq_none h1] at h
    simp at h
theorem ask_add_none (b o i : Nat) : (⟨b, o, none⟩ : Addr).add i = ⟨b, o + i, none⟩ := by
  unfold Addr.add; split
  · rename_i h; rw [h]; rfl
  · rfl
theorem ask_weightsAll_mem {H : Type} {e : TypeId} {l : List (DataW H)} {d : DataW H} {x : Nat} (hd : d ∈ l) (hx : x ∈ d.weights Try.prog e) : x ∈ DataW.weightsAll Try.prog e l := by
  induction l with
  | nil => cases hd
  | cons a r ih =>
    rw [DataW.weightsAll, List.mem_append]
    rcases List.mem_cons.1 hd with rfl | h
    · exact .inl hx
    · exact .inr (ih h)
theorem Try.cellsAsk : Try.prog.cellsOf 24 = 5 := by kernel_rfl
theorem Try.bytesAsk : Try.prog.bytesOf 24 = 48 := by kernel_rfl
theorem Try.cellsStr : Try.prog.cellsOf 9 = 1 := by kernel_rfl
theorem Try.cellsInt : Try.prog.cellsOf 3 = 1 := by kernel_rfl
set_option maxRecDepth 100000 in
set_option maxHeartbeats 1000000 in
theorem open_ask_cells {H : Type} {enc : TypeId × Value → H} {W : World} {b o : Nat} {cs : List Value} {d : DataW H} {p : List MemPlace} {fuel : Nat}
    (hc : ∀ j, j < 5 → ∃ v, cs[j]? = some v ∧ W.cell? ⟨b, o + j, none⟩ = some v) (hlen : cs.length = 5)
    (hf : DataW.trod enc Try.prog W 0 (fun _ => true) true fuel 24 cs = some (d, p)) (hw : ∀ x ∈ d.weights Try.prog 24, x ≤ reachBytes) : ∃ q, AskAt W b o q ∧ q.s.size ≤ 140737488355328 := by
  obtain ⟨xs, k, hk, hxy, _, hxl, hg⟩ := DataW.trod_struct Try.underlying24 hf
  match xs, hxl, cs, hlen with
  | [y0, y1, y2, y3, y4], _, [c0, c1, c2, c3, c4], _ =>
    have g0 := hg 0 _ rfl
    have g1 := hg 1 _ rfl
    have g2 := hg 2 _ rfl
    have g3 := hg 3 _ rfl
    have g4 := hg 4 _ rfl
    simp [Try.cellsStr, Try.cellsInt] at g0 g1 g2 g3 g4
    have hd0 : d = .agg [y0.1, y1.1, y2.1, y3.1, y4.1] := congrArg Prod.fst hxy
    subst hd0
    simp only [DataW.weights, Try.underlying24] at hw
    obtain ⟨k0, hk0, _, _⟩ := DataW.trod_int Try.underlying3 g0
    obtain ⟨k1, hk1, _, _⟩ := DataW.trod_int Try.underlying3 g1
    obtain ⟨s, hs, hy2, _⟩ := DataW.trod_string Try.underlying9 g2
    obtain ⟨k3, hk3, _, _⟩ := DataW.trod_int Try.underlying3 g3
    obtain ⟨k4, hk4, _, _⟩ := DataW.trod_int Try.underlying3 g4
    have hzs : s.size ≤ 140737488355328 := by
      have := hw s.data.toList.length (DataW.weights_mem_each (j := 2) rfl rfl _ (by rw [hy2]; simp [DataW.weights]))
      unfold reachBytes at this
      have e : s.data.toList.length = s.size := rfl
      omega
    simp at hs hk0 hk1 hk3 hk4
    subst hs hk0 hk1 hk3 hk4
    have j0 := hc 0 (by omega)
    have j1 := hc 1 (by omega)
    have j2 := hc 2 (by omega)
    have j3 := hc 3 (by omega)
    have j4 := hc 4 (by omega)
    simp at j0 j1 j2 j3 j4
    exact ⟨⟨k0, k1, s, k3, k4⟩, ⟨j0, j1, j2, j3, j4⟩, hzs⟩
set_option maxRecDepth 100000 in
theorem open_asks_arg {H : Type} {enc : TypeId × Value → H} {W : World} {v : Value} {d : DataW H} {p : List MemPlace} {base : Nat} {ts : List TypeId} {ds : List (DataW H)} {j : Nat}
    (hok : Value.okWide Try.prog W .any base 22 v) (h0 : DataW.Trod enc Try.prog W 0 (fun _ => true) true 22 v d p)
    (hsz : (DataW.weightsEach Try.prog ts ds).all (· ≤ reachBytes) = true) (ht : ts[j]? = some 22) (hd : ds[j]? = some d) :
    ∃ A, Asks W v A ∧ A.length ≤ 10000000000000 ∧ ∀ i, i < A.length → (A.getD i askQ0).s.size ≤ 140737488355328 := by
  obtain ⟨ao, len, cap, rfl⟩ := okWide_slice Try.underlying22 hok
  obtain ⟨fuel, hf0⟩ := h0
  have hf : DataW.trod enc Try.prog W 0 (fun _ => true) true fuel 22 [.slice ao len cap] = some (d, p) := by simpa [Value.cells] using hf0
  have hw : ∀ x ∈ d.weights Try.prog 22, x ≤ reachBytes := fun x hx => by
    have := List.all_eq_true.1 hsz _ (DataW.weights_mem_each ht hd _ hx)
    simpa using this
  rcases Deep.open_slice Try.underlying22 hf with ⟨hcs, hx⟩ | ⟨a, len', cap', m, n, D, Pl, hcs, _, hl, hm, hmm, hx, hall⟩
  · simp at hcs
    obtain ⟨rfl, rfl, rfl⟩ := hcs
    exact ⟨[], ⟨none, 0, rfl, fun h => by simp at h⟩, by simp, fun i hi => by simp at hi⟩
  · simp at hcs
    obtain ⟨rfl, rfl, rfl⟩ := hcs
    simp only [if_true] at hmm
    subst hmm
    have hd0 : d = .slice ((List.range len).map D) ((List.range (m - len)).map fun j => D (len + j)) := congrArg Prod.fst hx
    subst hd0
    have hw1 : m * 48 ≤ reachBytes := by
      have := hw (m * 48) (by simp only [DataW.weights, Try.underlying22, Try.bytesAsk, List.length_map, List.length_range]; rw [show len + (m - len) = m by omega]; exact List.mem_cons_self)
      exact this
    unfold reachBytes at hw1
    by_cases h0 : len = 0
    · subst h0
      exact ⟨[], ⟨_, _, rfl, fun h => by simp at h⟩, by simp, fun i hi => by simp at hi⟩
    · obtain ⟨b, off, spot⟩ := a
      have hcell : ∀ i, i < len → ∃ cs', cs'.length = 5 ∧ (∀ j, j < 5 → ∃ v, cs'[j]? = some v ∧ W.cell? ((⟨b, off, spot⟩ : Addr).add (i * 5 + j)) = some v) ∧ DataW.trod enc Try.prog W 0 (fun _ => true) true n 24 cs' = some (D i, Pl i) := by
        intro i hi
        obtain ⟨cs', h1, h2⟩ := hall i (by omega)
        rw [Try.cellsAsk] at h1
        obtain ⟨_, hlen, hcc⟩ := World.cells?_some h1
        refine ⟨cs', hlen, fun j hj => ?_, h2⟩
        have := hcc j (by omega)
        rw [Deep.add_add] at this
        exact ⟨cs'[j]'(by omega), List.getElem?_eq_getElem _, by rw [this]; exact List.getElem?_eq_getElem _⟩
      have hspot : spot = none := by
        obtain ⟨_, _, h, _⟩ := hcell 0 (by omega)
        obtain ⟨v, _, h⟩ := h 0 (by omega)
        simpa [Addr.add] using World.cell?_spot h
      subst hspot
      have hbl : b < W.heap.size := by
        obtain ⟨_, _, h, _⟩ := hcell 0 (by omega)
        obtain ⟨v, _, h⟩ := h 0 (by omega)
        rw [ask_add_none] at h
        exact ask_block_lt h
      have key : ∀ i, i < len → ∃ q, AskAt W b (off + i * 5) q ∧ q.s.size ≤ 140737488355328 := by
        intro i hi
        obtain ⟨cs', h1, h2, h3⟩ := hcell i hi
        refine open_ask_cells (fun j hj => ?_) h1 h3 (fun x hx => hw x ?_)
        · obtain ⟨v, e1, e2⟩ := h2 j hj
          refine ⟨v, e1, ?_⟩
          rw [ask_add_none] at e2
          rw [← e2, Nat.add_assoc]
        · simp only [DataW.weights, Try.underlying22]
          exact List.mem_cons_of_mem _ (List.mem_append_left _ (ask_weightsAll_mem (d := D i) (List.mem_map.2 ⟨i, List.mem_range.2 hi, rfl⟩) hx))
      obtain ⟨q, hq⟩ := Deep.choose_lt key
      have eg : ∀ i, i < len → ((List.range len).map q).getD i askQ0 = q i := fun i hi => by simp [List.getD, hi]
      refine ⟨(List.range len).map q, ⟨_, _, by simp; rfl, fun _ => ⟨b, off, rfl, hbl, fun i hi => ?_⟩⟩, by simp; omega, fun i hi => ?_⟩
      · have hi' : i < len := by simpa using hi
        rw [eg i hi']
        exact (hq i hi').1
      · have hi' : i < len := by simpa using hi
        rw [eg i hi']
        exact (hq i hi').2
end Go.Proofs.Ytkdmicpfinjpgaa
